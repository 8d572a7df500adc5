import PyProof.Rows.All
import Wide.All
import OpenK.AllK
import Wide.FinOn
import Lean
import PyProof.EqAt
import PyProof.EqKinds
import PyProof.TupleCall
import PySem.Str
import PyProof.ZipIter
import PyProof.IsiBase
import KE.KItemsList
import KE.KIsAll
import OpenK.KOwn
import KE.KSortAsk
import PyProof.StrBlockI
import PyProof.Rows.EqDataRows
import PyProof.Rows.InDataRows
import PyProof.SumWalkG
import PyProof.ConsumeWalk
import PyProof.WalksMore
import KE.KSortTup
import PyProof.ListMulRoad
import PyProof.EnumFor
import PyProof.Rows.EnumRows
import PyProof.StrBlockL
import PyProof.JoinWalk
import PyProof.NsDelKeeps
import KE.KTryDeep
import PyProof.InstStoreFacts
import PyProof.NsCount
import PyProof.ExcClass2
import PyProof.Rows.FStr
import PyProof.StationsW
import PyProof.Rows.Catch
import KE.KRevIter
import PyProof.CollectIter
import PyProof.TupleOfGen
import PyProof.Rows.Tup
import PyProof.Draws
import PyProof.EnumMake
import PyProof.StrWalks
import PyProof.SliceStr2
import PyProof.ListNew
import KE.KDictOf
import PyProof.ListRange
import PyProof.Rows.GenSrcRange
import PyProof.ListCopy
import PyProof.AttrMissHeap
import PyProof.DictWalks
import PyProof.FactsDict
import KE.KSortKey
import KE.IntText
import PyProof.TableCode
import PyProof.Rows.KernelRfl
import PyProof.StrLawsTight
import PyProof.StrLawsChain
import PyProof.Rows.StrItems
import KE.KIntText
import PyProof.SliceList
import PySem.Challenge.RW_barsplit_k13_whole_texts_both_ways
open PySem.W renaming Frag → mD,kia_one → nh,kitOne → oq,kia_tup → ox,cellsFrom_some → pf,kitx_dict → pv,fnOf → pA,nsIn → pL,keepIn → pP,findIn → pQ,kitx_list → pT,mg_of → rf,codeIn → rF,kitx_tuple → rN,methodObj → rX,kitx_none → rY,kitx_bool → rZ,kitx_str → so,kitx_int → sr
open PySem renaming wpAny_bind → mE,wpAny_pure → mL,wpAny_newObj_type → nT,wpAny_field → nU,wpAny_callSpecial?_slot → oi,wpAny_truthy_bool → oj,wpAny_mono → oC,wpAny_call_entry → oI,wpAny_seqItems → oJ,wpAny_loadPart' → oS,mem_of_lookup → oT,Builtin → pe,call_meets → px,wpAny_setField_rec → pC,wpAny_getItem_str_slice → pD,wpAny_Call_Name_kw → pE,intText? → pS,wpAny_passesOwn → pY,pushCells_keeps → rd,typeIs_str → rD,wpAny_holding → rK,wpAny_execs_nil → rT,post_val_or_str → rV,wpAny_updateSeq_pair → si,wpAny_onRaise → sI,wpAny_rule → sM,wpAny_typeOf → sO,codeAny_mono → sP,noFill_tuple_add → sQ,Addr → c8,Value → di,Expr → dV,Shared → d0,eval → d1,model → d4,Heap → d6,Pos → d9,starEach → eg,sizeLine → ej,Scope → ep,World → eW,Stmt → e7,Program → fy,Env → h8,Obj → h9,compareOp → ij,mainGlobals → iv,IsPair → i0,Around → i4,backTo → i5,cellsFrom → l4,FuncData → l8,IsZip → m7,NameKind → m8,binaryOp → nf,relabel → n2,assign → n6,foldedSetIterable → oe,IsPart → o5,Keyword → o6,assignEach → o9,behindInMarks → pa,getItem → p0,swapsWith → p8,pushCells → rr,sysModules → r0,bindC → sT,bindL → sU,bootBuiltins → sV,callerA → sW,holding → s8,spliced → tj,Builtin → tr,atKey → tx,valueAt → tN,cLine → t2,isTrue → t8,letOwnedTupleGo → t9,BindsTo → uj,Meets → uq,attributeBase → uw,backToKw → ux,pyIter → uH,pyNext → uI,rawInt → uJ,ZipApart → uW,lastMarks → u6,standAt → x4,subscripted → y2,swapsWithSole → y3,PassesOwn → Ah,builtinsNs → Ai,newFunctionEnv → As,seqIndex_neg → Aw,seqIndex_of → Ax,seq_tuple_add → Ay,setItem → Az,swappedStores → AE,tupleKind → AJ,typeLookup → AO,wpAny_Name → AQ,firstArgMember → A4,wpAny_assign_Name → Bo,wpAny_sequenceKey → Bp
open PySem.Heap renaming get?_push_of_some → mF,lt_size → mS,get?_push_size → mX,push → nG,size_push → nN,SameBut → oY
open List renaming range → mG,replicate → mI,mem_cons → mJ,getElem?_set_ne → mK,mem_cons_self → mM,getElem?_eq_getElem → mO,getElem?_eq_some_iff → mP,mem_cons_of_mem → mQ,size_toArray → mT,length_map → mZ,eq_nil_of_length_eq_zero → ng,map_cons → nj,getElem?_append_left → nk,getElem?_append_right → nu,lookup_cons → nv,getElem?_map → ny,length_append → nz,mem_append_right → nB,not_mem_nil → nC,getElem?_set_self → nD,mem_map → nH,map_map → nL,mem_range → nM,all_eq_true → nO,mem_singleton → nX,filterMap_cons_some → nY,replicate_succ → oh,length_cons → ot,mem_append → oz,filterMap_cons_none → oA,take_of_length_le → oF,getElem?_eq_none → oK,flatten_cons → oQ,getD_eq_getElem?_getD → oR,map_congr_left → oW,getElem?_replicate → ph,find?_cons → pj,range_succ → pN,nodup_cons → pO,drop_eq_getElem_cons → pX,length_range → rl,getElem?_cons_zero → rA,any_cons → rB,length_take → rC,length_singleton → rG,length_nil → rH,mem_of_getElem? → rM,filterMap_cons → rS,set_cons_zero → se,set_cons_succ → sf,all_cons → sg,map_nil → sA
open Option renaming bind_some → mH,some → nV,map → om,map_some → pH,isSome_iff_exists → pW,some → b8,none → cp
open Nat renaming le_refl → mN,lt_of_lt_of_le → mU,le_trans → nc,ne_of_lt → nt,lt_succ_of_lt → nR,le_add_right → nZ,lt_irrefl → oa,zero_le → oO,ne_of_gt → pb,lt_succ_self → pG,zero_add → sG,le_of_lt → sH
open Bool renaming and_eq_true → mR,false_ne_true → mW,or_eq_true → nK,not_eq_true' → rm,eq_iff_iff → rJ,true → b9,false → cq
open PySem.Str renaming ofString → mV,join → oH,empty → pq
open PySem.NameKind renaming free → mY,cell → oy
open PySem.Builtin.SmallTypes renaming nextOf → nr,ownedTupleIsFree → nS,ownedTupleHandOut → pR
open Option.some renaming inj → nA
open PyProof.Rows renaming slot_tuple_getitem → nE,callWith_type1 → oB,callWith_builtin1 → oZ,boot_tuple → pM,boot_int → pV,slot_tupleiter_next → pZ,tupleItemsOf_ → rL,boot_isinstance → rO,AllBare → qs,IsTup → tX,IntsAre → um,envOfC → uz,Subscript_ → uS,subscriptTail → AD,args_tuple_getitem → AU,args_tupleiter_next → AV,entry_tupleiter_next → AY,subscriptTail_builtinR → Bj
open PySem.Builtin.Str renaming occurrences → nF,strSliceIndices → oD,partsBetween → pJ
open PySem.SeqAt renaming EqAt → nI
open PySem.Value renaming ref → nJ,none → oV,str → rE,int → rW,type → sj,bool → sk
open PySem.Builtin.Tuple renaming tupleExact → nP,tupleIsExact → oE
open True renaming intro → nQ
open Ne renaming symm → nW
open Int renaming eq_ofNat_of_zero_le → og,emod_lt_of_pos → ow,emod_nonneg → oP,toNat_natCast → sC
open Sum renaming inr → oo,inl → su
open PySem.Calls renaming spliced_cons → ou,spliced_nil → rj
open PySem.Builtin.Slice renaming slicePlaces → oG,sliceAdjust → pF
open PySem.Txt renaming split → oM,slice → oN,startswith → rQ,slice_le → sF
open PySem.PyData renaming depth → oU,eqv → pz,canLay0 → pB,eqvAll → rR,canLayAll0 → sd
open False renaming elim → oX
open PySem.Challenge renaming rw_barsplit_k13_whole_texts_both_ways → pd
open PySem.F renaming slot_tuple_mul → pI,args_tuple_add_2 → pU,entry_tuple_add → rh,slot_tuple_add → rn,plainAttrs_str → rq,slot_zip_next → rP,args_tuple_mul_2 → sD,args_str_split_2 → sE,entry_tuple_mul → sJ,entry_str_split → sL,slot_str_split → sN
open Array renaming length_toList → pK
open ForInStep renaming yield → rz
open PySem.Obj renaming mapSeq → sv
local macro_rules | `(⋯) => `(by first | decide +kernel | omega | simp)
set_option autoImplicit true
noncomputable section
set_option Elab.async false
set_option linter.all false
set_option maxRecDepth 100000
set_option maxHeartbeats 4000000
abbrev GQ:=PySem.Value->PySem.Shared->Prop
abbrev GW:=List (PySem.Addr×PySem.Obj)
abbrev GV:=Nat->Nat->Nat->Int
abbrev GK:=Nat->Nat->Int
abbrev GX:=Nat->Bool
abbrev GZ:=Nat->Nat
abbrev GJ:=PySem.Str->Option PySem.Value
theorem GY{c:Prop}{h:Decidable c}(z:c){α}{a b:α}:ite c a b=a:=if_pos z
theorem MQ{c:Prop}{h:Decidable c}(z:¬c){α}{a b:α}:ite c a b=b:=if_neg z
namespace L2
open PySem PySem.Spec PyProof.Rows
abbrev Key:=Sum Int Str
noncomputable def Xc:Key->di->Bool
 | .inl k,v=>Value.isInt k v
 | .inr x,v=>Value.isStrOf x v
noncomputable def lO(w:eW):Key->Int
 | .inl k=>hashInt k
 | .inr x=>hashStr w x
theorem ja : ∀{k:Key} {v:di},Xc k v=b9->(∃i t,k=su i/\v=rW i t)\/(∃x t,k=oo x/\v=rE x t)
 | .inl i,v,h=>by obtain⟨t,e⟩:=Value.isInt_shape (k:=i) (v:=v) h;exact .inl ⟨i,t,rfl,e⟩
 | .inr x,v,h=>by obtain⟨t,e⟩:=Value.isStrOf_shape (x:=x) (v:=v) h;exact .inr ⟨x,t,rfl,e⟩
theorem Kl(i:Int)(t:Tok):Xc (.inl i) (.int i t)=b9:=by simp[Xc,Value.isInt]
theorem Kk(x:Str)(t:Tok):Xc (.inr x) (.str x t)=b9:=by simp[Xc,Value.isStrOf]
theorem bR(a b:Int):decide ((su a:Key)=su b)=(a==b):=by
 by_cases e:a=b
 ·subst e;simp
 ·have h : ¬(su a:Key)=su b:=λq=>e (su.inj q)
  rw[decide_eq_false h];exact(beq_eq_false_iff_ne.mpr e).symm
theorem bO(a b:Str):decide ((oo a:Key)=oo b)=decide (a=b):=by
 by_cases e:a=b
 ·subst e;simp
 ·have h : ¬(oo a:Key)=oo b:=λq=>e (oo.inj q)
  rw[decide_eq_false h,decide_eq_false e]
theorem bQ(a:Int)(b:Str):decide ((su a:Key)=oo b)=cq:=decide_eq_false<|λq=>nomatch q
theorem bP(a:Str)(b:Int):decide ((oo a:Key)=su b)=cq:=decide_eq_false<|λq=>nomatch q
noncomputable def jF(prog:fy)(w:eW):PySem.KeyKind prog w Key where
 is:=Xc
 hash:=lO w
 inj:=λv a b ha B=>by
  rcases ja ha with⟨i,t,rfl,rfl⟩ | ⟨x,t,rfl,rfl⟩
  ·rcases ja B with⟨j,u,rfl,e⟩ | ⟨y,u,rfl,e⟩
   ·injection e with e1 _;rw[e1]
   ·exact nomatch e
  ·rcases ja B with⟨j,u,rfl,e⟩ | ⟨y,u,rfl,e⟩
   ·exact nomatch e
   ·injection e with e1 _;rw[e1]
 byValue:=λk v h=>by rcases ja h with⟨i,t,rfl,rfl⟩ | ⟨x,t,rfl,rfl⟩<;>rfl
 pyHash:=λz h=>by
  rcases ja z with⟨i,t,rfl,rfl⟩ | ⟨x,t,rfl,rfl⟩
  ·exact wpAny_pyHash_int h
  ·exact wpAny_pyHash_str h
 eqBool:=λI z h=>by
  rcases ja I with⟨i,t,rfl,rfl⟩ | ⟨x,t,rfl,rfl⟩
  ·rcases ja z with⟨j,u,rfl,rfl⟩ | ⟨y,u,rfl,rfl⟩
   ·rw[bR]at h;exact wpAny_eqBool_int h
   ·rw[bQ]at h;exact nI.int_str i t y u _ _ _ _ h
  ·rcases ja z with⟨j,u,rfl,rfl⟩ | ⟨y,u,rfl,rfl⟩
   ·rw[bP]at h;exact nI.str_int x t j u _ _ _ _ h
   ·rw[bO]at h;exact wpAny_eqBool_str h
 «strs» :=λk x t v h=>by
  rcases ja h with⟨i,u,rfl,e⟩ | ⟨y,u,rfl,e⟩
  ·exact nomatch e
  ·injection e with e1 _
   subst e1;cases v<;>rfl
theorem Jc(prog:fy)(w:eW)(i:Int)(t:Tok):(jF prog w).is (.inl i) (.int i t)=b9:=Kl i t
theorem Jb(prog:fy)(w:eW)(x:Str)(t:Tok):(jF prog w).is (.inr x) (.str x t)=b9:=Kk x t
inductive V where
 | ea | bl (b:Bool) | int (i:Int) | str (x:Str) | uY (b:Array UInt8) | tH (b:UInt64) | ref (a:c8) | ty (n:String)
 deriving DecidableEq
noncomputable def RelV:V->di->Prop
 | .ea,u=>u=oV
 | .bl b,u=>u=sk b
 | .int i,u=>∃t,u=rW i t
 | .str x,u=>∃t,u=rE x t
 | .uY b,u=>∃t,u=Value.bytes b t
 | .tH b,u=>∃t,u=Value.float b t
 | .ref a,u=>u=nJ a
 | .ty n,u=>u=sj n
abbrev d5:List V->List di->Prop:=Paired RelV
theorem d5.length(r:d5 xs us):xs.length=us.length:=Paired.length r
theorem d5.get : ∀{xs:List V} {z:List di} {i:Nat} {x:V},d5 xs z->xs[i]? = b8 x->∃u,z[i]? = b8 u/\RelV x u
 | _,_,_,_,.nil,e=>by simp at e
 | _,_,0,_,.cons r _,e=>by simp at e;subst e;exact⟨_,rfl,r⟩
 | _,_,i+1,x,.cons _ t,e=>by obtain⟨u,a,b⟩:=d5.get (i:=i) (x:=x) t (by simpa using e);exact⟨u,by simpa using a,b⟩
theorem d5.set(r:RelV x u) : ∀{xs:List V} {z:List di} (i:Nat),d5 xs z->d5 (xs.set i x) (z.set i u)
 | _,_,_,.nil=> .nil
 | _,_,0,.cons _ t=> .cons r t
 | _,_,i+1,.cons q t=> .cons q (d5.set r i t)
theorem d5.append : ∀{xs G:List V} {C z:List di},d5 xs C->d5 G z->d5 (xs++G) (C++z)
 | _,_,_,_,.nil,s=>s
 | _,_,_,_,.cons r t,s=> .cons r (d5.append t s)
theorem d5.take : ∀{xs:List V} {z:List di} (n:Nat),d5 xs z->d5 (xs.take n) (z.take n)
 | _,_,0,_=> .nil
 | _,_,_+1,.nil=> .nil
 | _,_,n+1,.cons r t=> .cons r (d5.take n t)
theorem d5.drop : ∀{xs:List V} {z:List di} (n:Nat),d5 xs z->d5 (xs.drop n) (z.drop n)
 | _,_,0,r=>r
 | _,_,_+1,.nil=> .nil
 | _,_,n+1,.cons _ t=>d5.drop n t
noncomputable def o8:Option V->Option di->Prop
 | some v,b8 u=>RelV v u
 | none,cp=>True
 | _,_=>False
noncomputable def KV{t:Type}:List (t×V)->List (t×di)->Prop:=Paired λ(p:t×V) (q:t×di)=>p.1=q.1/\RelV p.2 q.2
def kV:Key->V
 | .inl i=> .int i
 | .inr x=> .str x
inductive HO where
 | lst (xs:List V)
 | tup (xs:List V)
 | dK (g9:List (Key×V)) | dT (g9:List (List Key×V))
 | set (S:Int->Bool) (n:Nat)
 | ins (C dx:c8) (fs:List (Str×V))
 | own (x:c8)
 | xd (fs:List (Str×V))
 | met (f x:c8)
 | x2 (lo hi:Int)
 | l5 (o:h9) (u:HO)
 | tq (ps:Array di)
 | ext (φ:d6->Prop)
abbrev Hp:=c8->Option HO
def upd(H:Hp)(a:c8)(o:HO):Hp:=λb=>if b=a then b8 o else H b
theorem zE:upd H a o a=b8 o:=by unfold upd;rw[GY rfl]
theorem zC(h:b≠a):upd H a o b=H b:=by unfold upd;rw[MQ h]
theorem z4{H:Hp}{a b:c8}{o:HO}(h:H a=b8 o)(h':H b=cp):a≠b:=by intro e;subst e;rw[h]at h';cases h'
noncomputable def n5(h:d6)(a:c8)(z:Array di):Prop:=∃o,h.get? a=b8 o/\(o.cls,o.dict)=(sj "tuple",cp)/\∃n,o.data = .seq z n
theorem n5.new(h:d6)(z:Array di):n5 (h.push {cls:= .type "tuple",data:= .seq z}) h.objs.size z:=⟨_,mX _ rfl,rfl,_,rfl⟩
theorem n5.tup(x:n5 h a items):tX h a items:=let ⟨o,e,c,r⟩:=x;⟨o,e,(Prod.mk.inj c).1,r⟩
section
variable(P:fy)(w:eW)
noncomputable def gq(H:Hp)(h:d6)(a:c8):HO->Prop
 | .lst d=>d.length<=ej/\∃(z:List di) (n:Nat),d5 d z/\h.get? a=b8 {cls:= .type "list",data:= .seq z.toArray n}
 | .tup d=>d.length<=ej/\∃z:List di,d5 d z/\n5 h a z.toArray
 | .dK b=>b.length<=ej/\(a==r0)=cq/\∃m,KV b m/\h.DictOf (jF P w) a m
 | .dT b=>b.length<=ej/\(a==r0)=cq/\∃d:List (List Key×c8×di),
  Paired (λ(p:List Key×V) (q:List Key×c8×di)=>p.1=q.1/\H q.2.1=b8 (.tup<|p.1.map kV)/\RelV p.2 q.2.2) b d/\
  ∃o i B,h.get? a=b8 o/\o.ExactDict/\o.data = .dict i B/\i.toList=d.map (entryOfKey<|tupleKind<|jF P w)/\(d.map (·.1)).Nodup
 | .set S n=>h.SetOf (intKind P w) a S n
 | .ins C e fs=>H e=b8 (.own a)/\fs.length<=1000/\e≠a/\h.get? a=b8 (PySem.W.instObj C e)/\
  ∃mA,h.Ns1 e mA/\(∀f,o8 (fs.lookup f)<|mA f)/\PySem.Within mA (fs.map (·.1))
 | .own _=>∃o,h.get? a=b8 o
 | .xd fs=>∃mA,h.Ns1 a mA/\∀f,o8 (fs.lookup f)<|mA f
 | .x2 lo r=>∃t u v,h.get? a=b8 {cls:= .type "range",data:= .fields #[.int lo t,.int r u,.int 1 v]}
 | .l5 o u=>h.get? a=b8 o/\gq H h a u
 | .tq s=>h.get? a=b8 {cls:= .none,data:= .fields s}
 | .met f x=>h.get? a=b8 (rX (.ref f)<|.ref x)
 | .ext g=>g h/\(∃o,h.get? a=b8 o)/\∀j l:d6,g j->(∀o,j.get? a=b8 o->l.get? a=b8 o)->g l
def f9(H:Hp)(h:d6):Prop:=∀a o,H a=b8 o->gq P w H h a o
end
section
variable{P:fy}{w:eW}{H H':Hp}{h h':d6}{a:c8}{o:HO}
theorem gq.lt(x:gq P w H h a o):a<h.objs.size:=by
 cases o with
 | lst d=>obtain⟨_,_,_,_,e⟩:=x;exact mS e
 | tup d=>obtain⟨_,_,_,p⟩:=x;exact p.tup.lt
 | dK b=>obtain⟨_,_,_,_,o,_,_,e,_⟩:=x;exact mS e
 | dT b=>obtain⟨_,_,_,_,o,_,_,e,_⟩:=x;exact mS e
 | set S n=>obtain⟨o,_,_,_,e,_⟩:=x;exact mS e
 | ins C g fs=>obtain⟨_,_,_,e,_⟩:=x;exact mS e
 | own y=>obtain⟨_,e⟩:=x;exact mS e
 | xd fs=>obtain⟨_,⟨_,_,_,e,_⟩,_⟩:=x;exact mS e
 | x2 lo i=>obtain⟨_,_,_,e⟩:=x;exact mS e
 | l5 z u=>obtain⟨e,_⟩:=x;exact mS e
 | tq j=>exact mS (show h.get? a=b8 _ from x)
 | met f y=>exact mS (show h.get? a=b8 _ from x)
 | ext l=>obtain⟨_,⟨_,e⟩,_⟩:=x;exact mS e
theorem Paired.Ar : ∀{z:List α} {B:List β},Paired F z B->(∀a b,F a b->G a b)->Paired G z B
 | _,_,.nil,_=> .nil
 | _,_,.cons r t,f=> .cons (f _ _ r) (Paired.Ar t f)
theorem gq.tm(x:gq P w H h a o)(k : ∀b u,(b=a\/H b=b8 (.own a))->h.get? b=b8 u->h'.get? b=b8 u)
 (M : ∀b,H b=b8 (.own a)->H' b=b8 (.own a)) (O : ∀b xs,H b=b8 (.tup xs)->H' b=b8 (.tup xs)):gq P w H' h' a o:=by
 induction o with
 | lst xs=>obtain⟨z,J,n,r,e⟩:=x;exact⟨z,J,n,r,k _ _ (.inl rfl) e⟩
 | tup xs=>obtain⟨z,J,r,B,e,c⟩:=x;exact⟨z,J,r,B,k _ _ (.inl rfl) e,c⟩
 | dK i=>obtain⟨z,y,E,r,B,g,I,e,c⟩:=x;exact⟨z,y,E,r,B,g,I,k _ _ (.inl rfl) e,c⟩
 | dT i=>
  obtain⟨z,y,xs,r,B,g,I,e,c⟩:=x;exact⟨z,y,xs,Paired.Ar r λp q z=>⟨z.1,O _ _ z.2.1,z.2.2⟩,B,g,I,k _ _ (.inl rfl) e,c⟩
 | set S n=>obtain⟨B,g,I,t,e,c⟩:=x;exact⟨B,g,I,t,k _ _ (.inl rfl) e,c⟩
 | ins C F fs=>
  obtain⟨d,z,A,e,j,⟨l,g,I,s,c⟩,r⟩:=x;exact⟨M _ d,z,A,k _ _ (.inl rfl) e,j,⟨l,g,I,k _ _ (.inr d) s,c⟩,r⟩
 | own y=>obtain⟨B,e⟩:=x;exact⟨B,k _ _ (.inl rfl) e⟩
 | xd fs=>obtain⟨j,⟨l,g,I,e,c⟩,r⟩:=x;exact⟨j,⟨l,g,I,k _ _ (.inl rfl) e,c⟩,r⟩
 | x2 lo G=>obtain⟨t,u,v,e⟩:=x;exact⟨t,u,v,k _ _ (.inl rfl) e⟩
 | l5 B u R=>obtain⟨e,q⟩:=x;exact⟨k _ _ (.inl rfl) e,R q⟩
 | tq m=>
  have e:h.get? a=b8 {cls:= .none,data:= .fields m}:=x;show h'.get? a=b8 {cls:= .none,data:= .fields m};exact k a _ (.inl rfl) e
 | met f y=>
  have e:h.get? a=b8 (rX (.ref f)<|.ref y):=x;show h'.get? a=b8 (rX (.ref f)<|.ref y);exact k a _ (.inl rfl) e
 | ext K=>obtain⟨p,⟨o,e⟩,st⟩:=x;exact⟨st _ _ p λo q=>k _ _ (.inl rfl) q,⟨o,k _ _ (.inl rfl) e⟩,st⟩
theorem f9.lt(x:f9 P w H h)(e:H a=b8 o):a<h.objs.size:=(x a o e).lt
theorem f9.fresh(x:f9 P w H h)(e:h.objs.size<=a):H a=cp:=by
 cases q:H a with
 | none=>rfl
 | some u=>exact absurd (mU (x.lt q) e)<|oa _
theorem f9.kept(x:f9 P w H h)(k : ∀b u,h.get? b=b8 u->h'.get? b=b8 u):f9 P w H h':=λa o e=>
 (x a o e).tm (λb u _ q=>k b u q) (λ_ q=>q) λ_ _ q=>q
theorem f9.laid(x:f9 P w H h)(k : ∀b u,h.get? b=b8 u->h'.get? b=b8 u)(B:h.objs.size<=a)(new:gq P w (upd H a o) h' a o):f9 P w (upd H a o) h':=λb u e=>by
 have d:=x.fresh B;by_cases z:b=a
 ·subst z;rw[zE]at e;cases e;exact new
 ·rw[zC z]at e
  exact(x b u e).tm (λc v _ q=>k c v q) (λc q=>by rw[zC (z4 q d)];exact q) λc f q=>by rw[zC (z4 q d)];exact q
end
noncomputable def Rd(H:Hp)(a:c8)(u:HO):Prop:=H a=b8 u\/∃o,H a=b8 (.l5 o u)
theorem Rd.ok(r:Rd H a u)(x:f9 P w H h):gq P w H h a u:=by
 rcases r with r | ⟨o,r⟩
 ·exact x a u r
 ·obtain⟨_,q⟩:=x a _ r
  exact q
noncomputable def tY:Option HO->Prop
 | some (.lst _)=>True
 | some (.dK _)=>True
 | some (.dT _)=>True
 | some (.set _ _)=>True
 | some (.ins _ _ _)=>True
 | some (.ext _)=>True
 | _=>False
section
variable{P:fy}{w:eW}{H:Hp}{h h':d6}{x e:c8}{o':HO}
theorem f9.write(ok:f9 P w H h)(B:tY (H x))(O:e=x\/H e=b8 (.own x))(k : ∀b u,b≠e->h.get? b=b8 u->h'.get? b=b8 u)(W : ∃u,h'.get? e=b8 u)
 (new:gq P w (upd H x o') h' x o'):f9 P w (upd H x o') h':=λb u q=>by
 have R : ∀c y,H c=b8 (.own y)->c≠x:=λc y r z=>by subst z;rw[r]at B;exact B
 have Y : ∀c a,H c=b8 (.tup a)->c≠x:=λc a r z=>by subst z;rw[r]at B;exact B
 by_cases I:b=x
 ·subst I;rw[zE]at q;cases q;exact new
 ·rw[zC I]at q
  by_cases J:b=e
  ·have U:H b=b8 (.own x):=by
    rcases O with z | z
    ·exact absurd (J.trans z) I
    ·rw[J];exact z
   rw[q]at U;cases U;obtain⟨v,d⟩:=W;exact⟨v,by rw[J];exact d⟩
  ·refine(ok b u q).tm (λc v M r=>k c v ?_ r) (λc r=>by rw[zC (R c b r)];exact r) λc a r=>by rw[zC (Y c a r)];exact r
   rcases M with rfl | M
   ·exact J
   ·rintro rfl
    rcases O with z | z
    ·exact R c b M z
    ·rw[M]at z;cases z;exact I rfl
end
structure Un(fs ex:List c8)(H H':Hp)(h h':d6):Prop where
 keep : ∀b o,h.get? b=b8 o->H b=cp->b∉fs->b∉ex->h'.get? b=b8 o
 slot : ∀b o,h.get? b=b8 o->H b=cp->b∈fs->b∉ex->∃sl,h'.get? b=b8 {o with slots:=sl}
 free : ∀b o,h.get? b=b8 o->H b=cp->b∉ex->H' b=cp
 there : ∀b o,h.get? b=b8 o->b∉ex->∃o',h'.get? b=b8 o'
 tM : ∀b xs,H b=b8 (.tup xs)->H' b=b8 (.tup xs)
 sZ : ∀b o u,H b=b8 (.l5 o u)->H' b=b8 (.l5 o u)
 tK : ∀b ps,H b=b8 (.tq ps)->∃more,H' b=b8 (.tq<|ps++more)
section
variable{fs A5 ex Bt:List c8}{H H1 H2:Hp}{h h1 h2 h':d6}{a x e:c8}{o:HO}
theorem Un.any(u:Un fs ex H H1 h h1)(q:h.get? b=b8 ob)(n:H b=cp)(z:b∉ex) : ∃t,h1.get? b=b8 {ob with slots:=t}:=by
 by_cases B:b∈fs
 ·exact u.slot b ob q n B z
 ·exact⟨ob.slots,u.keep b ob q n B z⟩
theorem Un.kept(k : ∀b u,h.get? b=b8 u->h'.get? b=b8 u):Un fs ex H H h h':=
 ⟨λb z q _ _ _=>k b z q,λb z q _ _ _=>⟨z.slots,k b z q⟩,λ_ _ _ n _=>n,λb z q _=>⟨z,k b z q⟩,λ_ _ q=>q,λ_ _ _ q=>q,λ_ a q=>⟨#[],by rw[q];simp⟩⟩
theorem Un.refl:Un fs ex H H h h:=Un.kept λ_ _ q=>q
theorem Un.laid(k : ∀b u,h.get? b=b8 u->h'.get? b=b8 u)(z:h.objs.size<=a)(hn:H a=cp):Un fs ex H (upd H a o) h h' where
 keep:=λb u q _ _ _=>k b u q
 slot:=λb u q _ _ _=>⟨u.slots,k b u q⟩
 free:=λb u q n _=>by rw[zC (nt<|mU (mS q) z)];exact n
 there:=λb u q _=>⟨u,k b u q⟩
 tM:=λb xs q=>by rw[zC (z4 q hn)];exact q
 sZ:=λb u xs q=>by rw[zC (z4 q hn)];exact q
 tK:=λb ps q=>⟨#[],by rw[zC (z4 q hn),q];simp⟩
theorem Un.write(B:tY (H x))(O:e=x\/H e=b8 (.own x))(k : ∀b u,b≠e->h.get? b=b8 u->h'.get? b=b8 u)(R : ∃u,h'.get? e=b8 u):Un fs ex H (upd H x o) h h':=by
 have I : ∀b,H b=cp->b≠x:=λb n z=>by subst z;rw[n]at B;exact B
 have J : ∀b,H b=cp->b≠e:=λb n z=>by
  subst z;rcases O with r | r
  ·exact I b n r
  ·rw[n]at r;cases r
 have a : ∀b u,H b=b8 u->¬tY (b8 u)->b≠x:=λb u q nm z=>by subst z;rw[q]at B;exact nm B
 refine⟨λb u q n _ _=>k b u (J b n) q,λb u q n _ _=>⟨u.slots,k b u (J b n) q⟩,λb u q n _=>by rw[zC (I b n)];exact n,λb u q _=>?_,
  λb d q=>by rw[zC (a b _ q λz=>z)];exact q,λb u d q=>by rw[zC (a b _ q λz=>z)];exact q,λb f q=>⟨#[],by rw[zC (a b _ q λz=>z),q];simp⟩⟩
 by_cases M:b=e
 ·subst M;exact R
 ·exact⟨u,k b u M q⟩
end
noncomputable def uM(h:d6)(H:Hp):List c8:=(mG h.objs.size).filter λa=>(H a).isSome
def YR(h:d6)(H:Hp):d6:=PySem.W.hideAll h<|uM h H
theorem Kv(h:d6)(H:Hp):(YR h H).objs.size=h.objs.size:=PySem.W.hideAll_size _ _
theorem YQ(e:h.get? b=b8 o)(n:H b=cp):(YR h H).get? b=b8 o:=
 PySem.W.hideAll_get _ e λa=>by have q:(H b).isSome=b9:=(List.mem_filter.mp a).2;rw[n]at q;simp at q
theorem WA(e:(YR h H).get? b=b8 o):h.get? b=b8 o/\H b=cp:=by
 have B:h.get? b=b8 o:=PySem.W.of_hideAll (uM h H) e;refine⟨B,?_⟩;cases q:H b with
 | none=>rfl
 | some x=>
  have a:b∈uM h H:=List.mem_filter.mpr ⟨nM.mpr<|mS B,by simp[q]⟩;have z:(YR h H).get? b=cp:=PySem.W.hideAll_none (uM h H) a;rw[z]at e;cases e
noncomputable def WX(g h:d6)(L:c8):List (c8×h9):=(mG h.objs.size).filterMap λa=>if a=L\/(g.get? a).isSome=b9 then cp else (h.get? a).map λo=>(a,o)
noncomputable def xu(g h:d6)(L d:c8):List (c8×h9):=(WX g h L).filter λp=>decide<|p.1≠d
structure Mod(K:mD)(mg:GJ)(base:d6):Prop where
 u5:K.In base
 glob:base.Ns iv mg
 blt : ∃mb,base.Ns Ai mb/\∀x:Str,x ≠ "__name__"->mb x=sV x
 nolimit:base.NoLimit
structure Cx where
 prog:fy
 w:eW
 K:mD
 mg:Str->Option di
 base:d6
 A:i4
 N:List Str
 hL:d0
 tW:Hp
 env:h8
 outer:List h8
 stack:List h8
 ex:List c8
 fn:Str->Bool
 calm:Bool
 pn:List (c8×h9)
 xe:di->d0->Prop
def ni(l:List h8):List c8:=l.filterMap (·.frame)
abbrev Cx.fs(X:Cx):List c8:=ni X.outer
noncomputable def uU(t:ep)(x:Str):Prop:=t.names.lookup x=b8 .local\/t.names.lookup x=b8 .cell\/t.names.lookup x=b8 .free
noncomputable def Loc(t:ep)(x:Str):Prop:=t.names.lookup x=b8 .local\/t.names.lookup x=b8 .cell
noncomputable def mh(env:h8)(h:d6)(m:GJ)(x:Str)(u:di):Prop:=
 (env.kindOf x=b8 .local/\m x=b8 u)\/((env.kindOf x=b8 .cell\/env.kindOf x=b8 .free)/\∃c,env.cells.lookup x=b8 c/\h.IsCell c (b8 u))
structure Cx.Ok(X:Cx):Prop where
 mod:Mod X.K X.mg X.base
 kind:X.env.scope.kind = .function
 glob:X.env.globals=iv
 blt:X.env.builtins=Ai
 above:X.hL.heap.objs.size<=X.env.locals
 inj : ∀x y c,X.env.cells.lookup x=b8 c->X.env.cells.lookup y=b8 c->x=y
 has : ∀x,(X.env.kindOf x=b8 .cell\/X.env.kindOf x=b8 .free)->∃c,X.env.cells.lookup x=b8 c
 t4 : ∀x c,X.fn x=b9->X.env.cells.lookup x=b8 c->X.hL.heap.objs.size<=c
 hd:X.calm=b9->X.A.handled=cp
 frames:X.A.frames=b8 X.stack
 uK:X.stack=X.outer\/(X.stack=X.env::X.outer/\X.env.frame=b8 X.env.locals)
 uA : ∀b∈X.ex,b≠X.env.locals/\∀x c,X.env.cells.lookup x=b8 c->c≠b
 bs : ∀b o,X.base.get? b=b8 o->X.hL.heap.get? b=b8 o/\X.tW b=cp
 ri:X.base.objs.size<=X.hL.heap.objs.size
 ub : ∀b o,X.base.get? b=b8 o->b∉X.ex
 t6 : ∀b∈X.ex,b∉X.fs
 n0:X.hL.heap.FunFrames X.base X.outer
 tI : ∀b∈X.fs,X.tW b=cp
structure Inv(X:Cx)(pins:GW)(σ:List (Option V))(H:Hp)(s:d0):Prop where
 ok:X.Ok
 os:s.os=X.hL.os
 bare:qs s.gens
 base:Un X.fs X.ex X.tW H X.hL.heap s.heap
 loc : ∃m,s.heap.Ns X.env.locals m/\∀(i:Nat) (x:Str) (v:V),X.N[i]? = b8 x->σ[i]? = b8 (b8 v)->uU X.env.scope x->∃u,RelV v u/\mh X.env s.heap m x u
 cell : ∀x c,X.env.cells.lookup x=b8 c->∃v,s.heap.IsCell c v
 free:H X.env.locals=cp
 ov : ∀x c,X.env.cells.lookup x=b8 c->H c=cp
 pin : ∀p∈X.pn++pins,s.heap.get? p.1=b8 p.2/\H p.1=cp/\p.1≠X.env.locals/\p.1∉X.fs/\∀v,p.2.data ≠ .cell v
 d7:f9 X.prog X.w H s.heap
 len:σ.length=X.N.length
section
variable{X:Cx}{pins:GW}{σ:List (Option V)}{H H':Hp}{s:d0}{h':d6}
theorem Cx.Ok.A9(ok:X.Ok)(e:X.base.get? b=b8 o):b∉X.fs:=λz=>by have:=(ok.n0.mem z).1;rw[e]at this;cases this
theorem Inv.bs(I:Inv X pins σ H s) : ∀b o,X.base.get? b=b8 o->s.heap.get? b=b8 o/\H b=cp:=λb o e=>
 ⟨I.base.keep b o (I.ok.bs b o e).1 (I.ok.bs b o e).2 (I.ok.A9 e) (I.ok.ub b o e),I.base.free b o (I.ok.bs b o e).1 (I.ok.bs b o e).2 (I.ok.ub b o e)⟩
theorem Inv.bk(I:Inv X pins σ H s) : ∀b o,X.base.get? b=b8 o->s.heap.get? b=b8 o:=λb o e=>(I.bs b o e).1
theorem Inv.mod(I:Inv X pins σ H s):Mod X.K X.mg X.base:=I.ok.mod
theorem Inv.f6(I:Inv X pins σ H s):X.K.In s.heap:=I.ok.mod.u5.keeps I.bk
theorem Inv.lt(I:Inv X pins σ H s):X.env.locals<s.heap.objs.size:=let ⟨_,a,_⟩:=I.loc;a.lt
theorem Inv.sz(I:Inv X pins σ H s):X.hL.heap.objs.size<=s.heap.objs.size:=nc I.ok.above<|sH I.lt
theorem Inv.Bb(I:Inv X pins σ H s)(h:s.heap.objs.size<=a):a∉X.fs:=λz=>by obtain⟨_,o,B,_⟩:=I.ok.n0.mem z;exact absurd (mU (mS B)<|nc I.sz h)<|oa _
theorem Inv.sX(I:Inv X pins σ H s) : ∀x c,X.env.cells.lookup x=b8 c->c≠X.env.locals:=λx c e z=>by obtain⟨v,o,B,a⟩:=I.cell x c e;obtain⟨m,⟨d,b,O,J,M,_⟩,_⟩:=I.loc;rw[z,J]at B;cases B;rw[M]at a;cases a
theorem Inv.n0(I:Inv X pins σ H s):s.heap.FunFrames X.base X.outer:=by
 have all : ∀(l:List h8),(∀b∈ni l,b∈X.fs)->X.hL.heap.FunFrames X.base l->s.heap.FunFrames X.base l:=by
  intro l
  induction l with
  | nil=>intro _ _;trivial
  | cons a r R=>
   intro O U;obtain⟨W,⟨L,o,B,f,Y,d⟩,g⟩:=U;have J:L∈X.fs:=O L (by unfold ni;rw[rS,B];exact mM);obtain⟨h,e⟩:=I.base.slot L o Y (I.ok.tI L J) J λz=>I.ok.t6 L z J;exact⟨W,⟨L,_,B,f,e,d⟩,R (λb M=>O b<|by unfold ni;rw[rS,B];exact mQ _ M) g⟩
 exact all X.outer (λ_ M=>M) I.ok.n0
theorem Inv.stack(I:Inv X pins σ H s):s.heap.FunFrames X.base X.stack:=by
 rcases I.ok.uK with e | ⟨e,z⟩
 ·rw[e];exact I.n0
 ·rw[e]
  obtain⟨m,a,_⟩:=I.loc;refine .cons (by rw[I.ok.kind];decide) z a ?_ I.n0;exact Heap.get?_none_of_le<|nc I.ok.ri I.ok.above
theorem Inv.y1(I:Inv X pins σ H s) : ∀b∈ni X.stack,b∈X.env.locals::X.fs:=λb z=>by
 rcases I.ok.uK with e | ⟨e,B⟩
 ·rw[e]at z;exact mQ _ z
 ·rw[e]at z
  unfold ni at z;rw[rS,B]at z;exact z
theorem Inv.AB(I:Inv X pins σ H s) : ∀b∈ni X.stack,H b=cp:=λb B=>by
 rcases mJ.mp (I.y1 b B)with e | B
 ·rw[e];exact I.free
 ·obtain⟨_,o,J,_⟩:=I.ok.n0.mem B
  exact I.base.free b o J (I.ok.tI b B) λz=>I.ok.t6 b z B
theorem Inv.step{g':Array GenState}{t':Nat}{d':Drawn}{ch:List c8}(I:Inv X pins σ H s)
 (O : ∀b∈ch,(b∈X.ex\/X.hL.heap.objs.size<=b)/\b≠X.env.locals/\(∀x c,X.env.cells.lookup x=b8 c->c≠b)/\∀p∈X.pn++pins,p.1≠b)
 (keep : ∀b o,b≠X.env.locals->b∉X.fs->b∉ch->s.heap.get? b=b8 o->H b=cp->h'.get? b=b8 o)
 (t : ∀b o,b≠X.env.locals->b∈X.fs->b∉ch->s.heap.get? b=b8 o->H b=cp->∃sl,h'.get? b=b8 {o with slots:=sl}) (free : ∀b o,b∉ch->s.heap.get? b=b8 o->H b=cp->H' b=cp)
 (C : ∀b o,b∉ch->s.heap.get? b=b8 o->∃L,h'.get? b=b8 L)
 (Z : ∀b xs,H b=b8 (.tup xs)->H' b=b8 (.tup xs)) (G : ∀b o u,H b=b8 (.l5 o u)->H' b=b8 (.l5 o u)) (S : ∀b ps,H b=b8 (.tq ps)->∃more,H' b=b8 (.tq<|ps++more))
 (ns : ∀m,s.heap.Ns X.env.locals m->h'.Ns X.env.locals m) (d7:f9 X.prog X.w H' h') (hg:qs g') :
 Inv X pins σ H' {s with heap:=h',gens:=g',drawn:=d',toks:=t'}:=by
 have W : ∀b o,X.hL.heap.get? b=b8 o->b≠X.env.locals:=λb o e=>nt<|mU (mS e) I.ok.above;have U : ∀b o,X.hL.heap.get? b=b8 o->b∉X.ex->b∉ch:=λb o e B J=>by
  rcases (O b J).1 with z | z
  ·exact B z
  ·exact absurd (mU (mS e) z)<|oa _
 have Y : ∀x c,X.env.cells.lookup x=b8 c->∀v,s.heap.IsCell c v->h'.IsCell c v:=λx c e v K=>by
  obtain⟨o,M,g⟩:=K;have R:c∉ch:=λz=>(O c z).2.2.1 x c e rfl;by_cases h:c∈X.fs
  ·obtain⟨sl,q⟩:=t c o (I.sX x c e) h R M (I.ov x c e)
   exact⟨_,q,g⟩
  ·exact⟨o,keep c o (I.sX x c e) h R M<|I.ov x c e,g⟩
 refine⟨I.ok,I.os,hg,⟨λb o e n J B=>?_,λb o e n J B=>?_,λb o e n B=>?_,λb o e B=>?_,λb xs e=>Z b xs<|I.base.tM b xs e,λb o xs e=>G b o xs<|I.base.sZ b o xs e,λb ps e=>?_⟩,?_,λx c e=>?_,?_,λx c e=>?_,λp j=>?_,d7,I.len⟩
 ·exact keep b o (W b o e) J (U b o e B) (I.base.keep b o e n J B)<|I.base.free b o e n B
 ·obtain⟨sl,a⟩:=I.base.slot b o e n J B
  obtain⟨E,f⟩:=t b _ (W b o e) J (U b o e B) a<|I.base.free b o e n B;exact⟨E,f⟩
 ·obtain⟨L,a⟩:=I.base.there b o e B
  exact free b L (U b o e B) a<|I.base.free b o e n B
 ·obtain⟨L,a⟩:=I.base.there b o e B
  exact C b L (U b o e B) a
 ·obtain⟨Q,a⟩:=I.base.tK b ps e
  obtain⟨T,f⟩:=S b _ a;exact⟨Q++T,by rw[f,Array.append_assoc]⟩
 ·obtain⟨m,P,N⟩:=I.loc
  refine⟨m,ns m P,λi x v a f F=>?_⟩;obtain⟨u,r,l⟩:=N i x v a f F;refine⟨u,r,?_⟩;rcases l with l | ⟨k,c,e,z⟩
  ·exact .inl l
  ·exact .inr ⟨k,c,e,Y x c e _ z⟩
 ·obtain⟨v,z⟩:=I.cell x c e
  exact⟨v,Y x c e v z⟩
 ·obtain⟨m,⟨o,_,_,M,_⟩,_⟩:=I.loc
  exact free _ o (λz=>(O _ z).2.1 rfl) M I.free
 ·obtain⟨v,o,M,g⟩:=I.cell x c e
  exact free c o (λz=>(O c z).2.2.1 x c e rfl) M<|I.ov x c e
 ·obtain⟨e,n,y,A,d⟩:=I.pin p j
  have R:p.1∉ch:=λz=>(O p.1 z).2.2.2 p j rfl;exact⟨keep p.1 p.2 y A R e n,free p.1 p.2 R e n,y,A,d⟩
theorem Inv.un{t':Nat}(I:Inv X pins σ H s)(u:Un X.fs [] H H' s.heap h')(t:f9 X.prog X.w H' h'):Inv X pins σ H' {s with heap:=h',toks:=t'}:=by
 obtain⟨m,⟨o,d,Y,J,r⟩,_⟩:=id I.loc;obtain⟨h,O⟩:=u.any J I.free ⋯;exact I.step (g':=s.gens) (d':=s.drawn) (ch:=[]) (λ_ z=>nomatch z) (λb o _ B _ e n=>u.keep b o e n B ⋯) (λb o _ B _ e n=>u.slot b o e n B ⋯) (λb o _ e n=>u.free b o e n ⋯) (λb o _ e=>u.there b o e ⋯) u.tM u.sZ u.tK (λf a=>by obtain⟨g,R,U,M,W⟩:=a;rw[J]at M;cases M;exact⟨_,R,U,O,W⟩) t I.bare
theorem Inv.call{g':Array GenState}{t':Nat}{d':Drawn}{ch:List c8}(I:Inv X pins σ H s)(u:Un (ni X.stack) ch H H' s.heap h')(t:f9 X.prog X.w H' h')(U:qs g')
 (M : ∀b∈ch,(b∈X.ex\/X.hL.heap.objs.size<=b)/\b≠X.env.locals/\(∀x c,X.env.cells.lookup x=b8 c->c≠b)/\∀p∈X.pn++pins,p.1≠b) :
 Inv X pins σ H' {s with heap:=h',gens:=g',drawn:=d',toks:=t'}:=by
 obtain⟨m,⟨o,h,g,O,r⟩,_⟩:=id I.loc;obtain⟨l,J⟩:=u.any O I.free λz=>(M _ z).2.1 rfl;exact I.step (ch:=ch) M (λb o J W B e n=>u.keep b o e n (λz=>(mJ.mp<|I.y1 b z).elim J W) B) (λb o _ _ B e n=>u.any e n B) (λb o B e n=>u.free b o e n B) (λb o B e=>u.there b o e B) u.tM u.sZ u.tK (λi d=>by obtain⟨j,Y,a,R,f⟩:=d;rw[O]at R;cases R;exact⟨_,Y,a,J,f⟩) t U
theorem Inv.turned{t':Nat}{it:c8}(I:Inv X pins σ H s)(k : ∀b o,b≠it->s.heap.get? b=b8 o->h'.get? b=b8 o)(G:H it=cp)(J:it≠X.env.locals)
 (t:it∈X.ex\/X.hL.heap.objs.size<=it) (C : ∀x c,X.env.cells.lookup x=b8 c->c≠it) (O : ∀p∈X.pn++pins,p.1≠it):Inv X pins σ H {s with heap:=h',toks:=t'}:=by
 have M : ∀b u,H b=b8 u->b≠it:=λb u e z=>by rw[z,G]at e;cases e
 refine I.step (g':=s.gens) (d':=s.drawn) (ch:=[it]) (λb R=>?_) (λb o _ _ B e _=>k b o (λz=>B<|by simp[z]) e) (λb o _ _ B e _=>⟨o.slots,k b o (λz=>B<|by simp[z]) e⟩) (λ_ _ _ _ n=>n)
  (λb o B e=>⟨o,k b o (λz=>B<|by simp[z]) e⟩) (λ_ _ e=>e) (λ_ _ _ e=>e) (λb f e=>⟨#[],by rw[e];simp⟩) (λm d=>?_) (λb u e=>?_) I.bare
 ·have e:b=it:=by simpa using R
  subst e;exact⟨t,J,C,O⟩
 ·obtain⟨o,a,U,W,r⟩:=d
  exact⟨o,a,U,k _ o (nW J) W,r⟩
 ·refine(I.d7 b u e).tm (λc v B q=>k c v ?_ q) (λ_ q=>q) λ_ _ q=>q
  rcases B with z | z
  ·rw[z];exact M b u e
  ·exact M c _ z
theorem Inv.tok(I:Inv X pins σ H s)(t:Nat):Inv X pins σ H {s with toks:=t}:=I.un (h':=s.heap) (t':=t) Un.refl I.d7
theorem Inv.kept(I:Inv X pins σ H s)(k : ∀b u,s.heap.get? b=b8 u->h'.get? b=b8 u):Inv X pins σ H {s with heap:=h',toks:=t'}:=I.un (Un.kept k)<|I.d7.kept k
theorem Inv.laid(I:Inv X pins σ H s)(k : ∀b u,s.heap.get? b=b8 u->h'.get? b=b8 u)(z:s.heap.objs.size<=a)(new:gq X.prog X.w (upd H a o) h' a o) :
 Inv X pins σ (upd H a o) {s with heap:=h',toks:=t'}:=I.un (Un.laid k z<|I.d7.fresh z)<|I.d7.laid k z new
theorem Inv.write(I:Inv X pins σ H s)(z:tY (H x))(B:e=x\/H e=b8 (.own x))(k : ∀b u,b≠e->s.heap.get? b=b8 u->h'.get? b=b8 u)(J : ∃u,h'.get? e=b8 u)
 (new:gq X.prog X.w (upd H x o) h' x o):Inv X pins σ (upd H x o) {s with heap:=h',toks:=t'}:=I.un (Un.write z B k J)<|I.d7.write z B k J new
theorem Inv.Au(I:Inv X pins σ H s)(h : ∀p∈B,s.heap.get? p.1=b8 p.2/\H p.1=cp/\p.1≠X.env.locals/\p.1∉X.fs/\∀v,p.2.data ≠ .cell v):Inv X B σ H s:=
 ⟨I.ok,I.os,I.bare,I.base,I.loc,I.cell,I.free,I.ov,λp J=>(oz.mp J).elim (λz=>I.pin p<|List.mem_append_left _ z) (h p),I.d7,I.len⟩
theorem JS{N:List Str}(z:N.Nodup){i j:Nat}{x:Str}(a:N[i]? = b8 x)(b:N[j]? = b8 x):i=j:=by obtain⟨f,d⟩:=mP.mp a;obtain⟨g,e⟩:=mP.mp b;exact(List.getElem_inj z).mp (d.trans e.symm)
theorem wJ{M:Model}{A:i4}{E:GQ}{i:Nat}{x:Str}{v:V}{u:di}{Q:Unit->d0->Prop}(I:Inv X pins σ H s)(hN:X.N.Nodup)(hi:X.N[i]? = b8 x)(O:Loc X.env.scope x)(r:RelV v u)
 (h : ∀Z,Inv X pins (σ.set i<|some v) H Z->(∃a,oY a s.heap Z.heap/\(a=X.env.locals\/X.env.cells.lookup x=b8 a))->Q () Z) (hf:X.fn x=b9\/X.env.scope.names.lookup x=b8 .local:=by first | exact .inl rfl | exact .inr rfl | assumption):wpAny M A (storeName X.env x u) Q E s:=by
 obtain⟨m,G,hl⟩:=id I.loc;have aw:(X.env.scope.kind == .class || (X.env.scope.kind == .module && X.env.locals != X.env.globals))=cq:=by rw[I.ok.kind];rfl
 have a9:i<σ.length:=by rw[I.len];exact(mP.mp hi).1
 have sX:=I.sX;have ac : ∀{a:c8} {h':d6},(∃o,s.heap.get? a=b8 o/\H a=cp)->oY a s.heap h'->f9 X.prog X.w H h':=λ{a h'} ha B b ob e=>by
  obtain⟨_,_,am⟩:=ha;refine(I.d7 b ob e).tm (λc t J q=>(B.2 c ?_).trans q) (λ_ q=>q) λ_ _ q=>q;rintro rfl;rcases J with rfl | J
  ·rw[am]at e;cases e
  ·rw[am]at J;cases J
 rcases O with R | R
 ·refine wpAny_storeName_local R G (λh' b0 B=>?_) aw
  obtain⟨oL,_,_,b6,_⟩:=id G;refine h _ ⟨I.ok,I.os,I.bare,⟨λb o e n U O=>?_,λb o e n U O=>?_,I.base.free,λb o e O=>?_,I.base.tM,I.base.sZ,I.base.tK⟩,⟨_,b0,λj y v' f g F=>?_⟩,λy c e=>?_,I.free,I.ov,λp K=>?_,ac ⟨oL,b6,I.free⟩ B,by simpa using I.len⟩ ⟨_,B,.inl rfl⟩
  ·exact(B.2 b<|nt<|mU (mS e) I.ok.above).trans (I.base.keep b o e n U O)
  ·obtain⟨T,f⟩:=I.base.slot b o e n U O
   exact⟨T,(B.2 b<|nt<|mU (mS e) I.ok.above).trans f⟩
  ·obtain⟨P,f⟩:=I.base.there b o e O
   exact⟨P,(B.2 b<|nt<|mU (mS e) I.ok.above).trans f⟩
  ·by_cases W:j=i
   ·subst W
    rw[hi]at f;cases f;rw[nD a9]at g;cases g;exact⟨u,r,.inl ⟨R,by simp⟩⟩
   ·rw[mK (nW W)]at g
    obtain⟨u',S,q⟩:=hl j y v' f g F;refine⟨u',S,?_⟩;rcases q with⟨k,e⟩ | ⟨k,c,e,z⟩
    ·refine .inl ⟨k,?_⟩
     have:y≠x:=λe=>W<|JS hN f<|e ▸ hi;simp[this,e]
    ·exact .inr ⟨k,c,e,z.sameBut B<|sX y c e⟩
  ·obtain⟨t,z⟩:=I.cell y c e
   exact⟨t,z.sameBut B<|sX y c e⟩
  ·obtain⟨e,n,l,L,d⟩:=I.pin p K
   exact⟨(B.2 p.1 l).trans e,n,l,L,d⟩
 ·have C:X.fn x=b9:=by
   rcases hf with z | z
   ·exact z
   ·rw[z]at R;cases R
  obtain⟨c,J⟩:=I.ok.has x<|.inl R;obtain⟨t,z⟩:=I.cell x c J;refine wpAny_storeName_cell I.ok.kind R J z<|λh' an B=>?_;obtain⟨oc,ao,b7⟩:=id z;refine h {s with heap:=h'} ⟨I.ok,I.os,I.bare,⟨λb o e n U O=>?_,λb o e n U O=>?_,I.base.free,λb o e O=>?_,I.base.tM,I.base.sZ,I.base.tK⟩,⟨m,G.sameBut B<|nW<|sX x c J,λj y v' f g F=>?_⟩,λy Y e=>?_,I.free,I.ov,λp K=>?_,ac ⟨oc,ao,I.ov x c J⟩ B,by simpa using I.len⟩ ⟨c,B,.inr J⟩
  ·exact(B.2 b<|nt<|mU (mS e)<|I.ok.t4 x c C J).trans (I.base.keep b o e n U O)
  ·obtain⟨T,f⟩:=I.base.slot b o e n U O
   exact⟨T,(B.2 b<|nt<|mU (mS e)<|I.ok.t4 x c C J).trans f⟩
  ·obtain⟨P,f⟩:=I.base.there b o e O
   exact⟨P,(B.2 b<|nt<|mU (mS e)<|I.ok.t4 x c C J).trans f⟩
  ·by_cases W:j=i
   ·subst W
    rw[hi]at f;cases f;rw[nD a9]at g;cases g;exact⟨u,r,.inr ⟨.inl R,c,J,an⟩⟩
   ·rw[mK (nW W)]at g
    obtain⟨u',S,q⟩:=hl j y v' f g F;refine⟨u',S,?_⟩;rcases q with q | ⟨k,Y,e,z'⟩
    ·exact .inl q
    ·refine .inr ⟨k,Y,e,z'.sameBut B ?_⟩
     rintro rfl;exact W<|JS hN f<|I.ok.inj _ _ _ e J ▸ hi
  ·by_cases ap:Y=c
   ·subst ap;exact⟨_,an⟩
   ·obtain⟨w2,z2⟩:=I.cell y Y e
    exact⟨w2,z2.sameBut B ap⟩
  ·obtain⟨e,n,l,L,d⟩:=I.pin p K
   refine⟨(B.2 p.1 ?_).trans e,n,l,L,d⟩;intro q;rw[q,ao]at e;have q':oc=p.2:=nA e;exact d t (by rw[<- q'];exact b7)
theorem JD(I:Inv X pins σ H s)(z:X.N.Nodup)(hi:X.N[i]? = b8 x)(B:Loc X.env.scope x)(r:RelV v u)
 (h : ∀t,Inv X pins (σ.set i<|some v) H t->Q () t) (J:X.fn x=b9\/X.env.scope.names.lookup x=b8 .local:=by first | exact .inl rfl | exact .inr rfl | assumption):wpAny M A (storeName X.env x u) Q E s:=
 wJ I z hi B r (λt O _=>h t O) J
theorem Inv.AW(I:Inv X pins σ H s)(z:s'.os=s.os)(u:Un (ni X.stack) ch H H' s.heap s'.heap)(t:f9 X.prog X.w H' s'.heap)(B:qs s'.gens)
 (J : ∀b∈ch,(b∈X.ex\/X.hL.heap.objs.size<=b)/\b≠X.env.locals/\(∀x c,X.env.cells.lookup x=b8 c->c≠b)/\∀p∈X.pn++pins,p.1≠b):Inv X pins σ H' s':=by
 obtain⟨h',g',d',t',a⟩:=s';have e:a=s.os:=z;subst e;exact I.call (g':=g') (t':=t') (d':=d') u t B J
end
abbrev XK:=di->Option c8->Hp->Prop
abbrev St:=List (Option V)
abbrev VK:=V->Hp->Prop
abbrev TE:=St->Hp->VK->Prop
abbrev TT:=St->Hp->(Bool->Hp->Prop)->Prop
abbrev TA:=St->Hp->(List V->Hp->Prop)->Prop
structure Ends where
 nx:St->Hp->Prop
 rt:VK
 bk:St->Hp->Prop:=λ_ _=>False
 ct:St->Hp->Prop:=λ_ _=>False
abbrev TS:=Ends->St->Hp->Prop
noncomputable def EP(X:Cx)(t:GW)(C:St)(Q:VK)(u:di)(z:d0):Prop:=∃v a,Inv X t C a z/\RelV v u/\Q v a
noncomputable def TP(X:Cx)(t:GW)(C:St)(Q:Bool->Hp->Prop)(b:Bool)(z:d0):Prop:=∃a,Inv X t C a z/\Q b a
noncomputable def AP(X:Cx)(t:GW)(G:St)(Q:List V->Hp->Prop)(C:List di)(z:d0):Prop:=∃b a,Inv X t G a z/\d5 b C/\Q b a
noncomputable def SP(X:Cx)(t:GW)(D:Ends)(f:Flow)(z:d0):Prop:=
 match f with
 | .next=>∃a b,Inv X t a b z/\D.nx a b
 | .brk=>∃a b,Inv X t a b z/\D.bk a b
 | .cont=>∃a b,Inv X t a b z/\D.ct a b
 | .ret u=>∃v a b,Inv X t a b z/\RelV v u/\D.rt v b
noncomputable def PE(X:Cx)(e:dV)(t:TE):Prop:=
 ∀(a:GW) (s:d0) (b:St) (H:Hp) (Q:VK),Inv X a b H s->t b H Q->wpAny (d4 X.prog X.w) X.A (d1 e X.env) (EP X a b Q) X.xe s
noncomputable def PT(X:Cx)(e:dV)(t:TT):Prop:=
 ∀(a:GW) (s:d0) (b:St) (H:Hp) (Q:Bool->Hp->Prop),Inv X a b H s->t b H Q->wpAny (d4 X.prog X.w) X.A (t8 e X.env<|eval e X.env) (TP X a b Q) X.xe s
noncomputable def PW(X:Cx)(e:dV)(t:TT):Prop:=
 ∀(z:Sem di) (a:GW) (s:d0) (b:St) (H:Hp) (Q:Bool->Hp->Prop),Inv X a b H s->t b H Q->wpAny (d4 X.prog X.w) X.A (t8 e X.env z) (TP X a b Q) X.xe s
theorem PW.pt(h:PW X e t):PT X e t:=h _
noncomputable def PA(X:Cx)(z:List dV)(t:TA):Prop:=
 ∀(pos:d9) (a:GW) (s:d0) (b:St) (H:Hp) (Q:List V->Hp->Prop),Inv X a b H s->t b H Q->wpAny (d4 X.prog X.w) X.A (tj<|backTo pos<|starEach z X.env) (AP X a b Q) X.xe s
noncomputable def PS(X:Cx)(st:e7)(t:TS):Prop:=
 ∀(a:GW) (s:d0) (b:St) (H:Hp) (D:Ends),Inv X a b H s->t D b H->wpAny (d4 X.prog X.w) X.A (exec st X.env) (SP X a D) X.xe s
noncomputable def jn(X:Cx)(st:List e7)(t:TS):Prop:=
 ∀(a:GW) (s:d0) (b:St) (H:Hp) (D:Ends),Inv X a b H s->t D b H->wpAny (d4 X.prog X.w) X.A (execs st X.env) (SP X a D) X.xe s
theorem d3(h:wpAny M A t Q E s)(z : ∀a s,Q a s->Q' a s):wpAny M A t Q' E s:=oC h z λ_ _ x=>x
section
variable{X:Cx}
def W9(i:Nat):TE:=λa H Q=>∃v,a[i]? = b8 (b8 v)/\Q v H
def tC(v:V):TE:=λ_ H Q=>Q v H
theorem ba(O:X.N[i]? = b8 x)(R:uU X.env.scope x)(t:(x==("__debug__" : Str))=cq:=by decide)(U:(x==("__classdict__" : Str))=cq:=by decide):PE X (.Name x pos) (W9 i):=by
 intro a s f H Q I h;obtain⟨v,e,h⟩:=h;obtain⟨m,d,W⟩:=I.loc;obtain⟨u,r,l⟩:=W i x v O e R;have B:EP X a f Q u s:=⟨v,H,I,r,h⟩;rcases l with⟨z,b⟩ | ⟨z,c,J,M⟩
 ·exact AQ (wpAny_loadName_local I.ok.kind z d b B) t
 ·rcases z with z | z
  ·exact AQ (wpAny_loadName_cell I.ok.kind z J M B) t
  ·exact AQ (wpAny_loadName_free I.ok.kind z J M B U) t
theorem bq:PE X (.Constant (.int i) j pos) (tC<|.int i):=λ_ _ _ H _ I h=>wpAny_Constant_int ⟨.int i,H,I.tok _,⟨_,rfl⟩,h⟩
theorem fB:PE X (.Constant (.bool b) j pos) (tC<|.bl b):=λ_ _ _ H _ I h=>Constant_bool ⟨.bl b,H,I,rfl,h⟩
theorem X5:PE X (.Constant (.str x) j pos) (tC<|.str x):=λ_ _ _ H _ I h=>Calls.Constant_str ⟨.str x,H,I.tok _,⟨_,rfl⟩,h⟩
def Gl(X:Cx)(x:Str):Prop:=X.env.kindOf x=b8 .globalImplicit
theorem Kj(I:Inv X pins σ H s)(z:Gl X x)(C:X.mg x=b8 u)(h:Q u s)
 (t:(x==("__debug__" : Str))=cq:=by decide):wpAny (d4 X.prog X.w) X.A (d1 (.Name x pos) X.env) Q E s:=
 Calls.Name_function_global I.ok.kind z (Calls.loadGlobal_global (by rw[I.ok.glob];exact I.mod.glob.keeps I.bk) C h) t
theorem xA(I:Inv X pins σ H s)(z:Gl X x)(C:X.mg x=cp)(B:sV x=b8 u)(h:Q u s)
 (G:x ≠ "__name__":=by decide) (t:(x==("__debug__" : Str))=cq:=by decide):wpAny (d4 X.prog X.w) X.A (d1 (.Name x pos) X.env) Q E s:=by
 obtain⟨d,a,b⟩:=I.mod.blt;exact Calls.Name_function_global I.ok.kind z (Calls.loadGlobal_builtin (by rw[I.ok.glob];exact I.mod.glob.keeps I.bk) C (by rw[I.ok.blt];exact a.keeps I.bk) ((b x G).trans B) h) t
variable{a b:dV}{ta tb:TE}{pos:d9}
def tB(t:TE):TT:=λb H Q=>t b H λx a=>∃c,x = .bl c/\Q c a
theorem aM(h:PE X e t)(B : ∀z,t8 e X.env z=(do let v <- z;x4 e.pos;s8 [v] (truthy v)):=by intro _;rfl):PT X e (tB t):=by intro a s g H Q I f;refine isTrue_plain (d3 (h a s g H _ I f) λv i J=>?_)<|B _;obtain⟨x,b,M,O,R⟩:=J;obtain⟨d,rfl,q⟩:=R;cases O;exact oj ⟨b,M,q⟩
variable{tA uL:TT}{xu:List dV}
noncomputable def lh(t u:TT):TT:=λb H Q=>t b H λc a=>if c=b9 then u b a Q else Q cq a
noncomputable def Bk(t u:TT):TT:=λb H Q=>t b H λc a=>if c=b9 then Q b9 a else u b a Q
def iX(t:TT):TT:=λb H Q=>t b H λc a=>Q (!c) a
theorem Wc(t:PT X a tA):PW X (.BoolOp .And [a] pos) tA:=by
 intro z b s d H Q I h;refine isTrue_and<|d3 (t b s d H Q I h) λc f e=>?_;cases c with
 | true=>exact isTrue_and_nil e
 | false=>exact e
theorem aF(t:PT X a tA):PW X (.BoolOp .Or [a] pos) tA:=by
 intro z b s d H Q I h;refine isTrue_or<|d3 (t b s d H Q I h) λc f e=>?_;cases c with
 | false=>exact isTrue_or_nil e
 | true=>exact e
theorem aG(t:PT X a tA)(J:PW X (.BoolOp .And (b::xu) pos) uL):PW X (.BoolOp .And (a::b::xu) pos) (lh tA uL):=by
 intro M d s f H Q I h;refine isTrue_and<|d3 (t d s f H _ I h) λc g O=>?_;obtain⟨e,z,B⟩:=O;cases c with
 | true=>exact J M d g f e Q z B
 | false=>exact⟨e,z,B⟩
theorem fi(t:PT X a tA)(J:PW X (.BoolOp .Or (b::xu) pos) uL):PW X (.BoolOp .Or (a::b::xu) pos) (Bk tA uL):=by
 intro M d s f H Q I h;refine isTrue_or<|d3 (t d s f H _ I h) λc g O=>?_;obtain⟨e,z,B⟩:=O;cases c with
 | true=>exact⟨e,z,B⟩
 | false=>exact J M d g f e Q z B
theorem aN(ha:PT X a tA):PT X (.UnaryOp .Not a pos) (iX tA):=by intro b s e H Q I h;exact isTrue_not<|ha b s e H (λc d=>Q (!c) d) I h
noncomputable def eK(ta tb:TE):TE:=λb H Q=>ta b H λx a=>∃c,x = .bl c/\if c=b9 then tb b a Q else Q (.bl cq) a
noncomputable def eD(ta:TE):TE:=λb H Q=>ta b H λx a=>∃c,x = .bl c/\Q (.bl<|!c) a
theorem bh(h:PE X a t):PE X (.BoolOp op [a] pos) t:=λb s e H Q I d=>BoolOp_one<|h b s e H Q I d
theorem br(t:PE X a ta)(J:PE X (.BoolOp .And (b::xu) pos) tb):PE X (.BoolOp .And (a::b::xu) pos) (eK ta tb):=by
 intro d s f H Q I h;refine BoolOp_and<|d3 (t d s f H _ I h) λv g M=>?_;obtain⟨x,e,B,O,z⟩:=M;obtain⟨c,rfl,z⟩:=z;cases O;refine oj ?_;cases c with
 | true=>exact J d g f e Q B z
 | false=>exact⟨.bl cq,e,B,rfl,z⟩
theorem bj(t:PE X a ta):PE X (.UnaryOp .Not a pos) (eD ta):=by intro b s e H Q I h;refine UnaryOp_<|d3 (t b s e H _ I h) λv f B=>?_;obtain⟨x,d,J,M,z⟩:=B;obtain⟨c,rfl,z⟩:=z;cases M;exact not_of<|oj ⟨.bl<|!c,d,J,rfl,z⟩
noncomputable def zi(t:TT)(ta tb:TE):TE:=λa H Q=>t a H λc b=>if c=b9 then ta a b Q else tb a b Q
theorem YC(J:PT X c tA)(t:PE X a ta)(M:PE X b tb):PE X (.IfExp c a b pos) (zi tA ta tb):=by
 intro e s f H Q I h;refine wpAny_IfExp<|d3 (J e s f H _ I h) λd i O=>?_;obtain⟨g,z,B⟩:=O;cases d with
 | true=>exact t e i f g Q z B
 | false=>exact M e i f g Q z B
end
noncomputable def el(K:mD)(H:Hp)(a:c8)(xs:List V):Prop:=
 Rd H a (.lst xs)\/
  ∃(o:h9) (z:Array di) (n:Nat),K.lookup a=b8 o/\o.cls = .type "list"/\o.dict=cp/\o.data = .seq z n/\z.size<=ej/\d5 xs z.toList
noncomputable def eu(K:mD)(H:Hp)(a:c8)(xs:List V):Prop:=
 Rd H a (.tup xs)\/
  ∃(o:h9) (z:Array di) (n:Nat),K.lookup a=b8 o/\(o.cls,o.dict)=(sj "tuple",cp)/\o.data = .seq z n/\z.size<=ej/\d5 xs z.toList
noncomputable def md:di->Option V
 | .none=>b8 .ea
 | .bool b=>b8 (.bl b)
 | .int i _=>b8 (.int i)
 | .str x _=>b8 (.str x)
 | .bytes b _=>b8 (.uY b)
 | .float b _=>b8 (.tH b)
 | .ref a=>b8 (.ref a)
 | .type n=>b8 (.ty n)
 | _=>cp
theorem RelV.abs(r:RelV x u):md u=b8 x:=by
 cases x with
 | ea=>cases r;rfl
 | bl _=>cases r;rfl
 | int _=>obtain⟨t,rfl⟩:=r;rfl
 | str _=>obtain⟨t,rfl⟩:=r;rfl
 | uY _=>obtain⟨t,rfl⟩:=r;rfl
 | tH _=>obtain⟨t,rfl⟩:=r;rfl
 | ref _=>cases r;rfl
 | ty _=>cases r;rfl
theorem RelV.inj(r:RelV x u)(q:RelV y u):x=y:=nA<|r.abs.symm.trans q.abs
theorem d5.inj : ∀{xs C:List V} {z:List di},d5 xs z->d5 C z->xs=C
 | _,_,_,.nil,.nil=>rfl
 | _,_,_,.cons r t,.cons r' t'=>by rw[r.inj r',d5.inj t t']
section
variable{X:Cx}{pins:GW}{σ:St}{H:Hp}{s:d0}{a:c8}{xs ys:List V}
theorem el.of{K:mD}(h:H a=b8 (.lst xs)):el K H a xs:= .inl (.inl h)
theorem eu.of{K:mD}(h:H a=b8 (.tup xs)):eu K H a xs:= .inl (.inl h)
theorem Inv.list(I:Inv X pins σ H s)(h:el X.K H a xs) : ∃B:List di,d5 xs B/\PlainL s.heap a B.toArray/\xs.length<=ej:=by
 rcases h with h | ⟨o,B,n,J,M,hd,O,R,r⟩
 ·obtain⟨z,B,n,r,e⟩:=h.ok I.d7
  exact⟨B,r,⟨_,n,e,rfl,rfl,rfl⟩,z⟩
 ·refine⟨B.toList,r,⟨o,n,I.f6 a o J,M,hd,by simpa using O⟩,?_⟩
  have e:=r.length;simp only[pK]at e;omega
theorem Inv.tuple(I:Inv X pins σ H s)(h:eu X.K H a xs) : ∃B:List di,d5 xs B/\tX s.heap a B.toArray/\xs.length<=ej:=by
 rcases h with h | ⟨o,B,n,J,M,O,R,r⟩
 ·obtain⟨z,B,r,p⟩:=h.ok I.d7
  exact⟨B,r,p.tup,z⟩
 ·refine⟨B.toList,r,⟨o,I.f6 a o J,(Prod.mk.inj M).1,n,by simpa using O⟩,?_⟩
  have e:=r.length;simp only[pK]at e;omega
theorem Inv.u9(I:Inv X pins σ H s)(h:el X.K H a xs)(h':el X.K H a ys):xs=ys:=by
 obtain⟨B,r,⟨o,n,e,_,_,d⟩,_⟩:=I.list h;obtain⟨b,J,⟨g,O,z,_,_,f⟩,_⟩:=I.list h';rw[e]at z;cases z;rw[d]at f;injection f with M _;have:B=b:=by simpa using congrArg Array.toList M
 subst this;exact r.inj J
theorem Inv.AK(I:Inv X pins σ H s)(h:eu X.K H a xs)(h':eu X.K H a ys):xs=ys:=by
 obtain⟨B,r,⟨o,e,_,n,d⟩,_⟩:=I.tuple h;obtain⟨b,J,⟨g,z,_,O,f⟩,_⟩:=I.tuple h';rw[e]at z;cases z;rw[d]at f;injection f with M _;have:B=b:=by simpa using congrArg Array.toList M
 subst this;exact r.inj J
end
abbrev Cx.l6(X:Cx)(E:GQ):Cx:={X with xe:=E}
abbrev Cx.tJ(X:Cx):Cx:=X.l6 λ_ _=>False
theorem Cx.Ok.l6{X:Cx}(ok:X.Ok)(E:GQ):(X.l6 E).Ok:=
 ⟨ok.mod,ok.kind,ok.glob,ok.blt,ok.above,ok.inj,ok.has,ok.t4,ok.hd,ok.frames,ok.uK,ok.uA,ok.bs,ok.ri,ok.ub,ok.t6,ok.n0,ok.tI⟩
theorem Cx.Ok.p9{X:Cx}{E:GQ}(ok:(X.l6 E).Ok):X.Ok:=
 ⟨ok.mod,ok.kind,ok.glob,ok.blt,ok.above,ok.inj,ok.has,ok.t4,ok.hd,ok.frames,ok.uK,ok.uA,ok.bs,ok.ri,ok.ub,ok.t6,ok.n0,ok.tI⟩
section
variable{X:Cx}{pins:GW}{σ:St}{H:Hp}{s:d0}{E:GQ}
theorem Inv.l6(I:Inv X pins σ H s)(E:GQ):Inv (X.l6 E) pins σ H s:=⟨I.ok.l6 E,I.os,I.bare,I.base,I.loc,I.cell,I.free,I.ov,I.pin,I.d7,I.len⟩
theorem Inv.p9(I:Inv (X.l6 E) pins σ H s):Inv X pins σ H s:=⟨I.ok.p9,I.os,I.bare,I.base,I.loc,I.cell,I.free,I.ov,I.pin,I.d7,I.len⟩
theorem SP.p9(h:SP (X.l6 E) pins D f s'):SP X pins D f s':=by
 cases f with
 | next=>obtain⟨a,b,I,q⟩:=h;exact⟨a,b,I.p9,q⟩
 | brk=>obtain⟨a,b,I,q⟩:=h;exact⟨a,b,I.p9,q⟩
 | cont=>obtain⟨a,b,I,q⟩:=h;exact⟨a,b,I.p9,q⟩
 | ret u=>obtain⟨v,a,b,I,r,q⟩:=h;exact⟨v,a,b,I.p9,r,q⟩
theorem jn.tJ{st:List e7}{t:TS}(h:jn X.tJ st t):jn X st t:=λpins s σ H D I a=>
 oC (h pins s σ H D (I.l6 _) a) (λ_ _ q=>q.p9) λ_ _ z=>oX z
end
section
variable{X:Cx}{st:e7}{xu:List e7}{t u:TS}{e:dV}{te:TE}{pos:d9}
def eG:TS:=λD a H=>D.nx a H
def iV(t u:TS):TS:=λD a H=>t {D with nx:=u D} a H
theorem Wk:jn X [] eG:=λ_ _ a H _ I h=>rT ⟨a,H,I,h⟩
theorem Yt(C:PS X st t)(G:jn X xu u):jn X (st::xu) (iV t u):=by
 intro a s g H D I h;refine wpAny_execs_cons<|d3 (C a s g H {D with nx:=u D} I h) λf e q=>?_;cases f with
 | next=>
  obtain⟨b,d,z,q⟩:=q;exact G a e b d D z q
 | ret v=>exact q
 | brk=>exact q
 | cont=>exact q
theorem Wj(z:PS X st t):jn X [st] t:=by
 intro a s b H D I h;refine wpAny_execs_cons<|d3 (z a s b H D I h) λf d q=>?_;cases f with
 | next=>exact rT q
 | ret v=>exact q
 | brk=>exact q
 | cont=>exact q
theorem Inv.quiet(I:Inv X pins σ H s):interactive X.env=cq:=by simp[interactive,I.ok.kind]
def eH(te:TE):TS:=λD a H=>te a H λ_ b=>D.nx a b
theorem XX(z:PE X e te)(B:p8 e cp pos.line X.env=pure cq:=by rfl):PS X (.Expr e pos) (eH te):=by intro a s b H D I h;exact wpAny_Expr_any (d3 (z a s b H _ I h) λv f ⟨x,d,J,O,M⟩=>⟨b,d,J,M⟩) I.quiet B
def iW(te:TE):TS:=λD a H=>te a H D.rt
theorem Vm(z:PE X e te):PS X (.Return (b8 e) pos) (iW te):=by intro a s b H D I h;exact wpAny_Return_some<|d3 (z a s b H _ I h) λv f ⟨x,d,B,J,M⟩=>⟨x,b,d,B,J,M⟩
noncomputable def iZ(c:TT)(t u:TS):TS:=λD a H=>c a H λb d=>if b=b9 then t D a d else u D a d
theorem fw(J:PT X c tc)(C:jn X a t)(M:jn X b u):PS X (.If c a b pos) (iZ tc t u):=by
 intro e s f H D I h;refine wpAny_If<|d3 (J e s f H _ I h) λd i O=>?_;obtain⟨g,z,B⟩:=O;cases d with
 | true=>exact C e i f g D z B
 | false=>exact M e i f g D z B
def ab:TS:=λ_ _ _=>False
theorem Yy:PS X st ab:=λ_ _ _ _ _ _ h=>h.elim
end
abbrev TG:=V->St->Hp->(St->Hp->Prop)->Prop
abbrev tw:=List V->St->Hp->(St->Hp->Prop)->Prop
noncomputable def PG(X:Cx)(z:dV)(t:TG):Prop:=
 ∀(a:GW) (s:d0) (e:St) (H:Hp) (v:V) (u:di) (Q:St->Hp->Prop),Inv X a e H s->RelV v u->t v e H Q->
  wpAny (d4 X.prog X.w) X.A (n6 z X.env u) (λ_ f=>∃b d,Inv X a b d f/\Q b d) X.xe s
noncomputable def tZ(X:Cx)(z:List dV)(t:tw):Prop:=
 ∀(a:GW) (s:d0) (g:St) (H:Hp) (f:List V) (e:List di) (Q:St->Hp->Prop),Inv X a g H s->d5 f e->t f g H Q->
  wpAny (d4 X.prog X.w) X.A (assignInOrder ((o9 z X.env).map (·.2)) e) (λ_ h=>∃b d,Inv X a b d h/\Q b d) X.xe s
abbrev iM:=V->V->V->Hp->(Hp->Prop)->Prop
noncomputable def iN(X:Cx)(t:iM):Prop:=
 ∀(a:GW) (s:d0) (d:St) (H:Hp) (o i v:V) (z B u:di) (Q:Hp->Prop),Inv X a d H s->RelV o z->RelV i B->RelV v u->t o i v H Q->
  wpAny (d4 X.prog X.w) X.A (Az z B u) (λ_ e=>∃b,Inv X a d b e/\Q b) X.xe s
section
variable{X:Cx}{pos:d9}
def kG(i:Nat):TG:=λv a H Q=>Q (a.set i<|some v) H
theorem X4(z:X.N.Nodup)(hi:X.N[i]? = b8 x)(B:Loc X.env.scope x)(J:X.fn x=b9\/X.env.scope.names.lookup x=b8 .local:=by first | exact .inl rfl | exact .inr rfl | assumption):PG X (.Name x pos) (kG i):=by intro a s d H v u Q I r h;exact Bo<|JD I z hi B r (λb M=>⟨_,H,M,h⟩) J
def hX:tw:=λa b H Q=>a=[]/\Q b H
noncomputable def bW(t:TG)(u:tw):tw:=λd e H Q=>∃v r,d=v::r/\t v e H λa b=>u r a b Q
theorem X3:tZ X [] hX:=by intro a s b H f d Q I r h;obtain⟨e,h⟩:=h;subst e;cases r;exact assignInOrder_nil ⟨b,H,I,h⟩
theorem x6(C:PG X e t)(G:tZ X es u)
 (z:(o9 (e::es) X.env).map (·.2)=n6 e X.env::(o9 es X.env).map (·.2):=by rfl):tZ X (e::es) (bW t u):=by
 intro a s g H j i Q I r h;obtain⟨v,U,d,h⟩:=h;subst d;cases r with
 | cons r B=>
  rw[z];refine assignInOrder_cons<|d3 (C a s g H _ _ _ I r h) λ_ f J=>?_;obtain⟨M,b,O,R⟩:=J;exact G a f M b _ _ Q O B R
noncomputable def hV(K:mD)(n:Nat)(t:tw):TG:=λv d H Q=>∃a b,v = .ref a/\eu K H a b/\b.length=n/\t b d H Q
theorem aX(B:X.calm=b9)(h:tZ X es t)
 (C:(o9 es X.env).length=n:=by rfl) (J:(o9 es X.env).findIdx? (·.1)=cp:=by rfl):PG X (.Tuple es k pos) (hV X.K n t):=by
 intro d s g H v u Q I r f;obtain⟨a,l,i,M,O,f⟩:=f;subst i;cases r;obtain⟨Y,z,R,m⟩:=I.tuple M;refine assign_Tuple_tuple (I.ok.hd B) R (by simp[C,<- O,z.length]) J λj U=>?_;have W:Inv X d g H {s with heap:=j}:=I.kept (t':=s.toks) λb o e=>U b o (nt<|mS e) e;exact h d _ g H l _ Q W (by simpa using z) f
noncomputable def lV(to z:TE)(t:iM):TG:=λv a H Q=>to a H λo b=>z a b λi d=>t o i v d λB=>Q a B
theorem aY(M:PE X o to)(hi:PE X i ti)(O:iN X t)
 (C : ∀v,n6 (.Subscript o i pos) X.env v=(do
   let z <- s8 [v] (d1 o X.env);let B <- s8 [v,z] (d1 i X.env)
   x4 pos
   s8 [v,z,B] (Az z B v)
   release [v,z,B] []):=by intro _;rfl):PG X (.Subscript o i pos) (lV to ti t):=by
 intro a s b H v u Q I r h;rw[C];refine mE<|rK<|d3 (M a s b H _ I h) λz n J=>?_;obtain⟨x,d,R,U,W⟩:=J;refine mE<|rK<|d3 (hi a n b d _ R W) λB p J=>?_;obtain⟨y,e,Y,m,j⟩:=J;refine mE<|wpAny_standAt<|mE<|rK<|d3 (O a p b e x y v z B u _ Y U m r j) λ_ w J=>?_;obtain⟨f,g,l⟩:=J;exact wpAny_release ⟨b,f,g,l⟩
def K2(t:TE)(g:TG):TS:=λD a H=>t a H λx b=>g x a b D.nx
theorem XY(z:PE X e te)(B:PG X tg g)(J:y3 [tg] e pos.line X.env=pure cq:=by rfl)(C:AE [tg] e X.env=pure cp:=by rfl)
 (t:(o9 [tg] X.env).map (·.2)=[n6 tg X.env]:=by rfl):PS X (.Assign [tg] e pos) (K2 te g):=by
 intro a s b H D I h;refine wpAny_Assign_stores (d3 (z a s b H _ I h) λv f M=>?_) J C;obtain⟨x,d,O,R,U⟩:=M;rw[t];exact d3 (B a f b d x v _ O R U) λ_ i q=>q
theorem aO(z:X.N.Nodup)(hi:X.N[i]? = b8 x)(B:Loc X.env.scope x)(J:PE X e te)(M:p8 e (b8 (.Name x pos')) pos.line X.env=pure cq:=by rfl)(O:X.fn x=b9\/X.env.scope.names.lookup x=b8 .local:=by first | exact .inl rfl | exact .inr rfl | assumption) :
 PS X (.Assign [.Name x pos'] e pos) (K2 te<|kG i):=by
 intro a s f H D I h;refine wpAny_Assign_Name (d3 (J a s f H _ I h) λv g R=>?_) M;obtain⟨y,b,U,W,Y⟩:=R;exact JD U z hi B W (λj d=>⟨_,b,d,Y⟩) O
end
structure It where
 go:Nat->Hp->Prop
 o4:Nat->Hp->V->Hp->Prop
 stop:Nat->Hp->Prop
noncomputable def Xj(X:Cx)(t:GW)(H:Hp)(b:c8):Prop:=
 H b=cp/\b≠X.env.locals/\b∉X.fs/\(b∈X.ex\/X.hL.heap.objs.size<=b)/\(∀x c,X.env.cells.lookup x=b8 c->c≠b)/\∀p∈X.pn++t,p.1≠b
theorem Inv.t7(I:Inv X pins σ H s)(B:s.heap.objs.size<=b)(t:H' b=cp):Xj X pins H' b:=by
 refine⟨t,pb<|mU I.lt B,I.Bb B,.inr<|nc I.sz B,λx c e z=>?_,λp J z=>?_⟩
 ·obtain⟨v,q⟩:=I.cell x c e
  exact absurd (mU q.lt<|by rw[z];exact B)<|oa _
 ·exact absurd (mU (mS (I.pin p J).1)<|by rw[z];exact B)<|oa _
structure Turn(P:fy)(w:eW)(K:mD)(tg:dV)(J:It)(fp:List c8)(it:c8)(tn:Nat->d6->Prop):Prop where
 mem:it∈fp
 obj : ∀i h,tn i h->∀b∈fp,∃o,h.get? b=b8 o/\∀v,o.data ≠ .cell v
 keep : ∀i h h',tn i h->(∀b∈fp,∀o,h.get? b=b8 o->h'.get? b=b8 o)->tn i h'
 item : ∀(X:Cx),X.prog=P->X.w=w->X.K=K->X.calm=b9->∀(i:Nat) (pins:GW) (s:d0) (σ:St) (H:Hp) (E:GQ),Inv X pins σ H s->(∀b∈fp,Xj X pins H b)->tn i s.heap->J.go i H->
  wpAny (d4 P w) X.A (uI<|.ref it) (λr s1=>∃u,r=b8 u/\
   wpAny (d4 P w) X.A (t9 tg (.ref it) u) (λ_ s2=>∃x H',Inv X pins σ H' s2/\RelV x u/\J.o4 i H x H'/\tn (i+1) s2.heap/\∀b∈fp,H' b=cp) E s1) E s
 done : ∀(X:Cx),X.prog=P->X.w=w->X.K=K->X.calm=b9->∀(i:Nat) (pins:GW) (s:d0) (σ:St) (H:Hp) (E:GQ),Inv X pins σ H s->(∀b∈fp,Xj X pins H b)->tn i s.heap->J.stop i H->
  wpAny (d4 P w) X.A (uI<|.ref it) (λr s1=>r=cp/\Inv X pins σ H s1) E s
 self : ∀(A:i4) (i:Nat) (s:d0) (Q:GQ) (E:GQ),tn i s.heap->Q (.ref it) s->wpAny (d4 P w) A (uH<|.ref it) Q E s
abbrev TI:=St->Hp->(It->Hp->Prop)->Prop
noncomputable def Ag(X:Cx)(t:GW)(H:St)(G:dV)(R:It->Hp->Prop)(z:di)(C:d0):Prop:=
 ∃(e:c8) (d:List c8) (f:Nat->d6->Prop) (J:It) (a:Hp),z = .ref e/\Inv X t H a C/\Turn X.prog X.w X.K G J d e f/\f 0 C.heap/\(∀b∈d,Xj X t a b)/\R J a
noncomputable def PI(X:Cx)(z t:dV)(C:TI):Prop:=
 ∀(a:GW) (s:d0) (b:St) (H:Hp) (R:It->Hp->Prop),Inv X a b H s->C b H R->
  wpAny (d4 X.prog X.w) X.A (d1 t X.env) (λv d=>wpAny (d4 X.prog X.w) X.A (uH v) (Ag X a b z R) X.xe d) X.xe s
theorem YS(B:s.heap.get? it=b8 o)(I:o.cls = .type n)(t:o.data = .fields vs)
 (C:["enumerate","zip","dict_itemiterator","dict_reverseitemiterator","odict_iterator","itertools.zip_longest","itertools.pairwise"].contains n=cq) (z:Q () s):wpAny M A (t9 tg (.ref it) u) Q E s:=by
 unfold t9;cases tg<;>first
  | exact mL z
  | (cases u<;>first
      | exact mL z
      | (refine mE (wpAny_load B ?_)
         rw[I,t];show wpAny M A (if (["enumerate","zip","dict_itemiterator","dict_reverseitemiterator","odict_iterator","itertools.zip_longest","itertools.pairwise"].contains n && vs[0]? == b8 (uJ _))=b9 then _ else _) Q E s;rw[MQ (by intro h;rw[C,Bool.false_and]at h;cases h)];exact mL z))
noncomputable def Ae(K:mD)(a:c8):It:=
 ⟨λi H=>∃b x,el K H a b/\b[i]? = b8 x,λi H x d=>d=H/\∀b,el K H a b->b[i]? = b8 x,λi H=>∃b,el K H a b/\b.length<=i⟩
noncomputable def Af(K:mD)(a:c8):It:=
 ⟨λi H=>∃b x,eu K H a b/\b[i]? = b8 x,λi H x d=>d=H/\∀b,eu K H a b->b[i]? = b8 x,λi H=>∃b,eu K H a b/\b.length<=i⟩
noncomputable def sx(lo:Int)(n:Nat):It:=⟨λi _=>i<n,λi H x a=>a=H/\x = .int (lo+i),λi _=>n<=i⟩
theorem Xq{P:fy}{w:eW}{K:mD}{tg:dV}(a it:c8):Turn P w K tg (Ae K a) [it] it (λi h=>h.IsListIter it a i) where
 mem:=by simp
 obj:=λi h st b B=>by
  have e:b=it:=by simpa using B
  subst e;obtain⟨o,e,c,d⟩:=st;exact⟨o,e,λv z=>by rw[d]at z;cases z⟩
 keep:=λi h h' st k=>st.at λo e=>k it ⋯ o e
 item:=by intro X O hw R hc i pins s σ H E I J st U;subst O hw R;obtain⟨xs,x,M,W⟩:=U;obtain⟨a7,Y,p,hz⟩:=I.list M;obtain⟨u,hu,ru⟩:=Y.get W;obtain⟨f0,f1,f2,f3,f4,f5⟩:=J it ⋯;refine wpAny_pyNext_list_item st p.isList (x:=u) (by simpa using hu) λh' a6 sb=>?_;have I1:Inv X pins σ H {s with heap:=h'}:=I.turned (t':=s.toks) (λb o B e=>(sb.2 b B).trans e) f0 f1 f3 f4 f5;obtain⟨o,e,c,d⟩:=id a6;exact⟨u,rfl,YS (s:={s with heap:=h'}) e c d ⋯ ⟨x,H,I1,ru,⟨rfl,λys hy=>by rw[I.u9 hy M];exact W⟩,a6,λb B=>(J b B).1⟩⟩
 done:=by intro X O hw R hc i pins s σ H E I J st U;subst O hw R;obtain⟨xs,M,W⟩:=U;obtain⟨a7,Y,p,hz⟩:=I.list M;obtain⟨f0,f1,f2,f3,f4,f5⟩:=J it ⋯;have hl:=Y.length;exact wpAny_pyNext_list_end (I.ok.hd hc) st p.isList (by simp;omega) λh' eb=>⟨rfl,I.turned (t':=s.toks) (λb o B e=>eb b o B e) f0 f1 f3 f4 f5⟩
 self:=λ_ _ _ _ _ st h=>wpAny_pyIter_listiter st h
theorem QK{P:fy}{w:eW}{K:mD}{tg:dV}(a it:c8):Turn P w K tg (Af K a) [it] it (λi h=>h.IsTupleIter it a i) where
 mem:=by simp
 obj:=λi h st b B=>by
  have e:b=it:=by simpa using B
  subst e;obtain⟨o,e,c,d⟩:=st;exact⟨o,e,λv z=>by rw[d]at z;cases z⟩
 keep:=λi h h' st k=>st.at λo e=>k it ⋯ o e
 item:=by intro X O hw R hc i pins s σ H E I J st U;subst O hw R;obtain⟨xs,x,M,W⟩:=U;obtain⟨Y,rv,p,hz⟩:=I.tuple M;obtain⟨u,hu,ru⟩:=rv.get W;obtain⟨f0,f1,f2,f3,f4,f5⟩:=J it ⋯;refine wpAny_pyNext_tuple_item st (show s.heap.IsTuple a Y.toArray from p) (x:=u) (by simpa using hu) λh' a7 sb=>?_;have I1:Inv X pins σ H {s with heap:=h'}:=I.turned (t':=s.toks) (λb o B e=>(sb.2 b B).trans e) f0 f1 f3 f4 f5;obtain⟨o,e,c,d⟩:=id a7;exact⟨u,rfl,YS (s:={s with heap:=h'}) e c d ⋯ ⟨x,H,I1,ru,⟨rfl,λys hy=>by rw[I.AK hy M];exact W⟩,a7,λb B=>(J b B).1⟩⟩
 done:=by intro X O hw R hc i pins s σ H E I J st U;subst O hw R;obtain⟨xs,M,W⟩:=U;obtain⟨Y,rv,p,hz⟩:=I.tuple M;obtain⟨f0,f1,f2,f3,f4,f5⟩:=J it ⋯;have hl:=rv.length;exact wpAny_pyNext_tuple_end (I.ok.hd hc) st (show s.heap.IsTuple a Y.toArray from p) (by simp;omega) λh' eb=>⟨rfl,I.turned (t':=s.toks) (λb o B e=>eb b o B e) f0 f1 f3 f4 f5⟩
 self:=λ_ _ _ _ _ st h=>wpAny_pyIter_tupleiter st h
theorem QL{P:fy}{w:eW}{K:mD}{tg:dV}(it:c8)(lo:Int)(n:Nat):Turn P w K tg (sx lo n) [it] it (λi h=>IsRangeIter h it (lo+(i:Nat)*1) ((n:Int) - (i:Nat)) 1) where
 mem:=by simp
 obj:=λi h st b B=>by
  have e:b=it:=by simpa using B
  subst e;exact⟨_,st,λv z=>by have z':Data.fields _=Data.cell v:=z;cases z'⟩
 keep:=λi h h' st k=>k it ⋯ _ st
 item:=by intro X M hw O R i pins s σ H E I J st U;subst M hw O;obtain⟨Y,f1,f2,f3,f4,f5⟩:=J it ⋯;have W:=Walks.range (prog:=X.prog) (w:=X.w) (I.ok.hd R) it lo 1 n;refine W.item i s _ _ U st λv h' tk hv a5 kk=>?_;obtain⟨t,rfl⟩:=hv;have I1:Inv X pins σ H {s with heap:=h',toks:=tk}:=I.turned (λb o B e=>kk b o (by simpa using B) e) Y f1 f3 f4 f5;refine⟨_,rfl,YS (s:={s with heap:=h',toks:=tk}) (n:="range_iterator") a5 rfl rfl ⋯ ⟨.int (lo+i),H,I1,⟨t,?_⟩,⟨rfl,rfl⟩,a5,λb B=>(J b B).1⟩⟩;rw[Int.mul_one]
 done:=by intro X M hw O R i pins s σ H E I J st U;subst M hw O;obtain⟨Y,f1,f2,f3,f4,f5⟩:=J it ⋯;exact wpAny_pyNext_range_end (I.ok.hd R) st (by have:n<=i:=U;omega) λh' eb=>⟨rfl,I.turned (t':=s.toks) (λb o B e=>eb b o B e) Y f1 f3 f4 f5⟩
 self:=λ_ _ _ _ _ st h=>wpAny_pyIter_rangeiter st h
section
variable{X:Cx}{tg:dV}
theorem Yp{C:GW}{G:St}{H:Hp}{s:d0}{R:It->Hp->Prop}{E:GQ}{lo hi:Int}{t u v:Tok}{z:Nat}(I:Inv X C G H s)(L : -(2 ^ 62)<=lo)(S:lo<2 ^ 62)(J : -(2 ^ 62)<=hi)(M:hi<2 ^ 62)
 (q:R (sx lo (hi - lo).toNat) H):wpAny (d4 X.prog X.w) X.A (uH (.ref s.heap.objs.size)) (Ag X C G tg R) E {s with heap:=s.heap.push {cls:= .type "range",data:= .fields #[.int lo t,.int hi u,.int 1 v]},toks:=z}:=by
 refine wpAny_pyIter_range (IsRange.new ..) (small_one L S J M) ?_;have B:Inv X C G H {s with heap:=s.heap.push {cls:= .type "range",data:= .fields #[.int lo t,.int hi u,.int 1 v]},toks:=z}:=I.kept λb o e=>mF _ e;refine⟨(s.heap.push {cls:= .type "range",data:= .fields #[.int lo t,.int hi u,.int 1 v]}).objs.size,[(s.heap.push {cls:= .type "range",data:= .fields #[.int lo t,.int hi u,.int 1 v]}).objs.size],_,_,H,rfl,
  B.kept (t':=z) λb o e=>mF _ e,QL _ lo (hi - lo).toNat,?_,λb O=>?_,q⟩
 ·have a:lo+((0:Nat):Int)*1=lo:=by simp
  have d:(((hi - lo).toNat:Nat):Int) - ((0:Nat):Int)=Builtin.Range.rangeSize lo hi 1:=by rw[rangeSize_one];split<;>omega
  show IsRangeIter _ _ (lo+((0:Nat):Int)*1) ((((hi - lo).toNat:Nat):Int) - ((0:Nat):Int)) 1;rw[a,d];exact mX _ rfl
 ·have e:b=(s.heap.push {cls:= .type "range",data:= .fields #[.int lo t,.int hi u,.int 1 v]}).objs.size:=by simpa using O
  subst e;exact B.t7 (mN _)<|B.d7.fresh<|mN _
noncomputable def fK(t:TA):TI:=λd H R=>t d H λb a=>∃j:Int,b=[.int j]/\ -(2 ^ 62)<=j/\j<2 ^ 62/\R (sx 0 j.toNat) a
theorem X2{a:dV}{C:TA}{p pos:d9}(B:Gl X "range")(L:X.mg "range" = cp)(G:PA X [a] C)(J:eg [a] X.env=[(cq,d1 a X.env)]:=by rfl):PI X tg (.Call (.Name "range" p) [a] [] pos) (fK C):=by
 intro b s d H R I h;refine Call_<|xA I B L boot_range<|oB (d3 (G pos b s d H _ I h) λi g M=>?_) J rfl;obtain⟨l,f,O,U,z⟩:=M;obtain⟨j,e,z,W,q⟩:=z;subst e;cases U with
 | cons r Y=>
  cases Y;obtain⟨t,rfl⟩:=r;exact call_range_1 (Yp O ⋯ ⋯ z W<|by simpa using q)
noncomputable def lg(C:TI)(g:TG)(t:TS):TS:=λD a H=>C a H λJ f=>∃W:Nat->Nat->St->Hp->Prop,(∃m,W 0 m a f)/\∀i m a H,W i m a H->
 (J.stop i H/\D.nx a H)\/(J.go i H/\∃N:St->Hp->Prop,(∀d b,N d b->∃e,e<m/\W (i+1) e d b)/\∀x b,J.o4 i H x b->g x a b λz h=>t {D with nx:=N,ct:=N,bk:=D.nx} z h)
noncomputable def w9(fp:List c8)(h:d6):List (c8×h9):=fp.filterMap λb=>(h.get? b).map λo=>(b,o)
theorem xi(z:b∈fp)(e:h.get? b=b8 o):(b,o)∈w9 fp h:=List.mem_filterMap.mpr ⟨b,z,by rw[e];rfl⟩
theorem Kd(z:p∈w9 fp h):p.1∈fp/\h.get? p.1=b8 p.2:=by
 obtain⟨b,B,e⟩:=List.mem_filterMap.mp z;cases q:h.get? b with
 | none=>rw[q]at e;cases e
 | some o=>
  rw[q]at e;have I:(b,o)=p:=nA e;subst I;exact⟨B,q⟩
theorem Inv.pinned(I:Inv X pins σ H s)(M : ∀b∈fp,Xj X pins H b)(O : ∀b∈fp,∃o,s.heap.get? b=b8 o/\∀v,o.data ≠ .cell v):Inv X (pins++w9 fp s.heap) σ H s:=
 I.Au λp R=>(oz.mp R).elim (λz=>I.pin p<|nB _ z) λz=>by obtain⟨B,e⟩:=Kd z;obtain⟨U,W,Y,_⟩:=M p.1 B;obtain⟨o,J,d⟩:=O p.1 B;rw[e]at J;cases J;exact⟨e,U,W,Y,d⟩
theorem Inv.uh(I:Inv X (pins++pl) σ H s):Inv X pins σ H s:=I.Au λp z=>I.pin p<|nB _<|List.mem_append_left _ z
theorem aP(Y:Ah (d4 X.prog X.w) X.A X.env X.xe)(hc:X.calm=b9)(hi:PI X tg iter wi)(hg:PG X tg g)(z:jn X body tb)
 (hs : ∀x,oe iter X.env x=pure x:=by intro _;rfl):PS X (.For tg iter body [] pos) (lg wi g tb):=by
 intro a s σ H D I h;refine wpAny_For (d3 (hi a s σ H _ I h) λv s1 h1=>d3 h1 λc6 s2 h2=>?_) hs;obtain⟨it,t,tn,J,H2,e,I2,T,ax,f2,W,⟨m0,w0⟩,b6⟩:=h2;subst e;have G : ∀{p:Hp},(∀b∈t,p b=cp)->∀b∈t,Xj X a p b:=λhn b z=>⟨hn b z,(f2 b z).2⟩;refine codeAny_forLoop_any (λn s'=>∃i j p,Inv X a j p s'/\tn i s'.heap/\(∀b∈t,p b=cp)/\W i n j p) ?_ m0 ⟨0,σ,H2,I2,ax,λb z=>(f2 b z).1,w0⟩;rintro n s3 ⟨i,l,F,Z,C,am,w3⟩;rcases b6 i n l F w3 with⟨E,qn⟩ | ⟨go,N,hN,step⟩
 ·refine pY Y (d3 (T.done X rfl rfl rfl hc i a s3 l F X.xe Z (G am) C E) λr s4 U=>?_)
  obtain⟨L,I4⟩:=U;subst L;exact rT ⟨l,F,I4,qn⟩
 ·refine pY Y (d3 (T.item X rfl rfl rfl hc i a s3 l F X.xe Z (G am) C go) λr s4 U=>?_)
  obtain⟨u,L,h4⟩:=U;subst L;refine pY Y<|d3 h4 λ_ s5 U=>?_;obtain⟨x,S,I5,r5,y5,K,bm⟩:=U;have bn:=I5.pinned (G bm)<|T.obj _ _ K;refine pY Y<|d3 (hg _ s5 l S x u _ bn r5<|step x S y5) λ_ s6 U=>?_;obtain⟨Q,H6,I6,q6⟩:=U;refine pY Y<|d3 (z _ s6 Q H6 _ I6 q6) λf P R=>?_;have again : ∀{B:St} {M:Hp},Inv X (a++w9 t s5.heap) B M P->N B M->∃m,m<n/\∃i j p,Inv X a j p P/\tn i P.heap/\(∀b∈t,p b=cp)/\W i m j p:=λ{B M} O y=>by obtain⟨m',hm,w7⟩:=hN B M y;refine⟨m',hm,i+1,B,M,O.uh,T.keep _ _ _ K λb z o e=>(O.pin (b,o)<|nB _<|nB _<|xi z e).1,λb z=>?_,w7⟩;obtain⟨o,e,d⟩:=T.obj _ _ K b z;exact(O.pin (b,o)<|nB _<|nB _<|xi z e).2.1
  cases f with
  | next=>obtain⟨B,M,O,y⟩:=R;exact again O y
  | cont=>obtain⟨B,M,O,y⟩:=R;exact again O y
  | brk=>obtain⟨B,M,O,R⟩:=R;exact⟨B,M,O.uh,R⟩
  | ret v=>obtain⟨x7,B,M,O,r7,R⟩:=R;exact⟨x7,B,M,O.uh,r7,R⟩
end
theorem Zn{lo:Int}{n:Nat}{g:TG}{S:TS}{D:Ends}{t:St}{H:Hp}(z:Nat->St->Hp->Prop)(J:z 0 t H)
 (M : ∀i t H,i<n->z i t H->g (.int<|lo+i) t H λB L=>S {D with nx:=z<|i+1,ct:=z<|i+1,bk:=D.nx} B L) (Y : ∀t H,z n t H->D.nx t H) :
 ∃W:Nat->Nat->St->Hp->Prop,(∃m,W 0 m t H)/\∀i m t H,W i m t H->
  ((sx lo n).stop i H/\D.nx t H)\/((sx lo n).go i H/\∃N:St->Hp->Prop,(∀G C,N G C->∃O,O<m/\W (i+1) O G C)/\∀x C,(sx lo n).o4 i H x C->g x t C λB L=>S {D with nx:=N,ct:=N,bk:=D.nx} B L):=by
 refine⟨λi m t H=>m=n - i/\i<=n/\z i t H,⟨n,by simp,oO _,J⟩,?_⟩;rintro i m t H ⟨rfl,b,p⟩;by_cases I:i<n
 ·refine .inr ⟨I,z<|i+1,λG C a=>⟨n - (i+1),by omega,rfl,I,a⟩,λx C y=>?_⟩
  obtain⟨e,y⟩:=y;subst e y;exact M i t _ I p
 ·have e:i=n:=by omega
  subst e;exact .inl ⟨mN _,Y t H p⟩
abbrev R2:=V->V->Hp->VK->Prop
noncomputable def fh(X:Cx)(f:di->di->Sem di)(r:R2):Prop:=
 ∀(a:GW) (s:d0) (b:St) (H:Hp) (x y:V) (v u:di) (Q:VK),Inv X a b H s->RelV x v->RelV y u->r x y H Q->
  wpAny (d4 X.prog X.w) X.A (f v u) (EP X a b Q) X.xe s
noncomputable def uT(X:Cx)(f:di->Sem di)(r:V->Hp->VK->Prop):Prop:=
 ∀(a:GW) (s:d0) (b:St) (H:Hp) (x:V) (v:di) (Q:VK),Inv X a b H s->RelV x v->r x H Q->
  wpAny (d4 X.prog X.w) X.A (f v) (EP X a b Q) X.xe s
noncomputable def vf(X:Cx)(f:di)(r:List V->Hp->VK->Prop):Prop:=
 ∀(a:GW) (s:d0) (e:St) (H:Hp) (d:List V) (b:List di) (Q:VK),Inv X a e H s->d5 d b->r d H Q->
  wpAny (d4 X.prog X.w) X.A (call f b) (EP X a e Q) X.xe s
noncomputable def uf(r:R2)(t z:TE):TE:=λa H Q=>t a H λx b=>z a b λy d=>r x y d Q
noncomputable def Bm(r:V->Hp->VK->Prop)(t:TE):TE:=λb H Q=>t b H λx a=>r x a Q
noncomputable def rI(C:Int->Int->Prop)(g:Int->Int->V):R2:=λx y H Q=>∃i j,x = .int i/\y = .int j/\C i j/\Q (g i j) H
noncomputable def lp(g:Int->Int->V):R2:=λx y H Q=>∃i j,x = .int i/\y = .int j/\Q (g i j) H
noncomputable def rU(g:Int->V):V->Hp->VK->Prop:=λx H Q=>∃i,x = .int i/\Q (g i) H
section
variable{X:Cx}{a b c:dV}{ta tb tc:TE}{pos:d9}
theorem gd(Z:PE X a ta)(B:PE X b tb){t:GW}{s:d0}{G:St}{H:Hp}{R:V->V->Hp->Prop}(I:Inv X t G H s)
 (h:ta G H λx S=>tb G S λy C=>R x y C) {Q:GQ} {f:di->di->Sem di}
 (J : ∀v u L x y C,Inv X t G C L->RelV x v->RelV y u->R x y C->wpAny (d4 X.prog X.w) X.A (f v u) Q X.xe L) :
 wpAny (d4 X.prog X.w) X.A (d1 a X.env) (λv M=>wpAny (d4 X.prog X.w) X.A (d1 b X.env) (λu O=>wpAny (d4 X.prog X.w) X.A (f v u) Q X.xe O) X.xe M) X.xe s:=by
 refine d3 (Z t s G H _ I h) λv i z=>?_;obtain⟨x,S,U,W,Y⟩:=z;refine d3 (B t i G S _ U Y) λu L z=>?_;obtain⟨y,C,d,g,e⟩:=z;exact J v u L x y C d W g e
theorem bf{z:Operator}{r:R2}(B:fh X (nf z) r)(t:PE X a ta)(J:PE X b tb):PE X (.BinOp a z b pos) (uf r ta tb):=by intro d s g H Q I h;exact wpAny_BinOp<|gd t J I h λv u f x y e M O R q=>B d f g e x y v u Q M O R q
theorem fA(z:uT X (unaryOp op) r)(t:PE X a ta):PE X (.UnaryOp op a pos) (Bm r ta):=by intro b s d H Q I h;exact UnaryOp_<|d3 (t b s d H _ I h) λv f ⟨x,e,B,J,M⟩=>z b f d e x v Q B J M
theorem uG{f:di->di->Sem di}{C:Int->Int->Prop}{g:Int->Int->Int}
 (rule : ∀(i j:Int) (t u:Tok) (s:d0) (Q:GQ) (E:GQ),C i j->Q (.int (g i j) s.toks) {s with toks:=s.toks+1}->wpAny (d4 X.prog X.w) X.A (f (.int i t)<|.int j u) Q E s) :
 fh X f (rI C λi j=> .int (g i j)):=by
 intro a s d H x y v u Q I z B h;obtain⟨i,j,rfl,rfl,J,q⟩:=h;obtain⟨t,rfl⟩:=z;obtain⟨b,rfl⟩:=B;exact rule i j t b s _ _ J ⟨.int<|g i j,H,I.tok _,⟨_,rfl⟩,q⟩
theorem gZ{f:di->di->Sem di}{g:Int->Int->Int}
 (rule : ∀(i j:Int) (t u:Tok) (s:d0) (Q:GQ) (E:GQ),Q (.int (g i j) s.toks) {s with toks:=s.toks+1}->wpAny (d4 X.prog X.w) X.A (f (.int i t)<|.int j u) Q E s) :
 fh X f (lp λi j=> .int (g i j)):=by
 intro a s d H x y v u Q I z B h;obtain⟨i,j,rfl,rfl,q⟩:=h;obtain⟨t,rfl⟩:=z;obtain⟨b,rfl⟩:=B;exact rule i j t b s _ _ ⟨.int<|g i j,H,I.tok _,⟨_,rfl⟩,q⟩
theorem cW{f:di->di->Sem di}{g:Int->Int->Bool}
 (rule : ∀(i j:Int) (t u:Tok) (s:d0) (Q:GQ) (E:GQ),Q (.bool<|g i j) s->wpAny (d4 X.prog X.w) X.A (f (.int i t)<|.int j u) Q E s) :
 fh X f (lp λi j=> .bl (g i j)):=by
 intro a s d H x y v u Q I z B h;obtain⟨i,j,rfl,rfl,q⟩:=h;obtain⟨t,rfl⟩:=z;obtain⟨b,rfl⟩:=B;exact rule i j t b s _ _ ⟨.bl<|g i j,H,I,rfl,q⟩
def iP(i j:Int):Prop:=0<j/\j<1073741824
def iO(i j:Int):Prop:=0<=j/\j<=1000000/\i.natAbs<2 ^ 64
noncomputable def ts(i j:Int):Prop:=(-(2 ^ 64)<i/\i<2 ^ 64)\/(-(2 ^ 64)<j/\j<2 ^ 64)
theorem ts.ok(h:ts i j):IntMulOk i j:=by
 rcases h with⟨a,b⟩ | ⟨a,b⟩
 ·exact .of_left<|intBits_le_64 a b
 ·exact .of_right<|intBits_le_64 a b
theorem Bc:fh X (nf .Add) (lp λi j=> .int (i+j)):=gZ λ_ _ _ _ _ _ _ q=>add_int q
theorem bx:fh X (nf .Sub) (lp λi j=> .int (i - j)):=gZ λ_ _ _ _ _ _ _ q=>sub_int q
theorem Bd:fh X (nf .Mult) (rI ts λi j=> .int (i*j)):=uG λ_ _ _ _ _ _ _ z q=>mul_int q z.ok
theorem Wx:fh X (nf .FloorDiv) (rI iP λi j=> .int (i/j)):=uG λi j _ _ _ _ _ z q=>by have a:(0:Int)<j:=z.1;have b:j<1073741824:=z.2;exact floordiv_int ⋯ (by rw[Int.fdiv_eq_ediv_of_nonneg i ⋯];exact q)<|.inl<|PyProof.noPylong_small ⋯
theorem bB:fh X (nf .Mod) (rI (λ_ j=>0<j) λi j=> .int (i%j)):=uG λi j _ _ _ _ _ z q=>by have a:(0:Int)<j:=z;exact mod_int' ⋯ (by rw[Int.fmod_eq_emod_of_nonneg i ⋯];exact q)
theorem bz:fh X (nf .Pow) (rI iO λi j=> .int (i ^ j.toNat)):=uG λ_ _ _ _ _ _ _ z q=>pow_int_small z.1 z.2.1 z.2.2 q
theorem Bn{f:di->Sem di}{g:Int->Int}
 (rule : ∀(i:Int) (t:Tok) (s:d0) (Q:GQ) (E:GQ),Q (.int (g i) s.toks) {s with toks:=s.toks+1}->wpAny (d4 X.prog X.w) X.A (f<|.int i t) Q E s) :
 uT X f (rU λi=> .int (g i)):=by
 intro a s b H x v Q I z h;obtain⟨i,rfl,q⟩:=h;obtain⟨t,rfl⟩:=z;exact rule i t s _ _ ⟨.int<|g i,H,I.tok _,⟨_,rfl⟩,q⟩
theorem W6:uT X (unaryOp .USub) (rU λi=> .int (-i)):=Bn λ_ _ _ _ _ q=>neg_int q
end
section
variable{X:Cx}{a b c:dV}{ta tb tc:TE}{pos:d9}
theorem cb(I:Inv X pins σ H s)(q:Q (.bl k) H)(e:k=k'):EP X pins σ Q (.bool k') s:=by subst e;exact⟨.bl k,H,I,rfl,q⟩
theorem fD:fh X (ij .Lt) (lp λi j=> .bl (decide<|i<j)):=cW λ_ _ _ _ _ _ _ q=>lt_int q
theorem X9:fh X (ij .LtE) (lp λi j=> .bl (decide<|i<=j)):=cW λ_ _ _ _ _ _ _ q=>le_int q
theorem bC:fh X (ij .Gt) (lp λi j=> .bl (decide<|j<i)):=cW λ_ _ _ _ _ _ _ q=>gt_int q
theorem fE:fh X (ij .GtE) (lp λi j=> .bl (decide<|j<=i)):=cW λ_ _ _ _ _ _ _ q=>ge_int q
theorem Ka:fh X (ij .In) (λx y H Q=>∃i j,x = .str i/\y = .str j/\Q (.bl<|!(nF j i 0 j.length 1).isEmpty) H):=by intro a s d H x y v u Q I z B h;obtain⟨i,j,rfl,rfl,q⟩:=h;obtain⟨t,rfl⟩:=z;obtain⟨b,rfl⟩:=B;exact in_str<|cb I q rfl
theorem fh.or(h:fh X f r)(h':fh X f r'):fh X f (λx y H Q=>r x y H Q\/r' x y H Q):=by
 intro a s b H x y v u Q I z B q;rcases q with q | q
 ·exact h a s b H x y v u Q I z B q
 ·exact h' a s b H x y v u Q I z B q
theorem kW(b:dV)(h:op ≠ .In:=by decide)(t:op ≠ .NotIn:=by decide):pa op b=cq:=by
 have a:(op==CmpOp.In)=cq:=by cases op<;>first | rfl | exact absurd rfl h
 have d:(op==CmpOp.NotIn)=cq:=by cases op<;>first | rfl | exact absurd rfl t
 cases b<;>simp[pa,a,d]
theorem vP{z:CmpOp}{r:R2}(B:fh X (ij z) r)(t:PE X a ta)(J:PE X b tb)(C:pa z b=cq):PE X (.Compare a [z] [b] pos) (uf r ta tb):=by intro d s g H Q I h;exact wpAny_Compare1 (gd t J I h λv u f x y e M O R q=>B d f g e x y v u Q M O R q) C
def aa(t:TE):TT:=λb H Q=>t b H λx a=>∃k,x = .bl k/\Q k a
theorem XS(B:fh X (ij op) r)(t:PE X a ta)(J:PE X b tb)(C:pa op b=cq):PT X (.Compare a [op] [b] pos) (aa<|uf r ta tb):=by
 intro d s f H Q I h;refine wpAny_isTrue_Compare1 (d3 (t d s f H _ I h) λv o ⟨x,g,M,O,R⟩=>d3 (J d o f g _ M R) λu p ⟨y,i,U,W,Y⟩=>
  d3 (B d p f i x y v u _ U O W Y) λc w ⟨z,j,l,n,k,e,m⟩=>?_) C
 subst e;cases n;exact oj ⟨j,l,m⟩
noncomputable def Vb(r I:R2)(ta tb tc:TE):TE:=λa H Q=>ta a H λx b=>tb a b λy d=>r x y d λz B=>∃k,z = .bl k/\
 (if k=b9 then tc a B λe J=>I y e J Q else Q (.bl cq) B)
theorem YD(R:fh X (ij op) r)(U:fh X (ij uc) r')(t:PE X a ta)(W:PE X b tb)(Y:PE X c tc)
 (C:u6 [op,uc] [b,c]=cq:=by with_unfolding_all rfl):PE X (.Compare a [op,uc] [b,c] pos) (Vb r r' ta tb tc):=by
 intro f s g H Q I h;refine Compare_chain (d3 (t f s g H _ I h) λv K ⟨x,i,m,E,p⟩=>chain_link (d3 (W f K g i _ m p) λu L ⟨y,j,n,B,w⟩=>
  d3 (R f L g j x y v u _ n E B w) λd N ⟨z,J,M,F,k,e,O⟩=>?_)) C
 subst e;cases F;refine oj ?_;cases k with
 | false=>exact ite_ff ⟨.bl cq,J,M,rfl,O⟩
 | true=>exact ite_tt<|chain_last<|d3 (Y f N g J _ M O) λS P ⟨T,l,o,G,A⟩=>U f P g l y T u S Q o B G A
theorem Ys{B J:CmpOp}{r M:R2}(Y:fh X (ij B) r)(a0:fh X (ij J) M)(C:PE X a ta)(G:PE X b tb)(L:PE X c tc)
 (S:u6 [B,J] [b,c]=cq:=by with_unfolding_all rfl):PT X (.Compare a [B,J] [b,c] pos) (aa<|Vb r M ta tb tc):=by
 intro f s g H Q I h;refine isTrue_chain (d3 (C f s g H _ I h) λv s1 ⟨x,i,n,T,F⟩=>test_link (d3 (G f s1 g i _ n F) λu s2 ⟨y,j,o,O,K⟩=>
  d3 (Y f s2 g j x y v u _ o T O K) λd s3 ⟨z,R,U,Z,k,e,W⟩=>?_)) S
 subst e;cases Z;refine oj ?_;cases k with
 | false=>
  obtain⟨k',w,E⟩:=W;cases w;exact ite_ff ⟨R,U,E⟩
 | true=>
  refine ite_tt<|test_last<|d3 (L f s3 g R _ U W) λw' s4 ⟨z',l,p,r4,N⟩=>d3 (a0 f s4 g l y z' u w' _ p O r4 N) λd' s5 ⟨z2,m,t,r5,k2,A,P⟩=>?_;subst A;cases r5;exact oj ⟨m,t,P⟩
theorem vz:(ej:Nat)<2 ^ 63:=by rw[sizeLine_eq];decide
theorem QW:fh X (nf .Add) (λx y H Q=>∃i j,x = .str i/\y = .str j/\i.length+j.length<=ej/\Q (.str<|i++j) H):=by intro a s d H x y v u Q I z B h;obtain⟨i,j,rfl,rfl,J,q⟩:=h;obtain⟨t,rfl⟩:=z;obtain⟨b,rfl⟩:=B;exact add_str (λb M=>⟨.str<|i++j,H,I.tok _,⟨_,rfl⟩,q⟩) J
theorem kr(r:d5 [x] us) : ∃u,us=[u]/\RelV x u:=by
 cases r with
 | cons z B=>cases B;exact⟨_,rfl,z⟩
theorem ez(r:d5 [x,y] us) : ∃u t,us=[u,t]/\RelV x u/\RelV y t:=by
 cases r with
 | cons z B=>
  cases B with
  | cons I J=>cases J;exact⟨_,_,rfl,z,I⟩
theorem KJ:vf X (.type "int") (λxs H Q=>(∃i,xs=[.int i]/\Q (.int i) H)\/∃k,xs=[.bl k]/\Q (.int (if k then 1 else 0)) H):=by
 intro a s d H xs b Q I r h;rcases h with⟨i,rfl,q⟩ | ⟨k,rfl,q⟩
 ·obtain⟨u,rfl,t,rfl⟩:=kr r
  exact call_int_int ⟨.int i,H,I,⟨_,rfl⟩,q⟩
 ·obtain⟨u,rfl,z⟩:=kr r
  cases z;exact call_int_bool ⟨.int<|if k then 1 else 0,H,I.tok _,⟨_,rfl⟩,q⟩
theorem Zs:vf X (.type "str") (λxs H Q=>∃i,xs=[.int i]/\i.natAbs.log2<1920/\Q (.str (toString i)) H):=by intro a s d H xs b Q I r h;obtain⟨i,rfl,z,q⟩:=h;obtain⟨u,rfl,t,rfl⟩:=kr r;exact PySem.P.str_of_int z ⟨.str _,H,I.tok _,⟨_,rfl⟩,q⟩
end
structure uR(h:d6)(x dx C:c8)(mA:GJ):Prop where
 obj:h.get? x=b8 (PySem.W.instObj C dx)
 ns:h.Ns1 dx mA
 ne:dx≠x
theorem Kh{h:d6}{C:c8}{G:GJ}(n:h.Ns1 C G) : ∃H,h.get? C=b8 H/\∀name,PySem.W.lookIn name H=b8 (G name):=by
 obtain⟨o,b,R,B,d,I,_,f⟩:=n;refine⟨o,B,λname=>?_⟩;have e:=f name;unfold nsFind findBy at e;rw[<- Array.find?_toList]at e;unfold PySem.W.lookIn;rw[d];dsimp only;split
 ·rename_i y q
  rw[q]at e;exact congrArg b8 e
 ·rename_i q
  rw[q]at e;have a:b.toList.any (·.refKey)=cq:=by rw[List.any_eq_false];intro y J;obtain⟨z,t,M⟩:=I y<|Array.mem_toList_iff.mp J;simp[DictEntry.refKey,M]
  have O : ¬b.toList.any (·.refKey)=b9:=by rw[a];exact mW
  rw[MQ O];exact congrArg b8 e
theorem uR.look(I:uR h x dx C mA) : ∃t,PySem.W.InstAt h x (PySem.W.instObj C dx) C (b8 t)/\∀name,PySem.W.lookIn name t=b8 (mA name):=
 let ⟨t,z,B⟩:=Kh I.ns
 ⟨t,⟨I.obj,rfl,rfl,z⟩,B⟩
theorem o8.some_of(r:o8 (b8 v) o) : ∃u,o=b8 u/\RelV v u:=by
 cases o with
 | none=>exact(show False from r).elim
 | some u=>exact⟨u,rfl,r⟩
section
variable{P:fy}{w:eW}{H H':Hp}{h h':d6}{a C dx:c8}{fs A5:List (Str×V)}
theorem WD(t:f9 P w H h)(e:H a=b8 (.ins C dx fs)) : ∃mA,uR h a dx C mA/\(∀f,o8 (fs.lookup f)<|mA f)/\PySem.Within mA (fs.map (·.1))/\fs.length<=1000/\H dx=b8 (.own a):=by obtain⟨d,z,b,B,mA,n,r,q⟩:=(show gq P w H h a (.ins C dx fs)from t a _ e);exact⟨mA,⟨B,n,b⟩,r,q,z,d⟩
end
structure uP(K:mD)(C:c8):Prop where
 pg:PySem.W.plainGet K C pq=b9
 hd:PySem.W.hasDictIn K C=b9
 po:PySem.W.plainOver K C=b9
 sa:pQ K (.ref C) "__setattr__" = b8 (b8 (.builtin "object.__setattr__"))
theorem uP.get{K:mD}{C:c8}(c:uP K C)(f:Str):PySem.W.plainGet K C f=b9:=c.pg
section
variable{X:Cx}{pins:GW}{σ:St}{H:Hp}{s:d0}{A:i4}{E:GQ}{Q:GQ}{c:di}{b:Bool}
inductive mu(K:mD)(H:Hp):V->di->Prop where
 | ea:mu K H .ea (.type "NoneType")
 | bl (x:Bool):mu K H (.bl x) (.type "bool")
 | int (i:Int):mu K H (.int i) (.type "int")
 | str (x:Str):mu K H (.str x) (.type "str")
 | tH (x:UInt64):mu K H (.tH x) (.type "float")
 | lst {a:c8} {xs:List V} (e:H a=b8 (.lst xs)):mu K H (.ref a) (.type "list")
 | l5 {a:c8} {o:h9} {xs:List V} (e:H a=b8 (.l5 o (.lst xs))):mu K H (.ref a) (.type "list")
 | tup {a:c8} {xs:List V} (e:H a=b8 (.tup xs)):mu K H (.ref a) (.type "tuple")
 | dK {a:c8} {g9:List (Key×V)} (e:H a=b8 (.dK g9)):mu K H (.ref a) (.type "dict")
 | dT {a:c8} {g9:List (List Key×V)} (e:H a=b8 (.dT g9)):mu K H (.ref a) (.type "dict")
 | ins {a C dx:c8} {fs:List (Str×V)} (e:H a=b8 (.ins C dx fs)) (cl:uP K C) (ha:pQ K (.ref C) "__class__" = b8 (b8 (.builtin "object.__class__")))
  (hn:PySem.W.specialIn K (.builtin "object.__class__") "__get__" = b8 (b8 (.builtin "getset_descriptor.__get__"))) (Bu:PySem.W.takesIn K (.builtin "object.__class__")=b8 b9)
  (hm:PySem.W.mroIn K C (.type "object")=b8 b9):mu K H (.ref a) (.ref C)
theorem Ko(I:Inv X pins σ H s)(B:RelV x u)(ty:mu X.K H x t)(e:oq X.K t c=b8 b)(h : ∀R,Q (.bool b) {s with toks:=R}) :
 wpAny (d4 X.prog X.w) A (call (.builtin "isinstance") [u,c]) Q E s:=by
 cases ty with
 | ea=>cases (show u=oV from B);exact nh rY I.f6 nQ e (λz=>nomatch z) h
 | bl y=>cases (show u=sk y from B);exact nh rZ I.f6 nQ e (λz=>nomatch z) h
 | int i=>obtain⟨t,q⟩:=(show ∃t,u=rW i t from B);cases q;exact nh sr I.f6 nQ e (λz=>nomatch z) h
 | str y=>obtain⟨t,q⟩:=(show ∃t,u=rE y t from B);cases q;exact nh so I.f6 nQ e (λz=>nomatch z) h
 | tH y=>obtain⟨t,q⟩:=(show ∃t,u=Value.float y t from B);cases q;exact nh PySem.W.kitx_float I.f6 nQ e (λz=>nomatch z) h
 | @lst a g M=>
  cases (show u=nJ a from B);obtain⟨_,_,n,_,d⟩:=(show gq X.prog X.w H s.heap a (.lst g)from I.d7 a _ M);exact nh pT I.f6 ⟨_,d,rfl⟩ e (λz=>nomatch z) h
 | @l5 a U g M=>
  cases (show u=nJ a from B);obtain⟨_,_,_,n,_,d⟩:=(show gq X.prog X.w H s.heap a (.l5 U<|.lst g)from I.d7 a _ M);exact nh pT I.f6 ⟨_,d,rfl⟩ e (λz=>nomatch z) h
 | @tup a g M=>
  cases (show u=nJ a from B);obtain⟨_,_,_,p⟩:=(show gq X.prog X.w H s.heap a (.tup g)from I.d7 a _ M);obtain⟨o,d,j,_⟩:=p;exact nh rN I.f6 ⟨o,d,(Prod.mk.inj j).1⟩ e (λz=>nomatch z) h
 | @dK a f M=>
  cases (show u=nJ a from B);obtain⟨_,_,T,_,p⟩:=(show gq X.prog X.w H s.heap a (.dK f)from I.d7 a _ M);obtain⟨o,r,Y,d,j,_⟩:=p;exact nh pv I.f6 ⟨o,d,j.1⟩ e (λz=>nomatch z) h
 | @dT a f M=>
  cases (show u=nJ a from B);obtain⟨_,_,g,_,o,r,Y,d,j,_⟩:=(show gq X.prog X.w H s.heap a (.dT f)from I.d7 a _ M);exact nh pv I.f6 ⟨o,d,j.1⟩ e (λz=>nomatch z) h
 | @ins a C N fs M m F L l G=>
  cases (show u=nJ a from B);obtain⟨P,O,_⟩:=WD I.d7 M;obtain⟨S,J,_⟩:=O.look;exact nh (PySem.W.kitx_own (m.get _) m.hd F L l G) I.f6 J e (λz=>nomatch z) h
end
structure i2(k:Nat)(A:i4):Prop where
 hd:A.handled=cp
 dp:A.depth+3*k+5<recursionLimit
 un:A.units+16*k+200<t2
theorem i2.mono(r:i2 k A)(h:j<=k):i2 j A:=⟨r.hd,by have:=r.dp;omega,by have:=r.un;omega⟩
theorem i2.deeper(r:i2 (k+1) A)(env:h8):i2 k (A.deeper env):=
 ⟨r.hd,by have:=r.dp;show A.depth+1+3*k+5<_;omega,by have:=r.un;show A.units+3+16*k+200<_;omega⟩
theorem i2.depth(r:i2 k A):A.depth<recursionLimit:=by have:=r.dp;omega
def gM:TA:=λ_ H Q=>Q [] H
noncomputable def ae(t:TE)(z:TA):TA:=λa H Q=>t a H λx b=>z a b λe d=>Q (x::e) d
section
variable{X:Cx}{e:dV}{es:List dV}{te:TE}{t:TA}{pos:d9}
theorem j0:PA X [] gM:=λ_ _ _ _ H Q I h=>rj ⟨[],H,I,.nil,h⟩
theorem jl(C:PE X e te)(z:PA X es t)(B:eg (e::es) X.env=(cq,d1 e X.env)::eg es X.env:=by rfl):PA X (e::es) (ae te t):=by intro pos a s b H Q I h;rw[B];show wpAny _ _ (tj ((cq,d1 e X.env)::i5 pos (eg es X.env))) _ _ s;refine ou<|d3 (C a s b H _ I h) λu g J=>?_;obtain⟨x,d,M,O,R⟩:=J;exact d3 (z pos a g b d _ M R) λl j ⟨i,f,U,W,Y⟩=>⟨x::i,f,U,.cons O W,Y⟩
noncomputable def iT(t:TA):TE:=λd H Q=>t d H λb a=>b.length<=ej/\∀p,a p=cp->Q (.ref p) (upd a p<|.tup b)
noncomputable def iY(t:TA):TE:=λd H Q=>t d H λb a=>b.length<=ej/\∀p,a p=cp->Q (.ref p) (upd a p<|.lst b)
theorem bc(h:PA X es t):PE X (.Tuple es x1 pos) (iT t):=by intro a s j H Q I J;refine wpAny_Tuple_spliced<|d3 (h pos a s j H _ I J) λg d ⟨i,f,B,r,z,q⟩=>⟨by rw[<- r.length];exact z,?_⟩;have M:f d.heap.objs.size=cp:=B.d7.fresh<|mN _;refine⟨.ref d.heap.objs.size,upd f d.heap.objs.size<|.tup i,B.laid (t':=d.toks) (λb u e=>mF _ e) (mN _) ?_,rfl,q _ M⟩;exact⟨z,g,r,⟨_,mX _ rfl,rfl,_,rfl⟩⟩
theorem bo(h:PA X es t):PE X (.List es pos) (iY t):=by intro a s j H Q I J;refine wpAny_List_spliced<|d3 (h pos a s j H _ I J) λg d ⟨i,f,B,r,z,q⟩=>⟨by rw[<- r.length];exact z,?_⟩;have M:f d.heap.objs.size=cp:=B.d7.fresh<|mN _;refine⟨.ref d.heap.objs.size,upd f d.heap.objs.size<|.lst i,B.laid (t':=d.toks) (λb u e=>mF _ e) (mN _) ?_,rfl,q _ M⟩;exact⟨z,g,0,r,mX _ rfl⟩
end
abbrev Sp:=List V->Hp->VK->XK->Prop
abbrev m6:=List h8->Hp->d0->XK->di->d0->Prop
structure uk(P:fy)(w:eW)(K:mD)(mg:GJ)(base:d6)(A:i4)(outer:List h8)(s:d0)(H:Hp):Prop where
 frames:A.frames=b8 outer
 mod:Mod K mg base
 bs : ∀b o,base.get? b=b8 o->s.heap.get? b=b8 o/\H b=cp
 ri:base.objs.size<=s.heap.objs.size
 n0:s.heap.FunFrames base outer
 tI : ∀b∈ni outer,H b=cp
 d7:f9 P w H s.heap
 bare:qs s.gens
noncomputable def CE(outer:List h8)(P:fy)(w:eW)(H:Hp)(s:d0)(Q:VK)(u:di)(t:d0):Prop:=
 ∃v a,t.os=s.os/\qs t.gens/\Un (ni outer) [] H a s.heap t.heap/\f9 P w a t.heap/\RelV v u/\Q v a
noncomputable def CR(CX:m6)(outer:List h8)(P:fy)(w:eW)(H:Hp)(s:d0)(Q:VK)(E:XK)(r:Result)(t:d0):Prop:=
 match r with
 | .ok (.ret u)=>CE outer P w H s Q u t
 | .ok _=>False
 | .error e=>CX outer H s E e t
structure l7(P:fy)(w:eW)(K:mD)(mg:GJ)(base:d6)(CX:m6)(k:Nat)(f:c8)(fd:l8)(ps:List Str)(sp:Sp):Prop where
 len : ∀vs H Q E,sp vs H Q E->vs.length=ps.length
 run : ∀(A:i4) (outer:List h8) (s:d0) (H:Hp) (args:Args) (us:List di) (vs:List V) (Q:VK) (E:XK),i2 k A->uk P w K mg base A outer s H->uj s fd args (ps.zip us)->d5 vs us->sp vs H Q E->
  codeAny (d4 P w) A (.call (.ref f) args) (CR CX outer P w H s Q E) s
section
variable{X:Cx}{pins:GW}{σ:St}{H:Hp}{s s':d0}
theorem Inv.AZ(I:Inv X pins σ H s):uk X.prog X.w X.K X.mg X.base X.A X.stack s H:=
 ⟨I.ok.frames,I.ok.mod,I.bs,nc I.ok.ri I.sz,I.stack,I.AB,I.d7,I.bare⟩
theorem Inv.after(I:Inv X pins σ H s)(h:CE X.stack X.prog X.w H s Q u s'):EP X pins σ Q u s':=by obtain⟨v,f,os,a,un,e,r,q⟩:=h;obtain⟨B,g,d,t,J⟩:=s';obtain rfl:J=s.os:=os;exact⟨v,f,I.call (h':=B) (g':=g) (d':=d) (t':=t) (ch:=[]) un e a<|λb z=>absurd z ⋯,r,q⟩
end
noncomputable def V1(sp:Sp)(z:List V)(E:XK)(t:TA):TE:=λd H Q=>t d H λb a=>sp (b++z) a Q E
noncomputable def Binds(K:mD)(C:l8)(z:List Str)(t:List di):Prop:=
 ∀(s:d0) (a:List di),K.In s.heap->(a++t).length=z.length->uj s C ⟨a,[]⟩ (z.zip<|a++t)
theorem Binds.all{K:mD}{G:l8}{C:List Str}(h : ∀t:List di,t.length=C.length->bindArgs G ⟨t,[]⟩=pure (C.zip t)):Binds K G C []:=λs t _ z=>by rw[List.append_nil]at z ⊢;exact .of_eq<|h t z
noncomputable def KY(CX:m6)(X:Cx)(E:XK):Prop:=∀(a:GW) (d:St) (H:Hp) (s:d0) (e:di) (b:d0),Inv X a d H s->CX X.stack H s E e b->X.xe e b
section
variable{X:Cx}{CX:m6}{k:Nat}{f C:c8}{fd:l8}{ps:List Str}{sp:Sp}{tF:List V}{ds:List di}{E:XK}{x m:Str}{p pos apos:d9}{e o:dV}{es:List dV}{ta:TE}{t:TA}
theorem aB(F:l7 X.prog X.w X.K X.mg X.base CX k f fd ps sp)(J:i2 k X.A)(M:Binds X.K fd ps ds)(G:d5 tF ds)(O:KY CX X E)
 (I:Inv X pins σ H s) (r:d5 vs us) (h:sp (vs++tF) H Q E):wpAny (d4 X.prog X.w) X.A (call (.ref f) us) (EP X pins σ Q) X.xe s:=by
 have B:d5 (vs++tF) (us++ds):=r.append G;have R:(us++ds).length=ps.length:=by rw[<- B.length];exact F.len _ _ _ _ h
 refine wpAny_call<|sP (F.run X.A X.stack s H ⟨us,[]⟩ (us++ds) (vs++tF) Q E J I.AZ (M s us I.f6 R) B h) λr a z=>?_;cases r with
 | error e=>exact O pins σ H s e a I z
 | ok U=>
  cases U with
  | ret u=>exact I.after z
  | next=>exact oX z
  | brk=>exact oX z
  | cont=>exact oX z
theorem X8(F:l7 X.prog X.w X.K X.mg X.base CX k f fd ps sp)(B:i2 k X.A)(J:Gl X x)(S:X.mg x=b8 (.ref f))(M:pP X.K (.ref f)=b9)(O:Binds X.K fd ps ds)(L:d5 tF ds)(R:KY CX X E)
 (G:PA X (e::es) t) (U:(x==("__debug__" : Str))=cq:=by decide) (Y:eg (e::es) X.env=(cq,d1 e X.env)::eg es X.env:=by rfl) (a0:(i5 pos (eg es X.env)).any (·.1)=cq:=by rfl) :
 PE X (.Call (.Name x p) (e::es) [] pos) (V1 sp tF E t):=by
 intro a s b H Q I h;refine pE<|Kj I J S ?_ U;refine PySem.W.callWith_K (h₀:=X.base) I.ok.mod.u5 M (d3 (G pos a s b H _ I h) λi g ⟨j,d,z,r,q⟩=>⟨z.f6,?_⟩) Y a0;exact aB F B O L R z r q
end
structure tU(N P:List Str)(sc:ep):Prop where
 kind:sc.kind = .function
 co:sc.isCoroutine=cq
 gen:sc.isGenerator=cq
 nd:N.Nodup
 pre:N.take P.length=P
 par : ∀x∈P,sc.names.lookup x=b8 .local\/sc.names.lookup x=b8 .cell
 Ba : ∀y∈sc.names,y.2 ≠ .free
theorem Zv{kindOf:Str->Option m8}{x:Str} : ∀{z:List (Str×di)} {m:GJ},(∀v,(x,v)∉z)->sU kindOf z m x=m x
 | [],_,_=>rfl
 | (n,v)::r,m,h=>by
  unfold sU;rw[Zv λw a=>h w (mQ _ a)];split
  ·have:x≠n:=by rintro rfl;exact h v mM
   simp[this]
  ·rfl
theorem Zx{kindOf:Str->Option m8}{x:Str} : ∀{z:List (Str×di)} {m:GJ},(∀v,(x,v)∉z)->sT kindOf z m x=m x
 | [],_,_=>rfl
 | (n,v)::r,m,h=>by
  unfold sT;rw[Zx λw a=>h w (mQ _ a)];split
  ·rfl
  ·have:x≠n:=by rintro rfl;exact h v mM
   simp[this]
theorem Zw{kindOf:Str->Option m8}{x:Str}{v:di} : ∀{P:List Str} {t:List di} {i:Nat} {m:GJ},P.Nodup->P[i]? = b8 x->t[i]? = b8 v->kindOf x=b8 .local->
 sU kindOf (P.zip t) m x=b8 v
 | [],_,_,_,_,h,_,_=>by simp at h
 | _::_,[],_,_,_,_,h,_=>by simp at h
 | p::P,w::t,0,m,nd,h1,h2,hk=>by simp at h1 h2;subst h1;subst h2;show sU kindOf ((p,w)::P.zip t) m p=_;unfold sU;rw[Zv λv z=>(pO.mp nd).1 (List.of_mem_zip z).1,GY hk];simp
 | p::P,w::t,i+1,m,nd,h1,h2,hk=>by show sU kindOf ((p,w)::P.zip t) m x=_;unfold sU;exact Zw (i:=i) (pO.mp nd).2 (by simpa using h1) (by simpa using h2) hk
theorem Zy{kindOf:Str->Option m8}{x:Str}{v:di} : ∀{P:List Str} {t:List di} {i:Nat} {m:GJ},P.Nodup->P[i]? = b8 x->t[i]? = b8 v->kindOf x≠b8 .local->
 sT kindOf (P.zip t) m x=b8 v
 | [],_,_,_,_,h,_,_=>by simp at h
 | _::_,[],_,_,_,_,h,_=>by simp at h
 | p::P,w::t,0,m,nd,h1,h2,hk=>by simp at h1 h2;subst h1;subst h2;show sT kindOf ((p,w)::P.zip t) m p=_;unfold sT;rw[Zx λv z=>(pO.mp nd).1 (List.of_mem_zip z).1,MQ hk];simp
 | p::P,w::t,i+1,m,nd,h1,h2,hk=>by show sT kindOf ((p,w)::P.zip t) m x=_;unfold sT;exact Zy (i:=i) (pO.mp nd).2 (by simpa using h1) (by simpa using h2) hk
noncomputable def vI(N:List Str)(t:List V):St:=t.map b8++mI (N.length - t.length) cp
noncomputable def WJ(CX:m6)(P:fy)(w:eW)(K:mD)(mg:GJ)(base:d6)(N:List Str)(qual:Str)(scope:ep)(f:c8)(z:di)(A:i4)(outer:List h8)(s:d0)(H:Hp)(E:XK):Cx where
 prog:=P
 w:=w
 K:=K
 mg:=mg
 base:=base
 A:=A.deeper<|envOfC qual scope s.heap.objs.size f z
 N:=N
 hL:=s
 tW:=H
 env:=uz qual scope s.heap.objs.size f z
 outer:=outer
 stack:=uz qual scope s.heap.objs.size f z::outer
 ex:=[]
 calm:=b9
 fn:=λ_=>b9
 pn:=[]
 xe:=λe s'=>wpAny (d4 P w) (A.deeper<|envOfC qual scope s.heap.objs.size f z) (leaving (uz qual scope s.heap.objs.size f z) e) (λ_ B=>CX outer H s E e B) (λI B=>CX outer H s E I B) s'
theorem J5{t:ep}{n:Nat}{x:Str}(h:t.names.lookup x=b8 .cell) : ∃c,(l4 n t.names []).lookup x=b8 c:=by have q:=pf t.names n [] (.inl h);exact pW.mp q
theorem Kp{CX:m6}{P:fy}{w:eW}{K:mD}{G:GJ}{base:d6}{N t:List Str}{qual:Str}{scope:ep}{f:c8}{M:di}{A:i4}{outer:List h8}{s Z:d0}{H:Hp}{E:XK}{L:List di}{C:List V}
 (S:tU N t scope) (hd:A.handled=cp) (B:uk P w K G base A outer s H) (hl:C.length=t.length) (r:d5 C L)
 (x:InCallC s s.heap.objs.size (sU (uz qual scope s.heap.objs.size f M).kindOf (t.zip L) λ_=>cp) (l4 (s.heap.objs.size+1) scope.names []) (sT (uz qual scope s.heap.objs.size f M).kindOf (t.zip L) λ_=>cp) Z) :
 Inv (WJ CX P w K G base N qual scope f M A outer s H E) [] (vI N C) H Z:=by
 have m:t.length<=N.length:=by have:=congrArg List.length S.pre;rw[rC]at this;omega
 obtain⟨g,F,rfl,R⟩:=x.done;have O : ∀b:c8,b∉(WJ CX P w K G base N qual scope f M A outer s H E).ex:=λb z=>absurd (show b∈([]:List c8)from z) ⋯;refine⟨⟨B.mod,S.kind,rfl,rfl,mN _,λy z c g d=>?_,λy I=>?_,λy c _ h=>?_,λ_=>hd,Around.frames_deeper B.frames,.inr ⟨rfl,rfl⟩,λb z=>absurd z<|O b,B.bs,B.ri,λb _ _=>O b,λb z=>absurd z<|O b,B.n0,B.tI⟩,
  rfl,B.bare,Un.kept R,⟨_,x.toInCall.ns,λi y v g d o=>?_⟩,λy c h=>⟨_,x.cell y c h⟩,B.d7.fresh<|mN _,λy c h=>?_,λp J=>absurd (show p∈([]:GW)from J) ⋯,B.d7.kept R,?_⟩
 ·exact name_of_addr x.apart (oT g)<|oT d
 ·have I:scope.names.lookup y=b8 .cell\/scope.names.lookup y=b8 .free:=I
  rcases I with I | I
  ·exact J5 I
  ·exact absurd rfl<|S.Ba _<|oT I
 ·exact sH<|x.above y c<|oT h
 ·have j:i<C.length:=by
   unfold vI at d;by_cases j:i<C.length
   ·exact j
   ·rw[nu (by simpa using j)]at d
    rw[ph]at d;split at d<;>cases d
  have l:C[i]? = b8 v:=by
   unfold vI at d;rw[nk (by simpa using j),ny]at d;cases e:C[i]? with
   | none=>rw[e]at d;cases d
   | some a=>rw[e]at d;cases d;rfl
  obtain⟨u,U,Y⟩:=r.get l;have J:t[i]? = b8 y:=by rw[<- S.pre,List.getElem?_take_of_lt ⋯];exact g
  have W:t.Nodup:=by rw[<- S.pre];exact S.nd.sublist<|List.take_sublist _ _
  refine⟨u,Y,?_⟩;rcases S.par y (rM J)with k | k
  ·exact .inl ⟨k,Zw W J U k⟩
  ·obtain⟨c,e⟩:=J5 (n:=s.heap.objs.size+1) k
   refine .inr ⟨.inl k,c,e,?_⟩;have q:=x.cell y c e;rw[Zy W J U (by show scope.names.lookup y≠_;rw[k];decide)]at q;exact q
 ·exact B.d7.fresh<|sH<|x.above y c<|oT h
 ·unfold vI
  show _=N.length;rw[nz,mZ,List.length_replicate];omega
theorem fP{CX:m6}{P:fy}{w:eW}{K:mD}{mg:GJ}{base:d6}{k:Nat}{f:c8}{name qual:Str}{R:Arguments}{G:List e7}{scope:ep}{U kV doc pm C ct oc:di}{an od:Option c8}
 {xt:Array (Option di)} {N ps:List Str} {sp:Sp} (lk:K.lookup f=b8 ⟨oc,od,.func<|pA name qual R G scope U kV doc pm an C ct,xt⟩) (a2:rF K C qual=b9) (S:tU N ps scope)
 (len : ∀L H Q E,sp L H Q E->L.length=ps.length)
 (a3 : ∀(A:i4) (outer:List h8) (s:d0) (H:Hp) (L:List V) (Q:VK) (E:XK),i2 k (A.deeper<|envOfC qual scope s.heap.objs.size f C)->sp L H Q E->
   ∃t,jn (WJ CX P w K mg base N qual scope f C A outer s H E) G t/\t {nx:=λ_ Z=>Q .ea Z,rt:=Q} (vI N L) H) :
 l7 P w K mg base CX (k+1) f (pA name qual R G scope U kV doc pm an C ct) ps sp:=by
 refine⟨len,λA outer s H i us L Q E M B hb r Y=>?_⟩;have T:=len _ _ _ _ Y;have g:K.In s.heap:=B.mod.u5.keeps λb o e=>(B.bs b o e).1;have lim:s.heap.NoLimit:=B.mod.nolimit.keeps λb o e=>(B.bs b o e).1;have l : ∀y∈ps.zip us,scope.names.lookup y.1=b8 .local\/(scope.names.lookup y.1=b8 .cell/\((l4 (s.heap.objs.size+1) scope.names []).lookup y.1).isSome=b9):=λ⟨n,v⟩ hy=>by
  rcases S.par n (List.of_mem_zip hy).1 with q | q
  ·exact .inl q
  ·exact .inr ⟨q,pf _ _ _<|.inl q⟩
 refine codeAny_call_function M.depth (g _ _ lk) rfl S.co S.gen rfl (PySem.W.codeRec_of g a2)<|hb _ _ _ _ ?_;refine wpAny_newFunctionEnv_cells S.kind l λm F j x=>?_;subst F;refine⟨lim.keeps x.toInCall.keep,codeAny_func ?_⟩;obtain⟨t,ht,X⟩:=a3 A outer s H L Q E (M.deeper _) Y;have I:Inv (WJ CX P w K mg base N qual scope f C A outer s H E) [] (vI N L) H j:=Kp S M.hd B T r x;refine oC (ht [] j (vI N L) H _ I X) (λp d z=>?_) λe d z=>z;have h : ∀{a:St} {Z:Hp} {v:V} {u:di},Inv (WJ CX P w K mg base N qual scope f C A outer s H E) [] a Z d->RelV v u->Q v Z->CE outer P w H s Q u d:=
  λ{a Z v u} J O q=>⟨v,Z,J.os,J.bare,J.base,J.d7,O,q⟩
 cases p with
 | ret u=>
  obtain⟨v,a,Z,J,O,q⟩:=z;exact h J O q
 | next=>
  obtain⟨a,Z,J,q⟩:=z;exact h (v:=V.ea) (u:=oV) J rfl q
 | brk=>
  obtain⟨_,_,_,q⟩:=z;exact oX q
 | cont=>
  obtain⟨_,_,_,q⟩:=z;exact oX q
section
variable{X:Cx}{x:Str}{p pos:d9}{e:dV}{es:List dV}{t:TA}{id T:String}{r:List V->Hp->VK->Prop}
noncomputable def AG(r:List V->Hp->VK->Prop)(t:TA):TE:=λd H Q=>t d H λb a=>r b a Q
theorem yi(z:vf X (.builtin id) r)(B:Gl X x)(G:X.mg x=cp)(J:sV x=b8 (.builtin id))(C:PA X (e::es) t)(L:x ≠ "__name__":=by decide)(M:(x==("__debug__" : Str))=cq:=by decide)
 (O:eg (e::es) X.env=(cq,d1 e X.env)::eg es X.env:=by rfl) (R:(i5 pos<|starEach es X.env).any (·.1)=cq:=by rfl):PE X (.Call (.Name x p) (e::es) [] pos) (AG r t):=by
 intro a s b H Q I h;refine pE<|xA I B G J ?_ L M;exact oZ (d3 (C pos a s b H _ I h) λg f ⟨i,d,U,W,Y⟩=>z a f b d i g Q U W Y) O R
theorem x9(z:vf X (.type T) r)(B:Gl X x)(G:X.mg x=cp)(J:sV x=b8 (.type T))(C:PA X (e::es) t)(L:x ≠ "__name__":=by decide)(M:(x==("__debug__" : Str))=cq:=by decide)
 (O:eg (e::es) X.env=(cq,d1 e X.env)::eg es X.env:=by rfl) (R:(i5 pos<|starEach es X.env).any (·.1)=cq:=by rfl):PE X (.Call (.Name x p) (e::es) [] pos) (AG r t):=by
 intro a s b H Q I h;refine pE<|xA I B G J ?_ L M;exact oB (d3 (C pos a s b H _ I h) λg f ⟨i,d,U,W,Y⟩=>z a f b d i g Q U W Y) O R
end
end L2
namespace HT
open PySem PyProof.Rows
section
variable{prog:fy}{w:eW}{A:i4}{E:GQ}{s:d0}
theorem gc(S:tX s.heap t vs.toArray)(L:tX s.heap b z.toArray)(J:vs ≠ [])
 (G:z=[]->Q (.ref t) s) (H:z ≠ []->Q (.ref s.heap.objs.size) {s with heap:=s.heap.push {cls:= .type "tuple",data:= .seq (vs++z).toArray}})
 (C:vs.length+z.length<=ej):wpAny (d4 prog w) A (nf .Add (.ref t)<|.ref b) Q E s:=by
 obtain⟨⟨cls,M,data,g⟩,B,O,n,f⟩:=id S;obtain⟨⟨h,R,data2,U⟩,I,W,Y,d⟩:=id L;simp only at O f W d;subst O f W d;have e:vs.toArray++z.toArray=(vs++z).toArray:=by simp
 by_cases a:z=[]
 ·exact concat_meets ⟨_,B,rfl⟩ ⟨_,I,rfl⟩ sQ Ay rn rh (pU _ _)
   (tuple_addW1 t b vs.toArray z.toArray n Y M R g U (by simpa using J)<|by simp[a]) ⟨B,I,G a⟩
 ·refine concat_meets ⟨_,B,rfl⟩ ⟨_,I,rfl⟩ sQ Ay rn rh (pU _ _)
   (tuple_addW2 t b vs.toArray z.toArray n Y M R g U (by simpa using J) (by simpa using a)<|by rw[mT,mT];exact C) ⟨B,I,?_⟩
  rw[e];exact H a
noncomputable def dk(n d:Nat):Option Int->Nat
 | none=>d
 | some v=>if v<0 then (v+(n:Int)).toNat else min v.toNat n
theorem av(n d:Nat)(t:d<=n)(o:Option Int):dk n d o<=n:=by
 cases o with
 | none=>exact t
 | some v=>
  show(if v<0 then (v+(n:Int)).toNat else min v.toNat n)<=n;by_cases z:v<0
  ·rw[GY z];omega
  ·rw[MQ z];exact Nat.min_le_right _ _
theorem KF(v:Int)(n d:Nat):(if v<0 then max (v+(n:Int)) 0 else min v (n:Int))=((dk n d (b8 v):Nat):Int):=by
 show(if v<0 then max (v+(n:Int)) 0 else min v (n:Int))=(((if v<0 then (v+(n:Int)).toNat else min v.toNat n):Nat):Int);by_cases z:v<0
 ·simp only[GY z];omega
 ·simp only[MQ z];omega
theorem Xi(lo hi:Option Int)(n:Nat):pF lo hi 1 (n:Int)=(((dk n 0 lo:Nat):Int),((dk n n hi:Nat):Int)):=by
 have a : ¬((1:Int)<0):=by omega
 unfold pF;simp only[a,if_false];refine Prod.ext ?_ ?_
 ·cases lo with
  | none=>rfl
  | some v=>exact KF v n 0
 ·cases hi with
  | none=>rfl
  | some v=>exact KF v n n
theorem QT(i j:Nat):oG (i:Int) (j:Int) 1=j - i:=by
 unfold oG;have a:(1:Int)>0:=by omega
 simp only[a,if_true,Int.ediv_one];split<;>omega
theorem vo(p:o5 v o)(h:Q o s):wpAny (d4 prog w) A (Builtin.Slice.slicePartIndex v) Q E s:=by
 cases p with
 | none=>exact slicePart_none h
 | int i t=>exact slicePart_int h
theorem k5{t:c8}{z B:di}{lo hi:Option Int}{n:Nat}{Q:Int×Int×Nat->d0->Prop}(M:s.heap.IsSliceOf t z B .none)(O:o5 z lo)(R:o5 B hi)
 (h:Q (((dk n 0 lo:Nat):Int),1,dk n n hi - dk n 0 lo) s):wpAny (d4 prog w) A (Builtin.Slice.sliceApplied (.ref t)<|pure (n:Int)) Q E s:=by
 obtain⟨os,I,U,J⟩:=id M;unfold Builtin.Slice.sliceApplied Builtin.Slice.sliceFields;refine mE<|mE<|nU I J (x:=z) rfl<|mE<|nU I J (x:=B) rfl<|mE<|nU I J (x:= .none) rfl<|mL ?_;refine mE<|slicePart_none ?_;show wpAny _ _ (if ((1:Int)==0)=b9 then _ else _) _ _ s;rw[MQ ⋯];refine mE<|vo O<|mE<|vo R<|mE<|mL ?_;show wpAny _ _ (match pF lo hi 1 (n:Int)with | (lo,hi)=>pure (lo,(1:Int),oG lo hi 1)) _ _ s;rw[Xi lo hi n];show wpAny _ _ (pure (((dk n 0 lo:Nat):Int),(1:Int),oG ((dk n 0 lo:Nat):Int) ((dk n n hi:Nat):Int) 1)) _ _ s;rw[QT];exact mL h
theorem YA(xs:Array di)(i k:Nat):((mG k).filterMap λ(m:Nat)=>xs[((i:Int)+(m:Int)*1).toNat]?).toArray=((xs.toList.drop i).take k).toArray:=by
 have e:(λ(m:Nat)=>xs[((i:Int)+(m:Int)*1).toNat]?)=λm=>xs[i+m]? :=by
  funext m;have:((i:Int)+(m:Int)*1).toNat=i+m:=by omega
  rw[this]
 rw[e];have:=pick_run xs i k;rw[List.filterMap_map]at this;have a:((λx=>xs[x]?)∘λx=>i+x)=λm=>xs[i+m]? :=rfl;rw[a]at this;rw[this]
theorem Xd{t C:c8}{z:Array di}{J M:di}{lo hi:Option Int}{Q:GQ}(B:tX s.heap t z)(O:s.heap.IsSliceOf C J M .none)(R:o5 J lo)(U:o5 M hi)
 (G : ¬(dk z.size 0 lo=0/\dk z.size z.size hi=z.size))
 (h:Q (.ref s.heap.objs.size) {s with heap:=s.heap.push {cls:= .type "tuple",data:= .seq ((z.toList.drop (dk z.size 0 lo)).take (dk z.size z.size hi - dk z.size 0 lo)).toArray}})
 (H:z.size<=ej):wpAny (d4 prog w) A (p0 (.ref t)<|.ref C) Q E s:=by
 have I:sizeOk (.seq ((z.toList.drop<|dk z.size 0 lo).take (dk z.size z.size hi - dk z.size 0 lo)).toArray):=by show((z.toList.drop<|dk z.size 0 lo).take (dk z.size z.size hi - dk z.size 0 lo)).toArray.size<=ej;rw[mT,rC,List.length_drop,pK];omega
 have e:dk z.size z.size hi<=z.size:=av _ _ (mN _) hi;obtain⟨os,W,Y,d⟩:=id O;have a:s.TypeIs (.ref C) "slice":=⟨os,W,Y⟩;unfold p0
 try with_reducible refine rK ?_
 first | refine mE (mL ?_) | skip
 refine mE (Bp B.typeIs ⋯ ?_);refine mE (oi (name:=mV "__getitem__") B.typeIs nE
  (oI nE B.typeIs entry_tuple_getitem ?_ (AU _ _)))
 show wpAny _ _ (Builtin.Tuple.tupleItemsOf (.ref t) >>= _) _ _ s;refine mE<|rL B ?_;refine mE<|sO a ?_;rw[GY ⋯];refine mE<|k5 O R U ?_;have b : ¬((((dk z.size 0 lo:Nat):Int)==0 && (1:Int)==1 && (dk z.size z.size hi - dk z.size 0 lo)==z.size)=b9):=by intro q;rw[mR,mR]at q;have f:((dk z.size 0 lo:Nat):Int)=0:=eq_of_beq q.1.1;have g:dk z.size z.size hi - dk z.size 0 lo=z.size:=eq_of_beq q.2;exact G ⟨by omega,by omega⟩
 show wpAny _ _ (if (((dk z.size 0 lo:Nat):Int)==0 && (1:Int)==1 && (dk z.size z.size hi - dk z.size 0 lo)==z.size)=b9 then _ else _) _ _ s;rw[MQ b,YA]
 first
  | exact mE (m:=nP _)<|nT (mL ⟨_,rfl,mL h⟩) I
  | exact mE (m:=nP _)<|nT (mE<|mL<|mL ⟨_,rfl,mL h⟩) I
  | exact mE<|mE (m:=nP _)<|nT (mL<|mL ⟨_,rfl,mL h⟩) I
  | exact mE<|mE (m:=nP _)<|nT (mL ⟨_,rfl,mL h⟩) I
end
end HT
namespace L2
open PySem PySem.Spec PyProof.Rows
abbrev TO:=St->Hp->(Option Int->Hp->Prop)->Prop
noncomputable def PO(X:Cx)(e:Option dV)(t:TO):Prop:=
 ∀(a:GW) (s:d0) (b:St) (H:Hp) (Q:Option Int->Hp->Prop),Inv X a b H s->t b H Q->
  wpAny (d4 X.prog X.w) X.A (evalPart e X.env) (λu f=>∃o d,Inv X a b d f/\o5 u o/\Q o d) X.xe s
def V0:TO:=λ_ H Q=>Q cp H
noncomputable def eC(t:TE):TO:=λb H Q=>t b H λx a=>∃i,x = .int i/\Q (b8 i) a
section
variable{X:Cx}{e:dV}{te:TE}{lo hi:Option dV}{tl th:TO}{pos p2:d9}
theorem Wo:PO X cp V0:=by intro a s b H Q I h;rw[evalPart_none];exact mL ⟨cp,H,I,.none,h⟩
theorem Wn(h:PE X e te):PO X (b8 e) (eC te):=by intro a s f H Q I d;rw[evalPart_some];refine d3 (h a s f H _ I d) λu g z=>?_;obtain⟨x,b,B,J,M⟩:=z;obtain⟨i,rfl,q⟩:=M;obtain⟨t,rfl⟩:=J;exact⟨b8 i,b,B,.int i t,q⟩
noncomputable def uv(X:Cx)(r:V->Option Int->Option Int->Hp->VK->Prop):Prop:=
 ∀(a:GW) (s:d0) (d:St) (H:Hp) (x:V) (v z B:di) (lo hi:Option Int) (b:c8) (Q:VK),Inv X a d H s->RelV x v->s.heap.IsSliceOf b z B .none->o5 z lo->o5 B hi->r x lo hi H Q->
  ∃T id,AO (.type T) "__getitem__" = pure (b8 (.builtin id))/\s.TypeIs v T/\wpAny (d4 X.prog X.w) X.A (p0 v (.ref b)) (EP X a d Q) X.xe s
noncomputable def Bl(r:V->Option Int->Option Int->Hp->VK->Prop)(te:TE)(tl th:TO):TE:=λa H Q=>te a H λx b=>tl a b λl d=>th a d λu z=>r x l u z Q
theorem JR(O:uv X r)(R:PE X e te)(U:PO X lo tl)(W:PO X hi th):PE X (.Subscript e (.Slice lo hi cp p2) pos) (Bl r te tl th):=by intro a s d H Q I h;refine uS (d3 (R a s d H _ I h) λv L Y=>?_);obtain⟨x,f,i,K,E⟩:=Y;refine wpAny_Slice (d3 (U a L d f _ i E) λB N ⟨l,g,j,y,F⟩=>d3 (W a N d g _ j F) λJ z ⟨u,M,m,C,G⟩=>?_);rw[evalPart_none];refine mL ?_;have n:Inv X a d M {z with heap:=z.heap.push {cls:= .type "slice",data:= .fields #[B,J,.none]}}:=m.kept (t':=z.toks) λb P q=>mF _ q;obtain⟨T,id,o,t,p⟩:=O a {z with heap:=z.heap.push {cls:= .type "slice",data:= .fields #[B,J,.none]}} d M x v B J l u z.heap.objs.size Q n K (Heap.IsSliceOf.new ..) y C G;show wpAny (d4 X.prog X.w) X.A (AD e (.Slice lo hi cp p2) v (.ref z.heap.objs.size)) (EP X a d Q) X.xe {z with heap:=z.heap.push {cls:= .type "slice",data:= .fields #[B,J,.none]}};exact tail_any (ops:=[.ref z.heap.objs.size,v]) t o p (by with_unfolding_all rfl)
noncomputable def WL(xs:List V)(lo hi:Option Int):List V:=(xs.drop<|HT.dk xs.length 0 lo).take (HT.dk xs.length xs.length hi - HT.dk xs.length 0 lo)
theorem Jm(xs:List V)(lo hi:Option Int):(WL xs lo hi).length<=xs.length:=by unfold WL;rw[rC,List.length_drop];omega
noncomputable def lI(K:mD):V->Option Int->Option Int->Hp->VK->Prop:=λx lo hi H Q=>∃a b,x = .ref a/\eu K H a b/\
 ¬(HT.dk b.length 0 lo=0/\HT.dk b.length b.length hi=b.length)/\∀p,H p=cp->Q (.ref p) (upd H p<|.tup<|WL b lo hi)
theorem ah:uv X (lI X.K):=by
 intro e s m H x v j l lo hi i Q I M O R U h;obtain⟨a,d,rfl,W,f,q⟩:=h;cases M;obtain⟨Y,r,B,J⟩:=I.tuple W;have z:Y.toArray.size=d.length:=by rw[mT];exact r.length.symm
 refine⟨"tuple",_,nE.lookup,B.typeIs,?_⟩;refine HT.Xd B O R U (by rw[z];exact f) ?_ (by rw[z];exact J);rw[z];refine⟨.ref s.heap.objs.size,_,I.laid (t':=s.toks) (o:= .tup (WL d lo hi)) (λb g q=>mF _ q) (mN _) ?_,rfl,q _ (I.d7.fresh (mN _))⟩;exact⟨nc (Jm d lo hi) J,_,(r.drop (HT.dk d.length 0 lo)).take (HT.dk d.length d.length hi - HT.dk d.length 0 lo),n5.new _ _⟩
theorem d5.uF(r:d5 xs us):us=[]↔xs=[]:=by
 cases r with
 | nil=>simp
 | cons _ _=>simp
end
noncomputable def tf(n:Nat)(i:Int):Option Nat:=if 0<=i then (if i<n then b8 i.toNat else cp)else if -(n:Int)<=i then b8 (i+n).toNat else cp
noncomputable def rb{t:Type}(xs:List t)(i:Int):Option t:=(tf xs.length i).bind λj=>xs[j]?
theorem Km(h:tf n i=b8 j):seqIndex? i n=b8 j/\j<n/\ -(n:Int)<=i/\i<n:=by
 unfold tf at h;by_cases z:0<=i
 ·rw[GY z]at h
  by_cases a:i<n
  ·rw[GY a]at h
   have e:i.toNat=j:=nA h;exact⟨by rw[Ax z a,e],by omega,by omega,a⟩
  ·rw[MQ a]at h;cases h
 ·rw[MQ z]at h
  by_cases a : -(n:Int)<=i
  ·rw[GY a]at h
   have e:(i+n).toNat=j:=nA h;exact⟨by rw[Aw ⋯ a,e],by omega,a,by omega⟩
  ·rw[MQ a]at h;cases h
theorem Js(h:rb xs i=b8 v) : ∃j,seqIndex? i xs.length=b8 j/\xs[j]? = b8 v/\j<xs.length/\ -(xs.length:Int)<=i/\i<xs.length:=by
 unfold rb at h;cases e:tf xs.length i with
 | none=>rw[e]at h;cases h
 | some j=>
  rw[e]at h;obtain⟨a,b,z,B⟩:=Km e;exact⟨j,a,h,b,z,B⟩
def Jw(b:dV):Prop:=∀o i,y2 b cq o i=operate [o,i] (p0 o i)
noncomputable def q5(X:Cx)(r:R2):Prop:=
 ∀(b z:dV) (a:GW) (s:d0) (d:St) (H:Hp) (x y:V) (v u:di) (Q:VK),Inv X a d H s->RelV x v->RelV y u->r x y H Q->
  y2 z cq v u=operate [v,u] (p0 v u)->wpAny (d4 X.prog X.w) X.A (AD b z v u) (EP X a d Q) X.xe s
noncomputable def ur(X:Cx)(id:String)(r:V->List V->Hp->VK->Prop):Prop:=
 ∀(a:GW) (s:d0) (e:St) (H:Hp) (x:V) (d:List V) (v:di) (b:List di) (Q:VK),Inv X a e H s->RelV x v->d5 d b->r x d H Q->
  wpAny (d4 X.prog X.w) X.A (call (.builtin id) (v::b)) (EP X a e Q) X.xe s
section
variable{X:Cx}{a b:dV}{ta tb:TE}{pos:d9}
theorem q5.or(h:q5 X r)(h':q5 X r'):q5 X (λx y H Q=>r x y H Q\/r' x y H Q):=by
 intro a z b s d H x y v u Q I B J q M;rcases q with q | q
 ·exact h a z b s d H x y v u Q I B J q M
 ·exact h' a z b s d H x y v u Q I B J q M
theorem bp(z:q5 X r)(t:PE X a ta)(B:PE X b tb)(J:Jw b):PE X (.Subscript a b pos) (uf r ta tb):=by intro d s g H Q I h;exact uS<|gd t B I h λv u f x y e M O R q=>z a b d f g e x y v u Q M O R q<|J _ _
noncomputable def lL(K:mD):R2:=λx y H Q=>∃p a i v,x = .ref p/\y = .int i/\el K H p a/\rb a i=b8 v/\Q v H
noncomputable def lJ(K:mD):R2:=λx y H Q=>∃p a i v,x = .ref p/\y = .int i/\eu K H p a/\rb a i=b8 v/\Q v H
noncomputable def lK:R2:=λx y H Q=>∃z i c,x = .str z/\y = .int i/\z.length<=ej/\rb z.cps.toList i=b8 c/\Q (.str ⟨#[c]⟩) H
theorem A7:q5 X (lL X.K):=by
 intro d F a s e H x y v u Q I W Y h M;obtain⟨p,P,i,z,rfl,rfl,C,o,q⟩:=h;cases W;obtain⟨t,rfl⟩:=Y;obtain⟨f,r,B,N⟩:=I.list C;obtain⟨j,b,l,G,m,n⟩:=Js o;obtain⟨w,O,g⟩:=r.get l;have A:=r.length;have L:=vz;have R:EP X a e Q w s:=⟨z,H,I,g,q⟩;by_cases U:0<=i
 ·have J:i.toNat=j:=by
   rw[Ax U n]at b;exact nA b
  exact item_listR B.isList U ⋯ (by rw[J];simpa using O) R M
 ·have J:(i+(f.toArray.size:Int)).toNat=j:=by
   rw[Aw ⋯ m]at b;rw[mT,<- A];exact nA b
  exact Bj (x:=w) B.isList.typeIs slot_list_getitem.lookup
   (wpAny_getItem_list_neg (Q:=λr E=>r=w/\EP X a e Q r E) B.isList ⋯ (by rw[mT]<;>omega) ⋯ (by rw[J];simpa using O) ⟨rfl,R⟩) M
theorem bS:q5 X (lJ X.K):=by
 intro b n a s d H x y v u Q I J M h O;obtain⟨p,L,i,z,rfl,rfl,R,U,q⟩:=h;cases J;obtain⟨t,rfl⟩:=M;obtain⟨o,r,B,G⟩:=I.tuple R;obtain⟨j,f,g,A,C,E⟩:=Js U;obtain⟨w,W,Y⟩:=r.get g;have l:=r.length;have F:=vz;have e:EP X a d Q w s:=⟨z,H,I,Y,q⟩;exact Bj (x:=w) B.typeIs slot_tuple_getitem.lookup
  (getItem_tuple (j:=j) (Q:=λr m=>r=w/\EP X a d Q r m) B ⋯ ⋯ (by rw[mT,<- l];exact f) (by simpa using W) ⟨rfl,e⟩) O
theorem bT:q5 X lK:=by
 intro a Y d s p H x y v u Q I B J h M;obtain⟨z,i,c,rfl,rfl,n,O,q⟩:=h;obtain⟨t,rfl⟩:=B;obtain⟨o,rfl⟩:=J;obtain⟨j,b,g,l,R,U⟩:=Js O;have W:z.cps.toList.length=z.length:=by simp[Str.length]
 rw[W]at b R U;have m:=vz;exact tail_any (rD s z t) slot_str_getitem.lookup (getItem_str (c:=c) (by
  have e:decide (i < -(2 ^ 63:Int))=cq:=decide_eq_false ⋯;have f:decide (i>=2 ^ 63)=cq:=decide_eq_false ⋯;rw[e,f,Bool.or_false]) (by rw[b];simpa using g) ⟨.str ⟨#[c]⟩,H,I.tok _,⟨_,rfl⟩,q⟩) M
theorem Xa(z:List di)(n j:Nat)(u:di):sv (·.setIfInBounds j u) {cls:= .type "list",data:= .seq z.toArray n} = {cls:= .type "list",data:= .seq (z.set j u).toArray n}:=by simp[sv]
theorem Inv.lst(I:Inv X pins σ H s)(h:H p=b8 (.lst xs)) :
 ∃(B:List di) (n:Nat),d5 xs B/\s.heap.get? p=b8 {cls:= .type "list",data:= .seq B.toArray n}/\xs.length<=ej:=by
 obtain⟨z,B,n,r,e⟩:=I.d7 p _ h;exact⟨B,n,r,e,z⟩
theorem Inv.A8{C:GW}{L:St}{H:Hp}{s:d0}{p:c8}{xs G:List V}{B its':List di}{n z:Nat}{f:h9->h9}(I:Inv X C L H s)(h:H p=b8 (.lst xs))
 (M:s.heap.get? p=b8 {cls:= .type "list",data:= .seq B.toArray n}) (J:f {cls:= .type "list",data:= .seq B.toArray n} = {cls:= .type "list",data:= .seq its'.toArray z}) (r:d5 G its') (O:G.length<=ej) (t:Nat) :
 Inv X C L (upd H p<|.lst G) {s with heap:=s.heap.update p f,toks:=t}:=by
 have e:(s.heap.update p f).get? p=b8 {cls:= .type "list",data:= .seq its'.toArray z}:=by rw[Heap.get?_update_self f M (by rw[J]<;>rfl),J]
 refine I.write (x:=p) (e:=p) (by rw[h];trivial) (.inl rfl) (λb u R q=>(Heap.get?_update_other _ _<|nW R).trans q) ⟨_,e⟩ ?_;exact⟨O,its',z,r,e⟩
noncomputable def ff:V->V->V->Hp->(Hp->Prop)->Prop:=λo i v H Q=>∃p a k j,o = .ref p/\i = .int k/\H p=b8 (.lst a)/\tf a.length k=b8 j/\Q (upd H p<|.lst<|a.set j v)
theorem Yj:iN X ff:=by
 intro a s x H o i v E C u Q I l g m h;obtain⟨p,w,k,j,rfl,rfl,M,e,q⟩:=h;cases l;obtain⟨t,rfl⟩:=g;obtain⟨O,n,r,z,f⟩:=I.lst M;obtain⟨b,y,R,U⟩:=Km e;have B:=r.length;have A:=vz;have Y:Inv X a x (upd H p<|.lst<|w.set j v) {s with heap:=s.heap.update p (sv (·.setIfInBounds j u))}:=
  I.A8 M z (Xa O n j u) (r.set m j) (by rw[List.length_set];exact f) s.toks
 by_cases d:0<=k
 ·have J:k.toNat=j:=by
   rw[Ax d U]at b;exact nA b
  exact PySem.W.ki_setAt z d ⋯ (by rw[mT,<- B];exact U) (by rw[J];exact⟨_,Y,q⟩)
 ·have J:(k+(O.toArray.size:Int)).toNat=j:=by
   rw[Aw ⋯ R]at b;rw[mT,<- B];exact nA b
  exact PySem.W.ki_setBack z ⋯ (by rw[mT,<- B];exact R) ⋯ (by rw[J];exact⟨_,Y,q⟩)
noncomputable def vc:V->Bool
 | .ea=>b9
 | .bl _=>b9
 | .int _=>b9
 | .str _=>b9
 | _=>cq
noncomputable def pw:V->V->Bool
 | .ea,.ea=>b9
 | .bl a,.bl b=>a==b
 | .bl a,.int b=>(if a then 1 else 0)==b
 | .int a,.bl b=>a==(if b then 1 else 0)
 | .int a,.int b=>a==b
 | .str a,.str b=>a==b
 | _,_=>cq
theorem cc(B:RelV y u)(z:RelV x v)(J:vc y=b9)(I:vc x=b9):nI A s u v (pw y x):=by
 cases y with
 | ea=>
  cases B;cases x with
  | ea=>cases z;exact nI.same _
  | bl b=>cases z;exact nI.none_bool b
  | int b=>obtain⟨t,rfl⟩:=z;exact nI.none_int b t
  | str b=>obtain⟨t,rfl⟩:=z;exact nI.none_str b t
  | _=>exact absurd (show cq=b9 from I) mW
 | bl a=>
  cases B;cases x with
  | ea=>cases z;exact nI.bool_none a
  | bl b=>cases z;exact nI.bool_bool a b
  | int b=>obtain⟨t,rfl⟩:=z;exact nI.bool_int a b t
  | str b=>obtain⟨t,rfl⟩:=z;exact nI.bool_str a b t
  | _=>exact absurd (show cq=b9 from I) mW
 | int a=>
  obtain⟨d,rfl⟩:=B;cases x with
  | ea=>cases z;exact nI.int_none a d
  | bl b=>cases z;exact nI.int_bool a d b
  | int b=>obtain⟨t,rfl⟩:=z;exact nI.int_int a d b t
  | str b=>obtain⟨t,rfl⟩:=z;exact nI.int_str a d b t
  | _=>exact absurd (show cq=b9 from I) mW
 | str a=>
  obtain⟨d,rfl⟩:=B;cases x with
  | ea=>cases z;exact nI.str_none a d
  | bl b=>cases z;exact nI.str_bool a d b
  | int b=>obtain⟨t,rfl⟩:=z;exact nI.str_int a d b t
  | str b=>obtain⟨t,rfl⟩:=z;exact nI.str_str a d b t
  | _=>exact absurd (show cq=b9 from I) mW
 | _=>exact absurd (show cq=b9 from J) mW
noncomputable def kv(x:V)(u:di):Bool:=match u with
 | .none=>pw .ea x
 | .bool b=>pw (.bl b) x
 | .int i _=>pw (.int i) x
 | .str z _=>pw (.str z) x
 | _=>cq
theorem VE(r:RelV y u)(f:vc y=b9):kv x u=pw y x:=by
 cases y with
 | ea=>cases r;rfl
 | bl b=>cases r;rfl
 | int i=>obtain⟨t,rfl⟩:=r;rfl
 | str z=>obtain⟨t,rfl⟩:=r;rfl
 | _=>exact absurd (show cq=b9 from f) mW
theorem yW : ∀{xs:List V} {z:List di},d5 xs z->xs.all vc=b9->z.any (kv x)=xs.any λy=>pw y x
 | _,_,.nil,_=>rfl
 | y::xs,u::z,.cons r t,f=>by rw[sg,mR]at f;rw[rB,rB,VE r f.1,yW t f.2]
theorem ka(B:RelV x v)(I:vc x=b9) : ∀{xs:List V} {C:List di},d5 xs C->xs.all vc=b9->∀u∈C,nI A s u v (kv x u)
 | _,_,.nil,_=>λu z=>by cases z
 | y::xs,u::C,.cons r t,f=>λJ z=>by
  rw[sg,mR]at f;rcases mJ.mp z with rfl | z
  ·rw[VE r f.1];exact cc r B f.1 I
  ·exact ka B I t f.2 J z
def rp(x:V)(xs:List V):Bool:=xs.any λy=>pw y x
noncomputable def Av(K:mD)(z:Bool):R2:=λx y H Q=>∃p a,y = .ref p/\(el K H p a\/eu K H p a)/\vc x=b9/\a.all vc=b9/\Q (.bl<|if z then !rp x a else rp x a) H
theorem Zd:fh X (ij .In) (Av X.K cq):=by
 intro b s e H x y v u Q I M R h;obtain⟨p,d,rfl,z,O,fs,q⟩:=h;cases R;rcases z with z | z
 ·obtain⟨B,r,J,U⟩:=I.list z
  refine SeqAt.in_listAt (kv x) J.isList (λw a=>ka M O r fs w<|by simpa using a) ⟨.bl _,H,I,rfl,?_⟩;rw[show B.toArray.any (kv x)=B.any (kv x)by simp,yW r fs];exact q
 ·obtain⟨B,r,J,U⟩:=I.tuple z
  refine SeqAt.in_tupleAt (kv x) J (λw a=>ka M O r fs w<|by simpa using a) ⟨.bl _,H,I,rfl,?_⟩;rw[show B.toArray.any (kv x)=B.any (kv x)by simp,yW r fs];exact q
theorem Zc:fh X (ij .NotIn) (Av X.K b9):=by
 intro b s e H x y v u Q I M R h;obtain⟨p,d,rfl,z,O,fs,q⟩:=h;cases R;rcases z with z | z
 ·obtain⟨B,r,J,U⟩:=I.list z
  refine SeqAt.notIn_listAt (kv x) J.isList (λw a=>ka M O r fs w<|by simpa using a) ⟨.bl _,H,I,rfl,?_⟩;rw[show B.toArray.any (kv x)=B.any (kv x)by simp,yW r fs];exact q
 ·obtain⟨B,r,J,U⟩:=I.tuple z
  refine SeqAt.notIn_tupleAt (kv x) J (λw a=>ka M O r fs w<|by simpa using a) ⟨.bl _,H,I,rfl,?_⟩;rw[show B.toArray.any (kv x)=B.any (kv x)by simp,yW r fs];exact q
theorem Zu:vf X (.builtin "len") (λxs H Q=>∃p t,xs=[.ref p]/\(el X.K H p t\/eu X.K H p t)/\Q (.int t.length) H):=by
 intro a s e H xs d Q I r h;obtain⟨p,t,rfl,z,q⟩:=h;obtain⟨u,rfl,O⟩:=kr r;cases O;have b:=vz;rcases z with z | z
 ·obtain⟨R,B,J,U⟩:=I.list z
  have M:=B.length;exact Calls.call_len_list J.isList (by simp only[mT]<;>omega) ⟨.int t.length,H,I.tok _,⟨s.toks+1,by rw[mT,M]⟩,q⟩
 ·obtain⟨R,B,J,U⟩:=I.tuple z
  have M:=B.length;exact len_tuple J (by simp only[mT]<;>omega) ⟨.int t.length,H,I.tok _,⟨s.toks+1,by rw[mT,M]⟩,q⟩
theorem Zt:vf X (.builtin "len") (λxs H Q=>∃z,xs=[.str z]/\z.length<=ej/\Q (.int z.length) H):=by intro a s e H xs d Q I r h;obtain⟨z,rfl,B,q⟩:=h;obtain⟨u,rfl,t,rfl⟩:=kr r;have b:=vz;exact len_str ⋯ ⟨.int z.length,H,I.tok _,⟨_,rfl⟩,q⟩
theorem wj:vf X (.type "tuple") (λxs H Q=>∃p t,xs=[.ref p]/\((el X.K H p t/\∀l,H l=cp->Q (.ref l) (upd H l (.tup t)))\/(eu X.K H p t/\Q (.ref p) H))):=by
 intro a s f H xs i Q I r h;obtain⟨p,t,rfl,h⟩:=h;obtain⟨u,rfl,U⟩:=kr r;cases U;rcases h with⟨z,q⟩ | ⟨z,q⟩
 ·obtain⟨B,J,M,O⟩:=I.list z
  have Y:=J.length;refine call_tuple_list M.isList (λd g=>?_) (by simp only[mT]<;>omega);have R:Inv X a f H {s with heap:=d}:=I.kept (t':=s.toks) g;have W:Inv X a f (upd H d.objs.size (.tup t)) {s with heap:=d.push {cls:= .type "tuple",data:= .seq B.toArray}}:=
   R.laid (t':=s.toks) (λb o e=>mF _ e) (mN _) (show gq X.prog X.w _ _ _ (.tup t)from⟨O,B,J,n5.new _ _⟩)
  exact⟨.ref d.objs.size,_,W,rfl,q _<|R.d7.fresh<|mN _⟩
 ·obtain⟨B,J,M,O⟩:=I.tuple z
  exact call_tuple_same M ⟨.ref p,H,I,rfl,q⟩
noncomputable def AN(K:mD)(T:String)(x:V)(H:Hp):Prop:=match x with
 | .str _=>T = "str"
 | .int _=>T = "int"
 | .ref p=>(T = "list"/\∃b,el K H p b)\/(T = "tuple"/\∃o,K.lookup p=b8 o/\o.cls = .type "tuple"/\o.dict=cp)\/
  (T = "dict"/\((∃a,H p=b8 (.dK a))\/∃a,H p=b8 (.dT a)))\/(T = "set"/\∃S n,H p=b8 (.set S n))
 | _=>False
theorem W7(I:Inv X pins σ H s)(r:RelV x v)(ty:AN X.K T x H) :
 s.TypeIs v T/\∀a,v = .ref a->∃J,s.heap.get? a=b8 J/\J.dict=cp:=by
 cases x with
 | str z=>
  obtain⟨t,rfl⟩:=r;cases (show T = "str" from ty);exact⟨rD s z t,λ_ e=>nomatch e⟩
 | int i=>
  obtain⟨t,rfl⟩:=r;cases (show T = "int" from ty);exact⟨typeIs_int s i t,λ_ e=>nomatch e⟩
 | ref p=>
  cases r;rcases ty with⟨rfl,h,O⟩ | ⟨rfl,o,B,R,f⟩ | ⟨rfl,B⟩ | ⟨rfl,S,n,B⟩
  ·obtain⟨U,_,M,_⟩:=I.list O
   refine⟨M.isList.typeIs,λa e=>?_⟩;cases e;obtain⟨o,n,e,c,f,_⟩:=M;exact⟨o,e,f⟩
  ·refine⟨⟨o,I.f6 p o B,R⟩,λa e=>?_⟩
   cases e;exact⟨o,I.f6 _ o B,f⟩
  ·have z : ∃o,s.heap.get? p=b8 o/\o.ExactDict:=by
    rcases B with⟨g,B⟩ | ⟨g,B⟩
    ·obtain⟨_,_,_,_,o,_,_,e,b,_⟩:=I.d7 p _ B
     exact⟨o,e,b⟩
    ·obtain⟨_,_,_,_,o,_,_,e,b,_⟩:=I.d7 p _ B
     exact⟨o,e,b⟩
   obtain⟨o,e,b⟩:=z;refine⟨⟨o,e,b.1⟩,λa d=>?_⟩;cases d;exact⟨o,e,b.2.1⟩
  ·obtain⟨o,_,_,_,e,b,_⟩:=I.d7 p _ B
   refine⟨⟨o,e,b.1⟩,λa d=>?_⟩;cases d;exact⟨o,e,b.2.1⟩
 | _=>exact oX ty
noncomputable def AF(K:mD)(T:String)(r:V->List V->Hp->VK->Prop)(to:TE)(t:TA):TE:=λb H Q=>to b H λx a=>AN K T x a/\t b a λe d=>r x e d Q
variable{o e:dV}{es:List dV}{to:TE}{t:TA}{name:Str}{apos cpos:d9}{T id:String}{r:V->List V->Hp->VK->Prop}
theorem YE(M:PlainAttrs T)(C:Slot T name id)(O:typeOf (.builtin id)=pure (.type "method_descriptor"))(S:ur X id r)(R:PE X o to)(L:PA X (e::es) t)
 (U:uw o name X.env (d1 o X.env)=d1 o X.env:=by rfl)
 (W:((i5 cpos<|starEach (e::es) X.env).all (λx=> !x.1) && (ux cpos<|keywordEach [] X.env).all (λx=>x.1.isSome)
   && decide ((e::es).length+([]:List o6).length+(if ([]:List o6).isEmpty then 0 else 1)<30))=b9:=by rfl)
 (Y:(apos.endLine==cpos.line)=b9:=by rfl) (Z:eg (e::es) X.env=(cq,d1 e X.env)::eg es X.env:=by rfl) (G:(i5 cpos<|starEach es X.env).any (·.1)=cq:=by rfl) :
 PE X (.Call (.Attribute o name apos) (e::es) [] cpos) (AF X.K T r to t):=by
 intro a s b H Q I h;refine wpAny_Call_method_late U W Y rfl<|d3 (R a s b H _ I h) λv u l=>?_;obtain⟨x,d,z,B,ty,m⟩:=l;obtain⟨i,j⟩:=W7 z B ty;refine⟨T,id,M,C,O,i,j,?_⟩;have J:=L cpos a u b d _ z m;rw[Z]at J ⊢;refine Calls.callWith_builtin (by show(cq || (i5 cpos<|starEach es X.env).any (·.1))=cq;rw[G]<;>rfl)<|Calls.evalArgs_plain ?_;exact d3 J λy w ⟨A,f,g,p,n⟩=>S a w b f x A v y Q g B p n
end
noncomputable def AS(X:Cx)(id:String)(r:V->List V->Hp->VK->Prop):Prop:=
 ∀(a:GW) (s:d0) (e:St) (H:Hp) (x:V) (d:List V) (v:di) (b:List di) (Q:VK),Inv X a e H s->RelV x v->d5 d b->r x d H Q->
  wpAny (d4 X.prog X.w) X.A (call (.builtin id) (v::b)) (EP X a e Q) X.xe s
theorem d5.one : ∀{x:V} {t:List di},d5 [x] t->∃u,t=[u]/\RelV x u
 | _,_,.cons r .nil=>⟨_,rfl,r⟩
theorem d5.dropLast(h:d5 xs us):d5 xs.dropLast us.dropLast:=by
 induction h with
 | nil=>exact .nil
 | cons r t z=>
  cases t with
  | nil=>exact .nil
  | cons q a=>exact .cons r z
theorem d5.rep(h:d5 xs us) : ∀k:Nat,d5 (mI k xs).flatten (mI k us).flatten
 | 0=> .nil
 | k+1=>by rw[oh,oh,oQ,oQ];exact d5.append h<|d5.rep h k
theorem Zo(z:List di) : ∀(k:Nat) (acc:List di),
 List.foldl (λx1 B=>x1++B) acc.toArray (mI k z.toArray)=(acc++(mI k z).flatten).toArray
 | 0,acc=>by simp
 | k+1,acc=>by
  have e:acc.toArray++z.toArray=(acc++z).toArray:=by simp
  have a:(acc++z)++(mI k z).flatten=acc++(mI (k+1) z).flatten:=by rw[oh,oQ,List.append_assoc]
  rw[<- a,<- Zo z k (acc++z),<- e,oh,List.foldl_cons]
section
variable{X:Cx}{pins:GW}{σ:St}{H:Hp}{s:d0}{l b:c8}{xs ys zs:List V}
theorem Inv.Ao{z its':List di}{n:Nat}{f:Array di->Array di}{t':Nat}(I:Inv X pins σ H s)(B:H l=b8 (.lst xs))
 (e:s.heap.get? l=b8 {cls:= .type "list",data:= .seq z.toArray n}) (J:f z.toArray=its'.toArray) (M:d5 ys its') (O:ys.length<=ej) :
 Inv X pins σ (upd H l<|.lst ys) {s with heap:=s.heap.update l<|sv f,toks:=t'}:=by
 have q:=PySem.IsL.update e f;rw[J]at q;refine I.write (x:=l) (e:=l) (by rw[B];exact trivial) (.inl rfl) (λW u R U=>(Heap.get?_update_other s.heap (sv f)<|nW R).trans U) ⟨_,q⟩ ?_;exact⟨O,its',_,M,q⟩
theorem Inv.An(I:Inv X pins σ H s)(B:d5 ys z)(J:ys.length<=ej) :
 Inv X pins σ (upd H s.heap.objs.size (.lst ys)) {s with heap:=s.heap.push {cls:= .type "list",data:= .seq z.toArray},toks:=t'}:=
 I.laid (λ_ _ q=>mF _ q) (mN _) ⟨J,z,0,B,mX _ rfl⟩
theorem Inv.fresh(I:Inv X pins σ H s):H s.heap.objs.size=cp:=I.d7.fresh<|mN _
theorem Inv.Ap(I:Inv X pins σ H s)(J:H l=b8 (.lst xs)):xs.length<=ej/\∃(B:List di) (n:Nat),d5 xs B/\xs.length=B.length/\s.heap.get? l=b8 {cls:= .type "list",data:= .seq B.toArray n}:=by obtain⟨z,B,n,r,e⟩:=I.d7 l _ J;exact⟨z,B,n,r,r.length,e⟩
end
section
variable{X:Cx}
noncomputable def XI:V->List V->Hp->VK->Prop:=λx b H Q=>∃l a y,x = .ref l/\b=[y]/\H l=b8 (.lst a)/\a.length<ej/\Q .ea (upd H l<|.lst<|a++[y])
theorem Kg:AS X "list.append" XI:=by intro a s g H x d v b Q I M O h;obtain⟨l,f,y,rfl,rfl,B,U,q⟩:=h;cases M;obtain⟨u,rfl,R⟩:=O.one;obtain⟨z,J,n,r,W,e⟩:=I.Ap B;refine px F.slot_list_append ⟨_,e,rfl⟩ F.entry_list_append (F.args_list_append_2 _ _) (PySem.list_append l J.toArray n u (by rw[mT];omega)) ⟨e,?_⟩;refine⟨.ea,_,I.Ao (its':=J++[u]) B e ⋯ (r.append (.cons R .nil)) ?_,rfl,q⟩;rw[nz,rG];omega
theorem Ki(xs:List α)(k:Nat):(mI k xs).flatten.length=k*xs.length:=by
 induction k with
 | zero=>simp
 | succ k z=>rw[oh,oQ,nz,z,Nat.succ_mul,Nat.add_comm]
end
end L2
namespace Att
open PySem PySem.W PySem.Calls PyProof.Rows
theorem yP : ∀(t:List Int) (C:List di),WellAll P h C (t.map WData.int)->um C t:=by
 intro t
 induction t with
 | nil=>
  intro C w;rw[sA]at w;cases w;exact .nil
 | cons n t z=>
  intro C w;rw[nj]at w;cases w with
  | cons a b=>
   cases a;exact .cons _ _<|z _ b
theorem Xy{l:OpenLaw}{n:Nat}(G:l.most=b8 n){P:Params}{h:d6}{args:List WData}{I:List di}
 (J:l.row.toRowW.claim.pre args=b9) (O:WellAll P h I args) :
 ∃a C t,I=[nJ a]/\args=[WData.list (t.map WData.int)]/\h.get? a=b8 {cls:= .type "list",data:= .seq C.toArray}/\um C t/\t.length<=n:=by
 have R:WShape.hasAll [] args [.list .int]=b9:=(pre_splitW J).1;have M:l.pre.holds [] {args:=args}=b9:=(pre_splitW J).2;obtain⟨d,r,rfl,e,f⟩:=hasAllW_cons R;obtain rfl:=hasAllW_nil f;obtain⟨m,rfl,U⟩:=hasW_list e;obtain⟨t,rfl⟩:=items_int U;have W:t.length<=n:=by
  unfold OpenLaw.pre at M;have z:(WTm.not<|.lt (.lit<|.int (n:Int))<|.len<|.arg 0).holds [] {args:=[.list (t.map .int)]}=b9:=by have z:=(holds_andW M).1;rw[G]at z;exact z
  have B:=condW_of z<|w_not<|w_lt w_lit<|w_len_list<|w_arg rfl;rw[mZ]at B;refine Nat.le_of_not_lt λq=>?_;have Y:(n:Int)<((t.length:Nat):Int):=by omega
  first
   | (rw[decide_eq_true Y]at B;exact absurd B ⋯)
   | (simp at B;omega)
 cases O with
 | cons i j=>
  cases j;cases i with
  | list g b=>exact⟨_,_,t,rfl,rfl,g,yP t _ b,W⟩
theorem XZ(l:OpenLaw)(args:List WData):l.row.toRowW.claim.post args (.bool b9) args=b9:=
 postW_of (r:=l.row.toRowW) (X:=(b9==b9))
  (show WShape.has [] (.bool b9) .bool=b9 by first | rfl | decide | simp[WShape.has,WShape.arms,WShape.armsAll])
  (show(WTm.eq .res<|.lit<|.bool b9).value [] {args:=args,res:=b8 (.bool b9),after:=args}=b8 (.bool<|true==b9)from w_eq_bool (w_res rfl) w_lit) rfl
theorem WR{l:OpenLaw}{n:Nat}{q:fy}{I:List Str}{J:(Str->Option di)->d6->Prop}{M:eW->d6->Prop}{d:DefRec}
 (hn:l.most=b8 n) (R:d.params.defaults=[])
 (call : ∀(w:eW) (hL z:d0) (L mb:GJ) (H:c8) (o:h9) (pm B t:di) (a:c8) (C:List di) (S:List Int),
   Ground q I [] J w hL L mb z.heap->M w z.heap->
   z.heap.get? H=b8 o->o.data = .func (docDef d.name d.params d.body d.scope pm B t)->z.heap.CodeRec B d.name->L d.name=b8 (.ref H)->
   z.heap.get? a=b8 {cls:= .type "list",data:= .seq C.toArray}->um C S->S.length<=n->z.gens = #[]->
   codeAny (d4 l.prog w) sW (.call (.ref H) ⟨[.ref a],[]⟩) (λr Z=>r = .ok (.ret<|.bool b9)/\OldK z.heap Z.heap/\Z.os=z.os/\qs Z.gens) z) :
 WalkO q I J M l.row.toRowW d [] (λf C=>PySem.call f C):=by
 intro w hL z L mb G Y H o pm B t U kV W y e O g A b K as h N P i Q;obtain rfl:U = .none:=Dflts.none O R;obtain rfl:kV = .none:=Dflts.noKw O;obtain⟨a,C,S,rfl,rfl,j,m,p⟩:=Xy hn h i;refine enter_call<|sP (call w hL z L mb H o pm B t a C S G Y W (fd_plain y) e g j m p A) λr Z F=>?_;obtain⟨rfl,s,u,x⟩:=F;exact⟨.inl ⟨.bool b9,.bool b9,[],rfl,λ_=>rfl,.bool b9,XZ l _,λ_=>⟨List.Pairwise.nil,λ_ E=>(nomatch E)⟩⟩,s,u,x⟩
end Att
namespace L2
open PySem PySem.Spec PyProof.Rows
theorem xM : ∀{C:List di} {z:List Int},um C z->d5 (z.map V.int) C
 | _,_,.nil=> .nil
 | _,_,.cons n t h=> .cons ⟨t,rfl⟩ (xM h)
def ed(H:Hp):Prop:=∀b,H b=cp\/∃o a,H b=b8 (.l5 o<|.lst a)
theorem YL{P:fy}{w:eW}{K:mD}{G mb:GJ}{CX:m6}{k:Nat}{Z a:c8}{fd:l8}{x:Str}{sp:Sp}{B:d0}{C:List di}{L:List Int}
 (U:K.In B.heap) (W:B.heap.Ns iv G) (I:B.heap.Ns Ai mb) (a6 : ∀x:Str,x ≠ "__name__"->mb x=sV x) (a7:B.heap.NoLimit) (hg:B.gens = #[])
 (S:B.heap.get? a=b8 {cls:= .type "list",data:= .seq C.toArray}) (hi:um C L) (Y:L.length<=ej) (hr:i2 k sW)
 (F : ∀base:d6,K.In base->base.Ns iv G->l7 P w K G base CX k Z fd [x] sp) (ac : ∀(s:d0) (u:di),uj s fd ⟨[u],[]⟩ [(x,u)])
 (am : ∀H:Hp,ed H->el K H a (L.map V.int)->sp [.ref a] H (λv _=>v = .bl b9) λ_ _ _=>False)
 (an : ∀H e t,CX [] H B (λ_ _ _=>False) e t->False) :
 codeAny (d4 P w) sW (.call (.ref Z) ⟨[.ref a],[]⟩) (λr t=>r = .ok (.ret<|.bool b9)/\OldK B.heap t.heap/\t.os=B.os/\qs t.gens) B:=by
 have N:=xM hi;have Q:=hi.length;have j : ∀H:Hp,ed H->el K H a (L.map V.int)->f9 P w H B.heap->(∀b,H b≠cp->b=a)->(H a≠cp->K.lookup a=cp)->
  codeAny (d4 P w) sW (.call (.ref Z) ⟨[.ref a],[]⟩) (λr t=>r = .ok (.ret<|.bool b9)/\OldK B.heap t.heap/\t.os=B.os/\qs t.gens) B:=by
  intro H E hS i A hK;have l : ∀{b:c8} {o:h9},B.heap.get? b=b8 o->H b=cp->(YR B.heap H).get? b=b8 o:=λe n=>YQ e n;have aw : ∀{b:c8} {o:h9} {g:Array DictEntry} {J:Nat},B.heap.get? b=b8 o->o.data = .dict g J->H b=cp:=λ{b o g J} e d=>by
   cases q:H b with
   | none=>rfl
   | some u=>
    have R:b=a:=A b (by rw[q];simp);subst R;rw[S]at e;cases e;have X:Data.seq C.toArray _=Data.dict g J:=d;cases X
  have O : ∀{b:c8} {m:GJ},B.heap.Ns b m->(YR B.heap H).Ns b m:=λ{b m} ⟨o,g,J,e,d,r⟩=>⟨o,g,J,l e<|aw e d,d,r⟩;have p:K.In (YR B.heap H):=λb o e=>l (U b o e) (by
   cases q:H b with
   | none=>rfl
   | some u=>
    have R:b=a:=A b (by rw[q];simp);subst R;rw[hK (by rw[q];simp)]at e;cases e)
  have hM:Mod K G (YR B.heap H):=⟨p,O W,⟨mb,O I,a6⟩,let ⟨mc,h1,h2⟩:=a7;⟨mc,O h1,h2⟩⟩;have e0:uk P w K G (YR B.heap H) sW [] B H:=⟨rfl,hM,λb o e=>WA e,Nat.le_of_eq<|Kv _ _,trivial,λb I=>absurd (show b∈([]:List c8)from I) ⋯,i,.of_eq hg⟩;refine sP ((F _ p<|O W).run sW [] B H ⟨[.ref a],[]⟩ [.ref a] [.ref a] _ _ hr e0 (ac B<|.ref a) (.cons rfl .nil) (am H E hS)) λr t h=>?_;cases r with
  | error e=>exact(an H e t h).elim
  | ok fl=>
   cases fl with
   | next=>exact oX h
   | brk=>exact oX h
   | cont=>exact oX h
   | ret u=>
    obtain⟨v,H',os,f,un,T,r',q⟩:=h;have q':v = .bl b9:=q;subst q';obtain rfl:u=sk b9:=r';refine⟨rfl,OldK.of_keep λb o e=>?_,os,f⟩;cases q:H b with
    | none=>exact un.keep b o e q (by intro z;exact absurd (show b∈([]:List c8)from z) ⋯) ⋯
    | some u=>
     rcases E b with z | ⟨ob,xs,z⟩
     ·rw[q]at z;cases z
     ·have z2:=un.sZ b ob _ z
      obtain⟨y,_⟩:=i b _ z;obtain⟨e2,_⟩:=T b _ z2;rw[e]at y;cases y;exact e2
 cases hk:K.lookup a with
 | some o=>
  have e:=U a o hk;rw[S]at e;cases e;refine j (λ_=>cp) (λ_=> .inl rfl) (.inr ⟨_,C.toArray,_,hk,rfl,rfl,rfl,by rw[mT,Q];exact Y,by simpa using N⟩) (λb u z=>by have M:(cp:Option HO)=b8 u:=z;cases M) (λb z=>absurd rfl z) λz=>absurd rfl z
 | none=>
  refine j (λb=>if b=a then b8 (.l5 {cls:= .type "list",data:= .seq C.toArray} (.lst (L.map V.int)))else cp) (λb=>?_) (.inl (.inr ⟨{cls:= .type "list",data:= .seq C.toArray},GY rfl⟩)) (λb u z=>?_) (λb z=>?_) λ_=>hk
  ·by_cases I:b=a
   ·exact .inr ⟨_,_,GY I⟩
   ·exact .inl<|MQ I
  ·by_cases I:b=a
   ·have M:=(GY I).symm.trans z
    cases M;subst I;exact⟨S,by rw[mZ];exact Y,C,_,N,S⟩
   ·have M:=(MQ I).symm.trans z
    cases M
  ·by_cases I:b=a
   ·exact I
   ·exact absurd (MQ I) z
abbrev l3{K:mD}{h:d6}(_:K.In h):mD:=K
theorem VO{l:PySem.W.OpenLaw}{n k:Nat}{q:fy}{J:List Str}{M:(Str->Option di)->d6->Prop}{z:eW->d6->Prop}{d:DefRec}{K:Params->mD}{CX:eW->m6}{sp:eW->Sp}{x:Str}
 (hn:l.most=b8 n) (O:n<=ej) (R:d.params.defaults=[]) (U:i2 k sW)
 (hY : ∀(w:eW) (h:d6),z w h->(K w.params).In h)
 (F : ∀(w:eW) (t:GJ) (C:c8) (h:d6),(K w.params).In h->h.Ns iv t->t d.name=b8 (.ref C)->
   ∃S:l8,(∀(s:d0) (u:di),uj s S ⟨[u],[]⟩ [(x,u)])/\
    ∀base:d6,(K w.params).In base->base.Ns iv t->l7 l.prog w (K w.params) t base (CX w) k C S [x] (sp w))
 (a1 : ∀(w:eW) (H:Hp) (a:c8) (L:List Int),L.length<=n->ed H->el (K w.params) H a (L.map V.int)->sp w [.ref a] H (λv _=>v = .bl b9) λ_ _ _=>False)
 (a2 : ∀(w:eW) (H:Hp) (s:d0) (e:di) (Z:d0),CX w [] H s (λ_ _ _=>False) e Z->False) :
 PySem.W.WalkO q J M z l.row.toRowW d [] (λf vs=>PySem.call f vs):=by
 refine Att.WR hn R λw j i t mb C o pm cd y a vs L G Y ho hd X m p r B Q=>?_;have I:=hY w _ Y;obtain⟨S,P,A⟩:=F w t C _ I G.T.g m;exact YL I G.T.g G.T.b G.T.builtins G.T.nolimit Q p r (nc B O) U A P (λH E N=>a1 w H a L B E N) λH e Z=>a2 w H i e Z
theorem cP{l:PySem.W.OpenLaw}{n k:Nat}{q:fy}{B:List Str}{I:(Str->Option di)->d6->Prop}{z:eW->d6->Prop}{d:DefRec}{K:Params->mD}{CX:m6}{sp:mD->Sp}{x:Str}
 (Z:l.most=b8 n) (J:n<=ej) (M:d.params.defaults=[]) (O:i2 k sW)
 (R : ∀(w:eW) (h:d6),z w h->(K w.params).In h)
 (F : ∀(w:eW) (t:GJ) (L:c8) (h:d6),(K w.params).In h->h.Ns iv t->t d.name=b8 (.ref L)->
   ∃S:l8,(∀(s:d0) (u:di),uj s S ⟨[u],[]⟩ [(x,u)])/\
    ∀base:d6,(K w.params).In base->base.Ns iv t->l7 l.prog w (K w.params) t base CX k L S [x] (sp<|K w.params))
 (U : ∀(K:mD) (H:Hp) (a:c8) (C:List Int),C.length<=n->ed H->el K H a (C.map V.int)->sp K [.ref a] H (λv _=>v = .bl b9) λ_ _ _=>False)
 (Y : ∀(H:Hp) (s:d0) (e:di) (G:d0),CX [] H s (λ_ _ _=>False) e G->False) :
 PySem.W.WalkO q B I z l.row.toRowW d [] (λf vs=>PySem.call f vs):=
 VO (K:=K) (CX:=λ_=>CX) (sp:=λw=>sp<|K w.params) Z J M O R F (λw H a C b g i=>U (K w.params) H a C b g i) λ_ H s e G=>Y H s e G
noncomputable def yR(s:e7):Arguments:=match s with
 | .FunctionDef _ a _ _ _ _ _ _ _ _=>a
 | _=>{posonlyargs:=[],args:=[],vararg:=cp,kwonlyargs:=[],kw_defaults:=[],kwarg:=cp,defaults:=[]}
noncomputable def qL(s:e7):List e7:=match s with
 | .FunctionDef _ _ b _ _ _ _ _ _ _=>b
 | _=>[]
noncomputable def zL(s:e7):ep:=match s with
 | .FunctionDef _ _ _ _ _ _ a _ _ _=>a
 | _=>{kind:= .function,names:=[],isGenerator:=cq,isCoroutine:=cq}
abbrev m5:m6:=λ_ _ _ _ _ _=>False
abbrev E0:XK:=λ_ _ _=>False
theorem bu:KY m5 X E0:=λ_ _ _ _ _ _ _ h=>h.elim
structure r9(K:mD)(x qual:Str)(st:e7)(f:c8)(fd:l8):Prop where
 ex : ∃(oc:di) (od:Option c8) (kV doc pm:di) (an:Option c8) (Aj ct:di) (xt:Array (Option di)),
  fd=pA x qual (yR st) (qL st) (zL st) .none kV doc pm an Aj ct/\K.lookup f=b8 ⟨oc,od,.func fd,xt⟩/\rF K Aj qual=b9
 kp:pP K (.ref f)=b9
section
variable{P:fy}{w:eW}{K:mD}{mg:GJ}{base:d6}
theorem r9.ok{x qual:Str}{st:e7}{f:c8}{M:l8}{N L:List Str}{k:Nat}{sp:Sp}(F:r9 K x qual st f M)(S:tU N L (zL st))(len : ∀G H Q E,sp G H Q E->G.length=L.length)
 (z : ∀(C:di) (A:i4) (outer:List h8) (s:d0) (H:Hp) (G:List V) (Q:VK) (E:XK),i2 k (A.deeper<|envOfC qual (zL st) s.heap.objs.size f C)->sp G H Q E->
   ∃t,jn (WJ m5 P w K mg base N qual (zL st) f C A outer s H E).tJ (qL st) t/\t {nx:=λ_ O=>Q .ea O,rt:=Q} (vI N G) H):l7 P w K mg base m5 (k+1) f M L sp:=by
 obtain⟨g,i,kV,a,j,d,C,e,b,rfl,lk,B⟩:=F.ex;refine fP lk B S len λA outer s H G Q E I J=>?_;obtain⟨t,h,q⟩:=z C A outer s H G Q E I J;exact⟨t,h.tJ,q⟩
theorem bX{x qual:Str}{st:e7}{f:c8}{I:di}{J G:Option c8}{C:Array (Option di)}{kV z H t ct:di}(l:K.lookup f=b8 ⟨I,J,.func<|pA x qual (yR st) (qL st) (zL st) .none kV z H G t ct,C⟩)
 (c:rF K t qual=b9) (k:pP K (.ref f)=b9):r9 K x qual st f (pA x qual (yR st) (qL st) (zL st) .none kV z H G t ct):=⟨⟨I,J,kV,z,H,G,t,ct,C,rfl,l,c⟩,k⟩
end
def ei(H t:Hp):Prop:=∀b o,H b=b8 o->t b=b8 o
theorem ei.refl(H:Hp):ei H H:=λ_ _ h=>h
theorem ei.trans(a:ei H H1)(b:ei H1 H2):ei H H2:=λc o h=>b c o<|a c o h
theorem ei.free(e:ei H H')(h:H' l=Option.none):H l=Option.none:=by
 cases q:H l with
 | none=>rfl
 | some o=>
  rw[e l o q]at h;cases h
theorem ei.seq{K:mD}{H t:Hp}{a:c8}{xs:List V}(e:ei H t)(h:el K H a xs):el K t a xs:=by
 rcases h with(h | ⟨o,h⟩) | h
 ·exact .inl<|.inl<|e _ _ h
 ·exact .inl<|.inr ⟨o,e _ _ h⟩
 ·exact .inr h
noncomputable def wB(cells:List (Str×c8)):List (Str×m8)->List (Str×c8)->List (Str×c8)
 | [],acc=>acc
 | (n,k)::r,acc=>wB cells r<|if k==mY then (match cells.lookup n with | some c=>(n,c)::acc | none=>acc)else acc
theorem qZ(f:Str×m8->List (Str×c8)->Sem (ForInStep<|List<|Str×c8))
 (B : ∀name kind I,f (name,kind) I=if kind==mY then (do let a <- cellOf env name;pure (.yield ((name,a)::I)))else pure (.yield I)) :
 ∀(names:List (Str×m8)) (acc:List (Str×c8)),(∀n,(n,mY)∈names->∃c,env.cells.lookup n=b8 c)->
  forIn names acc f=(pure (wB env.cells names acc):Sem _)
 | [],acc,_=>by rw[List.forIn_nil];rfl
 | (n,k)::r,acc,h=>by
  rw[List.forIn_cons,B];have J : ∀n,(n,mY)∈r->∃c,env.cells.lookup n=b8 c:=λm b=>h m<|mQ _ b;unfold wB;by_cases z:(k==mY)=b9
  ·rw[GY z,GY z]
   have O:k=mY:=by simpa using z
   subst O;obtain⟨c,M⟩:=h n mM;have e:cellOf env n=pure c:=by unfold cellOf;rw[M]
   rw[e,M];exact qZ f B r _ J
  ·rw[MQ z,MQ z]
   exact qZ f B r acc J
theorem wc(h : ∀n,(n,mY)∈scope.names->∃c,env.cells.lookup n=b8 c) :
 closureFor scope env=pure (wB env.cells scope.names []):=by
 simp only[closureFor];rw[qZ (env:=env) _ (λb a z=>by cases hk:a==mY<;>simp[hk]) scope.names [] h];rfl
theorem qo
 (z:Q {scope:=scope,locals:=s.heap.objs.size,globals:=globals,cells:=l4 (s.heap.objs.size+1) scope.names cl,qual:=qual,func:=cp,code:=env.code,frame:=env.frame,builtins:=env.builtins}
   {s with heap:=rr (s.heap.push {cls:= .type "dict",data:= .dict #[]}) scope.names}) :
 wpAny M A (As scope globals cl [] qual cp .none (b8 env)) Q E s:=by
 simp only[As,Option.isSome_some,if_true];refine mE (wpAny_alloc ?_);refine mE (wpAny_layCells _ (λb a cells=>by cases A6:a==oy<;>simp[A6]) _ _ _ _ ?_);rw[show({s with heap:=s.heap.push {cls:= .type "dict",data:= .dict #[]}}:d0).heap.objs.size=s.heap.objs.size+1 from nN ..];exact mE (mL (mL z))
theorem JU : ∀{names:List (Str×m8)} {acc:List (Str×c8)},(n,c)∈wB cells names acc->(n,c)∈acc\/((n,mY)∈names/\cells.lookup n=b8 c)
 | [],acc,h=> .inl h
 | (m,k)::r,acc,h=>by
  unfold wB at h;rcases JU h with g | ⟨h1,h2⟩
  ·clear h
   by_cases z:(k==mY)=b9
   ·rw[GY z]at g
    have B:k=mY:=by simpa using z
    subst B;cases e:cells.lookup m with
    | none=>rw[e]at g;exact .inl g
    | some I=>
     rw[e]at g;rcases mJ.mp g with g | g
     ·cases g;exact .inr ⟨mM,e⟩
     ·exact .inl g
   ·rw[MQ z]at g;exact .inl g
  ·exact .inr ⟨mQ _ h1,h2⟩
theorem yM : ∀{names:List (Str×m8)} {acc:List (Str×c8)},((acc.lookup n).isSome=b9\/((n,mY)∈names/\(cells.lookup n).isSome=b9))->((wB cells names acc).lookup n).isSome=b9
 | [],acc,h=>by
  rcases h with h | ⟨h,_⟩
  ·exact h
  ·cases h
 | (m,k)::r,acc,h=>by
  unfold wB;apply yM;by_cases z:(k==mY)=b9
  ·rw[GY z]
   have I:k=mY:=by simpa using z
   subst I;cases e:cells.lookup m with
   | none=>
    rcases h with h | ⟨h1,h2⟩
    ·exact .inl h
    ·rcases mJ.mp h1 with h1 | h1
     ·cases h1;rw[e]at h2;cases h2
     ·exact .inr ⟨h1,h2⟩
   | some J=>
    dsimp only;by_cases B:n=m
    ·subst B;left;simp
    ·rcases h with h | ⟨h1,h2⟩
     ·left;rw[nv];split<;>simp_all
     ·rcases mJ.mp h1 with h1 | h1
      ·cases h1;exact absurd rfl B
      ·exact .inr ⟨h1,h2⟩
  ·rw[MQ z]
   rcases h with h | ⟨h1,h2⟩
   ·exact .inl h
   ·rcases mJ.mp h1 with h1 | h1
    ·cases h1;exact absurd rfl z
    ·exact .inr ⟨h1,h2⟩
theorem j3 : ∀{names:List (Str×m8)} {k:Nat} {acc:List (Str×c8)},(n,c)∈l4 k names acc->(n,c)∈acc\/(k<=c/\(n,oy)∈names)
 | [],_,_,h=> .inl h
 | (m,kd)::r,k,acc,h=>by
  unfold l4 at h;split at h
  ·rename_i z
   have B:kd=oy:=by simpa using z
   subst B;rcases j3 h with h | ⟨h1,h2⟩
   ·rcases mJ.mp h with h | h
    ·cases h;exact .inr ⟨mN _,mM⟩
    ·exact .inl h
   ·exact .inr ⟨by omega,mQ _ h2⟩
  ·rcases j3 h with h | ⟨h1,h2⟩
   ·exact .inl h
   ·exact .inr ⟨h1,mQ _ h2⟩
theorem qJ : ∀{names:List (Str×m8)} {k:Nat} {acc:List (Str×c8)},(∀p∈acc,∀q∈acc,p.2=q.2->p.1=q.1)->(∀p∈acc,p.2<k)->
 ∀p∈l4 k names acc,∀q∈l4 k names acc,p.2=q.2->p.1=q.1
 | [],_,_,h,_=>h
 | (m,kd)::r,k,acc,h,hl=>by
  unfold l4;split
  ·refine qJ (λp z q B e=>?_) (λp z=>?_)
   ·rcases mJ.mp z with rfl | z<;>rcases mJ.mp B with rfl | B
    ·rfl
    ·have I:k=q.2:=e
     exact absurd (I ▸ hl q B)<|oa _
    ·have I:p.2=k:=e
     exact absurd (I ▸ hl p z)<|oa _
    ·exact h p z q B e
   ·rcases mJ.mp z with rfl | z
    ·exact pG _
    ·exact nR<|hl p z
  ·exact qJ h hl
theorem yT : ∀{names:List (Str×m8)} {h:d6} {acc:List (Str×c8)} {n:Str} {c:c8},(n,c)∈l4 h.objs.size names acc->(n,c)∈acc\/(rr h names).IsCell c cp
 | [],_,_,_,_,hm=> .inl hm
 | (m,kd)::r,h,acc,n,c,hm=>by
  unfold l4 at hm;unfold rr;split at hm
  ·rename_i z
   rw[GY z];have e:h.objs.size+1=(h.push {cls:= .type "cell",data:= .cell cp}).objs.size:=(nN ..).symm;rw[e]at hm;rcases yT hm with hm | hm
   ·rcases mJ.mp hm with hm | hm
    ·cases hm
     have B:(h.push {cls:= .type "cell",data:= .cell cp}).IsCell h.objs.size cp:=⟨{cls:= .type "cell",data:= .cell cp},mX _ rfl,rfl⟩;exact .inr (B.keeps λb o q=>rd _ _ b o q)
    ·exact .inl hm
   ·exact .inr hm
  ·rename_i z
   rw[MQ z];exact yT hm
theorem xj{C:Type}{l:List (Str×C)}(t:(l.map (·.1)).Nodup) : ∀{n:Str} {a:C},(n,a)∈l->l.lookup n=b8 a:=by
 induction l with
 | nil=>intro n a h;cases h
 | cons p r z=>
  intro n a h;obtain⟨m,b⟩:=p;rw[nj,pO]at t;rw[nv];rcases mJ.mp h with h | h
  ·cases h;simp
  ·have B:(n==m)=cq:=by
    have:n≠m:=λe=>t.1 (by rw[<- e];exact nH.mpr ⟨(n,a),h,rfl⟩);simpa using this
   rw[B];exact z t.2 h
theorem xy(scope:ep)(env:h8)(x:Str):(n2 scope env).names.lookup x =
 (scope.names.lookup x).map λk=>if (k==mY && env.scope.kind == .function && env.kindOf x==b8 .cell)then oy else k:=by
 unfold n2;dsimp only;generalize scope.names=l
 induction l with
 | nil=>rfl
 | cons p r B=>
  obtain⟨n,k⟩:=p;rw[nj];cases hx:x==n with
  | true=>
   have e:x=n:=by simpa using hx
   subst e;rw[nv,nv];dsimp only;by_cases z:(k==mY && env.scope.kind == .function && env.kindOf x==b8 .cell)=b9
   ·rw[GY z,beq_self_eq_true];dsimp only[om];rw[GY z]
   ·rw[MQ z,beq_self_eq_true];dsimp only[om];rw[MQ z]
  | false=>
   have : ∀I,List.lookup x ((n,I)::(r.map λx=>match x with | (n,k)=>if (k==mY && env.scope.kind == .function && env.kindOf n==b8 .cell)=b9 then (n,oy)else (n,k)))=List.lookup x (r.map λx=>match x with | (n,k)=>if (k==mY && env.scope.kind == .function && env.kindOf n==b8 .cell)=b9 then (n,oy)else (n,k)):=λI=>by rw[nv,hx]
   rw[nv (k:=n),hx];dsimp only;split
   ·rw[this];exact B
   ·rw[this];exact B
noncomputable def ki(scope:ep)(env:h8)(L:c8):h8:=
 {scope:=n2 scope env,locals:=L,globals:=env.globals,cells:=l4 (L+1) scope.names<|wB env.cells scope.names [],qual:=env.qual,func:=cp,code:=env.code,frame:=env.frame,builtins:=env.builtins}
noncomputable def z6(X:Cx)(scope:ep)(z:List Str)(fp:List c8)(t:d0)(C:Hp):Cx:=
 {X with N:=z,hL:=t,tW:=C,env:=ki scope X.env<|t.heap.objs.size+1,outer:=X.stack,stack:=X.stack,ex:=fp,fn:=λx=>scope.names.lookup x==b8 .cell,pn:=[],xe:=λ_ _=>False}
structure n3(X:Cx)(scope:ep)(fr:List (Str×Nat)):Prop where
 kind:scope.kind = .function
 nd:(scope.names.map (·.1)).Nodup
 free : ∀p∈scope.names,p.2=mY->X.env.kindOf p.1=b8 .cell\/X.env.kindOf p.1=b8 .free
 fr : ∀p∈fr,scope.names.lookup p.1=b8 .free/\X.N[p.2]? = b8 p.1
noncomputable def Vk(own:List Str)(t:List (Str×Nat))(z:St):St:=own.map (λ_=>cp)++t.map λp=>(z[p.2]?).join
abbrev Je:h9:={cls:= .type "list",data:= .seq #[]}
abbrev VF:h9:={cls:= .type "dict",data:= .dict #[]}
theorem YO{X:Cx}{G:GW}{L:St}{H:Hp}{t:d0}{scope:ep}{own:List Str}{C:List (Str×Nat)}{fp:List c8}(I:Inv X G L H t)(ok:n3 X scope C)
 (Y : ∀b∈fp,Xj X G H b) (S : ∀b∈fp,∃o,t.heap.get? b=b8 o) :
 Inv (z6 X scope (own++C.map (·.1)) fp t H) [] (Vk own C L) (upd H t.heap.objs.size<|.lst []) {t with heap:=rr ((t.heap.push Je).push VF) scope.names}:=by
 have P:(t.heap.push Je).objs.size=t.heap.objs.size+1:=nN ..;have z2:((t.heap.push Je).push VF).objs.size=t.heap.objs.size+2:=by rw[nN,P]
 have M : ∀n c,(n,c)∈wB X.env.cells scope.names []->(n,mY)∈scope.names/\X.env.cells.lookup n=b8 c:=λn c h=>(JU h).resolve_left ⋯;have a6 : ∀n c,X.env.cells.lookup n=b8 c->c<t.heap.objs.size:=λn c h=>by obtain⟨v,q⟩:=I.cell n c h;exact q.lt
 have as : ∀p∈wB X.env.cells scope.names [],p.2<t.heap.objs.size+1+1:=λp J=>by exact nR<|nR<|a6 p.1 p.2 (M p.1 p.2 J).2
 have hC:(ki scope X.env<|t.heap.objs.size+1).cells=l4 (t.heap.objs.size+2) scope.names (wB X.env.cells scope.names []):=rfl;have a : ∀x c,(ki scope X.env<|t.heap.objs.size+1).cells.lookup x=b8 c->((x,mY)∈scope.names/\X.env.cells.lookup x=b8 c)\/(t.heap.objs.size+2<=c/\(x,oy)∈scope.names):=λx c h=>by
  rcases j3 (mem_of_lookup h)with h | h
  ·exact .inl<|M x c h
  ·exact .inr h
 have w : ∀x,(x,mY)∈scope.names->∃c,X.env.cells.lookup x=b8 c/\(ki scope X.env<|t.heap.objs.size+1).cells.lookup x=b8 c:=λx R=>by
  obtain⟨c,O⟩:=I.ok.has x<|ok.free (x,.free) R rfl;have l:((wB X.env.cells scope.names []).lookup x).isSome=b9:=yM<|.inr ⟨R,by rw[O];rfl⟩;have f:=pf scope.names (t.heap.objs.size+2) (wB X.env.cells scope.names [])<|.inr l;obtain⟨K,A⟩:=pW.mp f;refine⟨c,O,?_⟩;rcases a x K A with⟨_,q⟩ | ⟨_,q⟩
  ·rw[O]at q;cases q;exact A
  ·exact absurd ((xj ok.nd q).symm.trans (xj ok.nd R)) ⋯
 have keep : ∀b o,t.heap.get? b=b8 o->(rr ((t.heap.push Je).push VF) scope.names).get? b=b8 o:=λb o e=>
  rd _ _ b o (mF _<|mF _ e)
 have ac : ∀b∈fp,b<t.heap.objs.size:=λb B=>by obtain⟨o,e⟩:=S b B;exact mS e
 have fresh:H t.heap.objs.size=cp:=I.d7.fresh<|mN _;have E : ∀c,t.heap.objs.size<c->(upd H t.heap.objs.size<|.lst []) c=cp:=λc O=>by rw[zC (pb O)];exact I.d7.fresh<|sH O
 obtain⟨m0,Q⟩ : ∃m,(rr ((t.heap.push Je).push VF) scope.names).Ns (t.heap.objs.size+1) m:=by have q:=(Heap.Ns.new (t.heap.push Je) (.type "dict")).keeps (λb o e=>rd scope.names _ b o e);rw[P]at q;exact⟨_,q⟩
 refine⟨⟨I.ok.mod,ok.kind,I.ok.glob,I.ok.blt,Nat.le_succ _,λx y c l f=>?_,λx R=>?_,λx c hf h=>?_,I.ok.hd,I.ok.frames,.inl rfl,λb B=>⟨?_,λx c h z=>?_⟩,λb o e=>I.bs b o e,?_,λb o e B=>?_,λb B hs=>?_,I.stack,I.AB⟩,
  rfl,I.bare,Un.laid keep (mN _) fresh,⟨m0,Q,λi x v N d e3=>?_⟩,λx c h=>?_,?_,λx c h=>?_,λp J=>?_,?_,?_⟩
 ·have q:=qJ (names:=scope.names) (k:=t.heap.objs.size+2) (acc:=wB X.env.cells scope.names []) (λp J q hq e=>I.ok.inj p.1 q.1 p.2 (M _ _ J).2 (by rw[e];exact(M _ _ hq).2)) as
  exact q (x,c) (mem_of_lookup l) (y,c) (mem_of_lookup f) rfl
 ·have U:(n2 scope X.env).names.lookup x=b8 .cell\/(n2 scope X.env).names.lookup x=b8 .free:=R
  have:scope.names.lookup x=b8 .cell\/scope.names.lookup x=b8 .free:=by
   rw[xy]at U;cases e:scope.names.lookup x with
   | none=>rw[e]at U;simp at U
   | some k=>
    rw[e]at U;cases k<;>simp at U ⊢
  rcases this with h | h
  ·exact pW.mp<|pf scope.names _ _<|.inl h
  ·obtain⟨c,_,f⟩:=w x<|mem_of_lookup h;exact⟨c,f⟩
 ·have T:(scope.names.lookup x==b8 .cell)=b9:=hf
  have Z:scope.names.lookup x=b8 .cell:=by simpa using T
  rcases a x c h with⟨q,_⟩ | ⟨q,_⟩
  ·exact absurd ((xj ok.nd q).symm.trans Z) ⋯
  ·exact nc (nZ _ 2) q
 ·exact nt<|nR<|ac b B
 ·rcases a x c h with⟨_,q⟩ | ⟨q,_⟩
  ·exact(Y b B).2.2.2.2.1 x c q z
  ·exact absurd (mU (ac b B)<|nc (nZ _ 2)<|z ▸ q)<|oa _
 ·exact nc I.ok.ri I.sz
 ·rcases (Y b B).2.2.2.1 with q | q
  ·exact I.ok.ub b o e q
  ·exact absurd (mU (mS e)<|nc I.ok.ri q)<|oa _
 ·rcases mJ.mp (I.y1 b hs)with q | q
  ·exact(Y b B).2.1 q
  ·exact(Y b B).2.2.1 q
 ·have hi:i<(own++C.map (·.1)).length:=(mP.mp N).1
  by_cases j:i<own.length
  ·unfold Vk at d
   rw[nk (by simpa using j)]at d;simp[ny,j]at d
  ·have hj : ∃p,C[i - own.length]? = b8 p/\p.1=x/\(L[p.2]?).join=b8 v:=by
    unfold Vk at d;have W:(own++C.map (·.1))[i]? = b8 x:=N;rw[nu ⋯,ny]at W;rw[nu (by simpa using j),ny,mZ]at d;cases q:C[i - own.length]? with
    | none=>rw[q]at W;cases W
    | some p=>
     rw[q]at W d;exact⟨p,rfl,by simpa using W,by simpa using d⟩
   obtain⟨p,J,bb,g⟩:=hj;obtain⟨g1,g2⟩:=ok.fr p<|rM J;rw[bb]at g1 g2;have r:L[p.2]? = b8 (b8 v):=by
    cases q:L[p.2]? with
    | none=>rw[q]at g;cases g
    | some o=>rw[q]at g;simpa using g
   have F:=ok.free (x,.free) (mem_of_lookup g1) rfl;obtain⟨m,hn,hl⟩:=I.loc;obtain⟨u,ru,lk⟩:=hl p.2 x v g2 r (by rcases F with k | k;exact .inr<|.inl k;exact .inr<|.inr k);refine⟨u,ru,.inr ?_⟩;obtain⟨c,bi,bl⟩:=w x<|mem_of_lookup g1;have bm:t.heap.IsCell c (b8 u):=by
    rcases lk with⟨k,_⟩ | ⟨_,K,e,z⟩
    ·rcases F with k' | k'<;>rw[k]at k'<;>cases k'
    ·rw[bi]at e;cases e;exact z
   refine⟨?_,c,bl,bm.keeps keep⟩;show(n2 scope X.env).names.lookup x=b8 .cell\/(n2 scope X.env).names.lookup x=b8 .free;rw[xy,g1];dsimp only[om];split
   ·exact .inl rfl
   ·exact .inr rfl
 ·rcases j3 (mem_of_lookup h)with q | q
  ·obtain⟨v,s⟩:=I.cell x c (M x c q).2
   exact⟨v,s.keeps keep⟩
  ·have q2:=mem_of_lookup h
   have q3:(x,c)∈l4 ((t.heap.push Je).push VF).objs.size scope.names (wB X.env.cells scope.names []):=by rw[z2];exact q2
   rcases yT q3 with q4 | q4
   ·obtain⟨v,s⟩:=I.cell x c (M x c q4).2
    exact⟨v,s.keeps keep⟩
   ·exact⟨cp,q4⟩
 ·exact E _<|pG _
 ·rcases a x c h with⟨_,q⟩ | ⟨q,_⟩
  ·rw[zC (nt<|a6 x c q)];exact I.ov x c q
  ·exact E c<|mU (nR<|pG _) q
 ·exact absurd (show p∈([]:GW)from J) ⋯
 ·refine I.d7.laid keep (mN _) ⟨oO _,[],0,.nil,?_⟩
  exact rd _ _ _ _<|mF _<|mX _ rfl
 ·show(Vk own C L).length=(own++C.map (·.1)).length
  simp[Vk]
theorem xq(I:Nat->d0->Prop)
 (Y : ∀n s,I n s->wpAny (d4 prog w) A (uI it) (λr z=>match r with
   | none=>R (.ok .next) z
   | some v=>wpAny (d4 prog w) A (t9 target it v) (λ_ z=>wpAny (d4 prog w) A (n6 target env v) (λ_ J=>
    wpAny (d4 prog w) A (forIn ifs b9 λc r=>if r=b9 then do let ok <- t8 c env (d1 c env);pure (rz ok)else pure (rz r)) (λok B=>
     if ok=b9 then wpAny (d4 prog w) A (d1 elt env) (λx M=>
      wpAny (d4 prog w) A (call (.builtin "list.append") [acc,x]) (λ_ O=>∃m,m<n/\I m O) (λ_ _=>False) M) (λ_ _=>False) B
     else ∃m,m<n/\I m B) (λ_ _=>False) J) (λ_ _=>False) z) (λ_ _=>False) z) (λ_ _=>False) s)
 (n:Nat) (h:I n s) :
 codeAny (d4 prog w) A (.compLoop (.ListComp elt [⟨target,iter,ifs,0⟩] scope pos) 0 it acc env) R s:=by
 refine codeAny_loop rfl I (λn s g=>?_) n h;show wpAny _ A ((compTurn (.ListComp elt [⟨target,iter,ifs,0⟩] scope pos) 0 it acc env).onRaise (λx=>do noteFrame x env;theTreesLotGoes x)) _ _ s;refine wpAny_noted ?_;rw[compTurn_list];refine mE<|wpAny_standAt<|mE<|oC (Y n s g) (λr z U=>?_) λ_ _ a=>a.elim;cases r with
 | none=>exact mL U
 | some v=>
  refine mE<|oC U (λ_ i f=>?_) λ_ _ a=>a.elim;refine mE<|oC f (λ_ J b=>mE<|oC b (λok B W=>?_) λ_ _ a=>a.elim) λ_ _ a=>a.elim;cases ok with
  | false=>exact mL ⟨rfl,W⟩
  | true=>
   exact mE<|mE<|oC W (λx M d=>mE<|oC d (λ_ O e=>mL<|mL ⟨rfl,e⟩) λ_ _ a=>a.elim) λ_ _ a=>a.elim
noncomputable def cN(X:Cx)(z:List dV)(t:TT):Prop:=
 ∀(a:GW) (s:d0) (b:St) (H:Hp) (Q:Bool->Hp->Prop),Inv X a b H s->t b H Q->
  wpAny (d4 X.prog X.w) X.A (forIn z b9 λc r=>if r=b9 then do let ok <- t8 c X.env (d1 c X.env);pure (rz ok)else pure (rz r)) (TP X a b Q) X.xe s
def eE:TT:=λ_ H Q=>Q b9 H
theorem JQ:cN X [] eE:=λ_ _ _ H _ I h=>wpAny_tests_nil ⟨H,I,h⟩
noncomputable def CW(J:It)(g:TG)(C:TT)(t:TE)(D:c8)(Q:VK)(W:Nat->Nat->List V->St->Hp->Prop):Prop:=
 ∀i m a f H,W i m a f H->H D=b8 (.lst a)/\((J.stop i H/\Q (.ref D) H)\/(J.go i H/\a.length<ej/\∀x e,J.o4 i H x e->g x f e λz h=>C z h λb B=>
  if b=b9 then t z B λv I=>I D=b8 (.lst a)/\∃d,d<m/\W (i+1) d (a++[v]) z (upd I D<|.lst<|a++[v])else ∃d,d<m/\W (i+1) d a z B))
noncomputable def Y9(X:Cx)(t:GW)(H:Hp)(L:c8):Prop:=
 H L=cp/\L≠X.env.locals/\X.hL.heap.objs.size<=L/\(∀x c,X.env.cells.lookup x=b8 c->c≠L)/\∀p∈X.pn++t,p.1≠L
theorem Y2
 (hc:X.calm=b9) (I:Inv X pins σ H2 s2) (ok:n3 X scope fr) (T:Turn X.prog X.w X.K tg J fp it tn) (st:tn 0 s2.heap) (O : ∀b∈fp,Xj X pins H2 b)
 (hg:PG (z6 X scope (own++fr.map (·.1)) fp s2 H2) tg g) (ht:cN (z6 X scope (own++fr.map (·.1)) fp s2 H2) ifs tt) (he:PE (z6 X scope (own++fr.map (·.1)) fp s2 H2) elt te)
 (hW : ∀D,H2 D=cp->∃W:Nat->Nat->List V->St->Hp->Prop,(∃m,W 0 m [] (Vk own fr σ) (upd H2 D<|.lst []))/\CW J g tt te D Q W) :
 wpAny (d4 X.prog X.w) X.A (newList []) (λacc G=>wpAny (d4 X.prog X.w) X.A (As scope X.env.globals (wB X.env.cells scope.names []) [] X.env.qual cp .none (b8 X.env)) (λa7 H=>
  codeAny (d4 X.prog X.w) X.A (.compStart (.ListComp elt [⟨tg,iter,ifs,0⟩] scope pos) 0 (.ref it) acc {a7 with scope:=n2 scope X.env})
   (λr C=>(∃f,r = .ok f)/\∃D t,acc = .ref D/\Inv X pins σ t C/\Q (.ref D) t/\(∃m,C.heap.Ns a7.locals m)/\Y9 X pins t a7.locals) H) E G) E s2:=by
 have aw : ∀b∈fp,∃o,s2.heap.get? b=b8 o:=λb B=>by obtain⟨o,e,_⟩:=T.obj 0 _ st b B;exact⟨o,e⟩
 have S:=YO (own:=own) I ok O aw;obtain⟨W,⟨m0,w0⟩,cw⟩:=hW _ I.fresh;refine nT<|qo ?_;have z1:(s2.heap.push Je).objs.size=s2.heap.objs.size+1:=nN ..;show codeAny _ _ (.compStart _ 0 (.ref it) (.ref s2.heap.objs.size) {scope:=n2 scope X.env,locals:=(s2.heap.push Je).objs.size,globals:=X.env.globals,cells:=l4 ((s2.heap.push Je).objs.size+1) scope.names<|wB X.env.cells scope.names [],qual:=X.env.qual,func:=cp,code:=X.env.code,frame:=X.env.frame,builtins:=X.env.builtins})
  (λr C=>(∃f,r = .ok f)/\∃D t,nJ s2.heap.objs.size = .ref D/\Inv X pins σ t C/\Q (.ref D) t/\(∃m,C.heap.Ns (s2.heap.push Je).objs.size m)/\Y9 X pins t (s2.heap.push Je).objs.size) {s2 with heap:=rr ((s2.heap.push Je).push VF) scope.names}
 rw[z1];have ax:tn 0 (rr ((s2.heap.push Je).push VF) scope.names):=T.keep 0 _ _ st λb _ o e=>rd _ _ b o<|mF _<|mF _ e;have c5 : ∀b∈fp,b<s2.heap.objs.size:=λb B=>by obtain⟨o,e⟩:=aw b B;exact mS e
 have a8 : ∀{t:Hp},(∀b∈fp,t b=cp)->∀b∈fp,Xj (z6 X scope (own++fr.map (·.1)) fp s2 H2) [] t b:=λhn b B=>
  ⟨hn b B,(S.ok.uA b B).1,S.ok.t6 b B,.inl B,(S.ok.uA b B).2,λp hp=>absurd (show p∈([]:GW)from hp) ⋯⟩
 have b0:codeAny (d4 X.prog X.w) X.A (.compLoop (.ListComp elt [⟨tg,iter,ifs,0⟩] scope pos) 0 (.ref it) (.ref s2.heap.objs.size)<|ki scope X.env<|s2.heap.objs.size+1)
  (λr C=>(∃f,r = .ok f)/\∃D t,nJ s2.heap.objs.size = .ref D/\Inv X pins σ t C/\Q (.ref D) t/\(∃m,C.heap.Ns (s2.heap.objs.size+1) m)/\Y9 X pins t (s2.heap.objs.size+1)) {s2 with heap:=rr ((s2.heap.push Je).push VF) scope.names}:=by
  refine xq (λn C=>∃i s y t,Inv (z6 X scope (own++fr.map (·.1)) fp s2 H2) [] y t C/\tn i C.heap/\(∀b∈fp,t b=cp)/\W i n s y t) ?_ m0
   ⟨0,[],_,_,S,ax,λb B=>by rw[zC (nt<|c5 b B)];exact(O b B).1,w0⟩
  rintro n s3 ⟨i,s,a,N,I3,j,b7,w3⟩;obtain⟨hD,c7⟩:=cw i n s a N w3;rcases c7 with⟨l,qn⟩ | ⟨go,hz,step⟩
  ·refine d3 (T.done (z6 X scope (own++fr.map (·.1)) fp s2 H2) rfl rfl rfl hc i [] s3 a N _ I3 (a8 b7) j l) λr s4 M=>?_
   obtain⟨hr,R⟩:=M;subst hr;refine⟨⟨_,rfl⟩,_,N,rfl,I.AW (ch:=fp) R.os R.base R.d7 R.bare<|λb B=>⟨(O b B).2.2.2.1,(O b B).2.1,(O b B).2.2.2.2.1,(O b B).2.2.2.2.2⟩,qn,?_,R.free,?_,?_,?_,?_⟩
   ·obtain⟨m,hn,_⟩:=R.loc
    exact⟨m,hn⟩
   ·exact pb<|nR I.lt
   ·exact Nat.le_succ_of_le I.sz
   ·intro x c e z
    obtain⟨v,q⟩:=I.cell x c e;exact absurd (nR q.lt) (by rw[z];exact oa _)
   ·intro p hp z
    exact absurd (nR<|mS (I.pin p hp).1) (by rw[z];exact oa _)
  ·refine d3 (T.item (z6 X scope (own++fr.map (·.1)) fp s2 H2) rfl rfl rfl hc i [] s3 a N _ I3 (a8 b7) j go) λr s4 M=>?_
   obtain⟨u,hr,h4⟩:=M;subst hr;refine d3 h4 λ_ s5 M=>?_;obtain⟨x,H5,I5,r5,y5,am,cl⟩:=M;have cm:=I5.pinned (a8 cl)<|T.obj _ _ am;refine d3 (hg _ s5 a H5 x u _ cm r5<|step x H5 y5) λ_ s6 M=>?_;obtain⟨h,H6,I6,q6⟩:=M;refine d3 (ht _ s6 h H6 _ I6 q6) λb s7 M=>?_;obtain⟨H7,Z,q7⟩:=M;have after : ∀{L:St} {P:Hp} {U:d0},Inv (z6 X scope (own++fr.map (·.1)) fp s2 H2) ([]++w9 fp s5.heap) L P U->tn (i+1) U.heap/\∀b∈fp,P b=cp:=λ{L P U} Y=>by refine⟨T.keep _ _ _ am λb B o e=>(Y.pin (b,o)<|nB _<|nB _<|xi B e).1,λb B=>?_⟩;obtain⟨o,e,d⟩:=T.obj _ _ am b B;exact(Y.pin (b,o)<|nB _<|nB _<|xi B e).2.1
   cases b with
   | false=>
    rw[MQ mW]at q7 ⊢;obtain⟨m',hm,w7⟩:=q7;exact⟨m',hm,i+1,s,h,H7,Z.uh,(after Z).1,(after Z).2,w7⟩
   | true=>
    rw[GY rfl]at q7 ⊢;refine d3 (he _ s7 h H7 _ Z q7) λv8 U M=>?_;obtain⟨x8,P,Y,r8,be,m',hm,w8⟩:=M;obtain⟨z8,bg,n8,rv,d8,e8⟩:=Y.Ap be;refine px F.slot_list_append ⟨_,e8,rfl⟩ F.entry_list_append (F.args_list_append_2 _ _) (PySem.list_append _ bg.toArray n8 v8<|by rw[mT];omega) ⟨e8,?_⟩;have I9:=Y.Ao (its':=bg++[v8]) (f:=(·.push v8)) (t':=U.toks) be e8 ⋯ (rv.append<|.cons r8 .nil) (by rw[nz,rG];omega);exact⟨m',hm,i+1,s++[x8],h,_,I9.uh,(after I9).1,(after I9).2,w8⟩
 exact codeAny_compStart_list b0<|T.self _ 0 _ _ _ ax b0
noncomputable def Yf(G:TI)(own:List Str)(t:List (Str×Nat))(g:TG)(C:TT)(z:TE):TE:=λb H Q=>G b H λJ a=>∀D,a D=cp->
 ∃W:Nat->Nat->List V->St->Hp->Prop,(∃m,W 0 m [] (Vk own t b) (upd a D<|.lst []))/\CW J g C z D Q W
section
variable{X:Cx}{scope:ep}{own:List Str}{fr:List (Str×Nat)}{elt tg iter:dV}{ifs:List dV}{pos:d9}{wi:TI}{g:TG}{tt:TT}{te:TE}
theorem J4
 (z:X.calm=b9) (ok:n3 X scope fr) (hi:PI X tg iter wi) (B : ∀fp C t,PG (z6 X scope (own++fr.map (·.1)) fp C t) tg g)
 (M : ∀fp C t,cN (z6 X scope (own++fr.map (·.1)) fp C t) ifs tt) (O : ∀fp C t,PE (z6 X scope (own++fr.map (·.1)) fp C t) elt te)
 (I:Inv X pins σ H s) (h:Yf wi own fr g tt te σ H Q)
 (U : ∀D G S L,Inv X pins σ G S->Q (.ref D) G->(∃m,S.heap.Ns L m)->Y9 X pins G L->
   compPost (d4 X.prog X.w) X.A X.xe use R (.ref D) L (.ok .next) S)
 (W : ∀x,oe iter X.env x=pure x:=by intro _;rfl) :
 wpAny (d4 X.prog X.w) X.A (comprehension (.ListComp elt [⟨tg,iter,ifs,0⟩] scope pos) scope X.env (firstIterPos [⟨tg,iter,ifs,0⟩] pos) (newList []) cq (d1 iter X.env) use) R X.xe s:=by
 refine wpAny_comprehension_free rfl W (wc λn a=>I.ok.has n<|ok.free (n,.free) a rfl) ok.kind (λx Y e=>by rw[<- e];exact xj ok.nd<|show(x.1,x.2)∈scope.names from Y) ?_;refine d3 (hi pins s σ H _ I h) λv s1 o=>d3 o λan C p=>?_;obtain⟨it,fp,tn,J,t,e,d,T,i,f2,N⟩:=p;subst e;refine d3 (Y2 (own:=own) (Q:=Q) (E:=X.xe) z d ok T i f2 (B fp C t) (M fp C t) (O fp C t) N) λacc s3 u=>d3 u λj s4 F=>sP F λr S K=>?_;obtain⟨⟨f,P⟩,D,G,l,b,q,a,y⟩:=K;subst P;subst l;have Z:=U D G S j.locals b q a y;cases use<;>exact Z
theorem X7(z:X.calm=b9)(ok:n3 X scope fr)(hi:PI X tg iter wi)(B : ∀fp C t,PG (z6 X scope (own++fr.map (·.1)) fp C t) tg g)
 (J : ∀fp C t,cN (z6 X scope (own++fr.map (·.1)) fp C t) ifs tt) (M : ∀fp C t,PE (z6 X scope (own++fr.map (·.1)) fp C t) elt te)
 (O : ∀x,oe iter X.env x=pure x:=by intro _;rfl) :
 PE X (.ListComp elt [⟨tg,iter,ifs,0⟩] scope pos) (Yf wi own fr g tt te):=by
 intro a s w H Q I h;rw[eval_ListComp];refine J4 (use:=cp) z ok hi B J M I h (λD d l L R q j y=>?_) O;obtain⟨m,i⟩:=j;obtain⟨U,W,Y,p,r⟩:=y;refine⟨m,i,λu n=>⟨.ref D,d,R.turned (t':=l.toks) (it:=L) (λb o f e=>n.extBut b o f e) U W (.inr Y) p r,rfl,q⟩⟩
theorem QR(B:X.N.Nodup)(J:X.N[i]? = b8 y)(M:Loc X.env.scope y)(O:X.fn y=b9\/X.env.scope.names.lookup y=b8 .local)
 (U:X.calm=b9) (ok:n3 X scope fr) (hi:PI X tg iter wi) (W : ∀fp C t,PG (z6 X scope (own++fr.map (·.1)) fp C t) tg g)
 (Y : ∀fp C t,cN (z6 X scope (own++fr.map (·.1)) fp C t) ifs tt) (G : ∀fp C t,PE (z6 X scope (own++fr.map (·.1)) fp C t) elt te)
 (S : ∀x,oe iter X.env x=pure x:=by intro _;rfl) :
 PS X (.Assign [.Name y py] (.ListComp elt [⟨tg,iter,ifs,0⟩] scope pos) spos) (K2 (Yf wi own fr g tt te)<|kG i):=by
 have z : ∃b:Bool,p8 (.ListComp elt [⟨tg,iter,ifs,0⟩] scope pos) (b8 (.Name y py)) spos.line X.env=pure b:=⟨_,rfl⟩;obtain⟨b,z⟩:=z;cases b with
 | false=>
  have E:y3 [.Name y py] (.ListComp elt [⟨tg,iter,ifs,0⟩] scope pos) spos.line X.env=p8 (.ListComp elt [⟨tg,iter,ifs,0⟩] scope pos) (b8 (.Name y py)) spos.line X.env:=rfl;exact XY (X7 U ok hi W Y G S) (X4 B J M O) (by rw[E];exact z)
 | true=>
  intro d s σ H D I h;rw[exec_Assign_Name_used _ _ _ _ z];refine mE<|wpAny_standAt<|mE ?_;show wpAny _ X.A (do let _ <- comprehension (.ListComp elt [⟨tg,iter,ifs,0⟩] scope pos) scope X.env _ (newList []) cq (d1 iter X.env) (b8 (n6 (.Name y py) X.env))) _ _ s;refine mE<|d3 (J4 (R:=λ_ f=>SP X d D .next f) (use:=b8 (n6 (.Name y py) X.env)) U ok hi W Y G I h (λj H' f L n q P yg=>?_) S) λ_ f q=>mL<|mL q;obtain⟨T,l,Z,y4,y5⟩:=yg;obtain⟨m,K⟩:=P;show wpAny _ _ (n6 (.Name y py) X.env<|.ref j) _ _ _;refine Bo<|wJ n B J M (v:= .ref j) rfl (λp r u=>?_) O;obtain⟨a,Q,F⟩:=u;have w:L≠a:=by
   rcases F with e | e
   ·rw[e];exact l
   ·exact nW<|y4 _ _ e
  refine⟨m,K.sameBut Q w,λh' as=>⟨_,_,r.turned (t':=p.toks) (it:=L) (λb o z e=>as.extBut b o z e) T l (.inr Z) y4 y5,q⟩⟩
end
inductive Sk where
 | L | T
 deriving DecidableEq
end L2
namespace DL
open PySem L2
inductive D where
 | ea | bl (b:Bool) | int (i:Int) | str (x:Str) | tup (xs:List D) | lst (xs:List D)
 | hA (ks vs:List D)
 | f7 (ks:List (List Int)) (vs:List D)
inductive Cell where
 | no | val (d:D) | own (ds:List D) | nest (rows:List (List D))
abbrev Ctx:=List Cell
abbrev CO (a : Type) := Ctx -> Option a
def lim:Nat:=2500
noncomputable def jG:D->Option (Sk×List D)
 | .tup a=>b8 (.T,a)
 | .lst a=>b8 (.L,a)
 | _=>cp
def zO(f:CO D)(γ:Ctx):Option (Sk×List D):=(f γ).bind jG
def wA(f:CO (List D))(γ:Ctx):Option D:=(f γ).map D.lst
noncomputable def zV(f:CO (List D))(γ:Ctx):Option (Sk×List D):=(f γ).map λa=>(Sk.L,a)
def KG:Option Cell->Option D
 | some (.val d)=>b8 d
 | _=>cp
noncomputable def kI:Option Cell->Option (Sk×List D)
 | some (.val d)=>jG d
 | some (.own ds)=>b8 (.L,ds)
 | _=>cp
def zf(i:Nat)(γ:Ctx):Option D:=KG γ[i]?
def zk(i:Nat)(γ:Ctx):Option (Sk×List D):=kI γ[i]?
noncomputable def zh(d:D):CO D:=λ_=>b8 d
noncomputable def zv(F:D->D->Option D)(t z:CO D)(γ:Ctx):Option D:=(t γ).bind λx=>(z γ).bind λy=>F x y
def m9:D->Option Bool
 | .bl b=>b8 b
 | _=>cp
def hH:D->Option Int
 | .int i=>b8 i
 | _=>cp
def sB(f:CO D)(γ:Ctx):Option Bool:=(f γ).bind m9
noncomputable def Ym(f g:CO Bool)(γ:Ctx):Option Bool:=(f γ).bind λb=>if b=b9 then g γ else b8 cq
noncomputable def xr(f g:CO Bool)(γ:Ctx):Option Bool:=(f γ).bind λb=>if b=b9 then b8 b9 else g γ
def zW(f:CO Bool)(γ:Ctx):Option Bool:=(f γ).map λb=> !b
noncomputable def XF(f g:CO D)(γ:Ctx):Option D:=((f γ).bind m9).bind λb=>if b=b9 then g γ else b8 (.bl cq)
noncomputable def Bg(f g:CO D)(γ:Ctx):Option D:=((f γ).bind m9).bind λb=>if b=b9 then b8 (.bl b9)else g γ
noncomputable def cQ(f:CO D)(γ:Ctx):Option D:=((f γ).bind m9).map λb=> .bl (!b)
noncomputable def WZ(c:CO Bool)(f g:CO D)(γ:Ctx):Option D:=(c γ).bind λb=>if b=b9 then f γ else g γ
def zB:CO (List D):=λ_=>b8 []
noncomputable def zc(f:CO D)(g:CO (List D))(γ:Ctx):Option (List D):=(f γ).bind λx=>(g γ).map λr=>x::r
noncomputable def yZ(f:CO (List D))(γ:Ctx):Option D:=(f γ).bind λa=>if a.length<=lim then b8 (.tup a)else cp
noncomputable def xT(f:CO (List D))(γ:Ctx):Option (List D):=(f γ).bind λa=>if a.length<=lim then b8 a else cp
inductive Res where
 | val (d:D) | own (ds:List D)
inductive Fl where
 | next (γ:Ctx) | brk (γ:Ctx) | cont (γ:Ctx) | ret (r:Res)
def jd(γ:Ctx):Option Fl:=b8 (.next γ)
noncomputable def zG(F G:CO Fl):CO Fl:=λb=>(F b).bind λz=>match z with
 | .next a=>G a
 | f=>b8 f
noncomputable def jv(f:CO D)(γ:Ctx):Option Fl:=(f γ).map λd=> .ret (.val d)
noncomputable def XB(f:CO (List D))(γ:Ctx):Option Fl:=(f γ).map λd=> .ret (.own d)
noncomputable def Jp:Option Cell->Option Fl
 | some (.val d)=>b8 (.ret<|.val d)
 | some (.own ds)=>b8 (.ret<|.own ds)
 | _=>cp
def lq(i:Nat)(γ:Ctx):Option Fl:=Jp γ[i]?
def mn(γ:Ctx):Option Fl:=b8 (.brk γ)
def lF(γ:Ctx):Option Fl:=b8 (.cont γ)
def qP:CO Fl:=λ_=>cp
noncomputable def e5(k:CO Bool)(F G:CO Fl)(γ:Ctx):Option Fl:=(k γ).bind λb=>if b=b9 then F γ else G γ
noncomputable def j8(i:Nat)(f:CO D)(γ:Ctx):Option Fl:=(f γ).map λd=> .next (γ.set i<|.val d)
noncomputable def yu(i:Nat)(f:CO (List D))(γ:Ctx):Option Fl:=(f γ).map λa=> .next (γ.set i<|.own a)
def aA(f:CO D)(γ:Ctx):Option Fl:=(f γ).map λ_=> .next γ
noncomputable def qt:Option Cell->Option (List D)
 | some (.own ds)=>b8 ds
 | _=>cp
noncomputable def jk(i:Nat)(f:CO D)(γ:Ctx):Option Fl:=(qt γ[i]?).bind λa=>(f γ).bind λd=>if a.length<lim then b8 (.next<|γ.set i<|.own<|a++[d])else cp
noncomputable def jj(n:Nat)(t:List D):Ctx:=t.map Cell.val++mI (n - t.length) Cell.no
noncomputable def jh(n:Nat)(F:CO Fl)(ds:List D):Option Res:=(F<|jj n ds).bind λz=>match z with
 | .ret r=>b8 r
 | .next _=>b8 (.val .ea)
 | _=>cp
def eZ:Res->D
 | .val d=>d
 | .own a=> .lst a
noncomputable def zu(F:List D->Option Res)(g:CO (List D))(γ:Ctx):Option D:=(g γ).bind λa=>(F a).map eZ
def eY:Res->Option (List D)
 | .own a=>b8 a
 | _=>cp
noncomputable def yz(F:List D->Option Res)(g:CO (List D))(γ:Ctx):Option (List D):=(g γ).bind λa=>(F a).bind eY
noncomputable def xV(lo:Int)(n:Nat):List D:=(mG n).map λ(i:Nat)=>D.int<|lo+(i:Int)
noncomputable def K1(t z:List D):List D:=(t.zip z).map λp=>D.tup [p.1,p.2]
noncomputable def zQ(f:CO (Sk×List D))(γ:Ctx):Option (List D):=(f γ).map (·.2)
def inR(i:Int):Bool:=decide<|i.natAbs<2 ^ 62
noncomputable def zT(f:CO D)(γ:Ctx):Option (List D):=((f γ).bind hH).bind λn=>if inR n=b9 then b8 (xV 0 n.toNat)else cp
noncomputable def eS(f g:CO D)(γ:Ctx):Option (List D):=((f γ).bind hH).bind λm=>((g γ).bind hH).bind λn=>if inR m=b9/\inR n=b9 then b8 (xV m (n - m).toNat)else cp
noncomputable def WY(f g:CO D)(γ:Ctx):Option (List D):=((f γ).bind jG).bind λm=>((g γ).bind jG).map λn=>K1 m.2 n.2
inductive Tg where
 | nm (i:Nat) | tp (is:List Nat)
noncomputable def jB:List Nat->List D->Ctx->Ctx
 | i::is,d::ds,γ=>jB is ds<|γ.set i<|.val d
 | _,_,γ=>γ
noncomputable def qB:Tg->D->CO Ctx
 | .nm i,d,γ=>b8 (γ.set i<|.val d)
 | .tp is,.tup ds,γ=>if ds.length=is.length then b8 (jB is ds γ)else cp
 | _,_,_=>cp
noncomputable def kg(T:Tg)(F:CO Fl):List D->CO Fl
 | [],a=>b8 (.next a)
 | d::b,a=>(qB T d a).bind λB=>(F B).bind λI=>match I with
  | .next z=>kg T F b z
  | .cont z=>kg T F b z
  | .brk z=>b8 (.next z)
  | .ret r=>b8 (.ret r)
noncomputable def wQ(t:CO (List D))(T:Tg)(F:CO Fl)(γ:Ctx):Option Fl:=(t γ).bind λa=>kg T F a γ
def yG:Cell->Cell
 | .own _=> .no
 | .nest _=> .no
 | c=>c
noncomputable def qb(n:Nat)(t:List Nat)(γ:Ctx):Ctx:=mI n Cell.no++t.map λj=>yG<|γ[j]?.getD .no
noncomputable def zH(T:Tg)(k:CO Bool)(f:CO D)(γ:Ctx):List D->Option (List D)
 | []=>b8 []
 | d::ds=>(qB T d γ).bind λz=>(k z).bind λb=>if b=b9 then (f z).bind λe=>(zH T k f γ ds).map λr=>e::r else zH T k f γ ds
noncomputable def zN(t:CO (List D))(T:Tg)(n:Nat)(z:List Nat)(k:CO Bool)(f:CO D)(γ:Ctx):Option (List D):=(t γ).bind λa=>if a.length<=lim then zH T k f (qb n z γ) a else cp
def jq:CO Bool:=λ_=>b8 b9
def Tg.idx:Tg->List Nat
 | .nm i=>[i]
 | .tp is=>is
noncomputable def dI(g:Int->Int->D):D->D->Option D
 | .int i,.int j=>b8 (g i j)
 | _,_=>cp
noncomputable def t5(c:Int->Int->Bool)(g:Int->Int->D):D->D->Option D
 | .int i,.int j=>if c i j=b9 then b8 (g i j)else cp
 | _,_=>cp
def cn:D->D->Option D:=dI λi j=> .int (i - j)
noncomputable def ZG(i j:Int):Bool:=decide (i.natAbs<2 ^ 64) || decide (j.natAbs<2 ^ 64)
noncomputable def cv(_ j:Int):Bool:=decide (0<j) && decide (j.natAbs<1073741824)
def J2:D->D->Option D:=t5 cv λi j=> .int (i/j)
def dH(_ j:Int):Bool:=decide<|0<j
def qR:D->D->Option D:=t5 dH λi j=> .int (i%j)
noncomputable def cu(i j:Int):Bool:=decide (0<=j) && decide (j.natAbs<=1000000) && decide (i.natAbs<2 ^ 64)
def WI:D->D->Option D:=t5 cu λi j=> .int (i ^ j.toNat)
def tE:D->D->Option D:=dI λi j=> .bl (decide<|i<j)
def n9:D->D->Option D:=dI λi j=> .bl (decide<|i<=j)
def n7:D->D->Option D:=dI λi j=> .bl (decide<|j<i)
def tD:D->D->Option D:=dI λi j=> .bl (decide<|j<=i)
noncomputable def qf:D->D->Option D
 | .int i,.int j=>b8 (.int<|i+j)
 | .tup xs,.tup ys=>if xs.length+ys.length<=lim then b8 (.tup<|xs++ys)else cp
 | _,_=>cp
noncomputable def yS:D->D->Option D
 | .int i,.int j=>if ZG i j=b9 then b8 (.int<|i*j)else cp
 | .tup xs,.int j=>if xs.length*j.toNat<=lim/\inR j=b9 then b8 (.tup (mI j.toNat xs).flatten)else cp
 | _,_=>cp
noncomputable def lG(f g:CO (Sk×List D))(γ:Ctx):Option (List D):=(f γ).bind λa=>(g γ).bind λb=>
 match a.1,b.1 with
 | .L,.L=>if a.2.length+b.2.length<=lim then b8 (a.2++b.2)else cp
 | _,_=>cp
noncomputable def lr(f:CO (Sk×List D))(g:CO D)(γ:Ctx):Option (List D):=(f γ).bind λa=>((g γ).bind hH).bind λj=>
 match a.1 with
 | .L=>if a.2.length*j.toNat<=lim/\inR j=b9 then b8 (mI j.toNat a.2).flatten else cp
 | _=>cp
noncomputable def g5(n:Nat)(i:Int):Option Nat:=if 0<=i/\i<n then b8 i.toNat else if i<0/\0<=i+n then b8 (i+n).toNat else cp
noncomputable def dk(f:CO (Sk×List D))(g:CO D)(γ:Ctx):Option D:=(f γ).bind λa=>((g γ).bind hH).bind λi=>(g5 a.2.length i).bind λk=>a.2[k]?
noncomputable def Ve(i:Nat)(g f:CO D)(γ:Ctx):Option Fl:=(f γ).bind λd=>(qt γ[i]?).bind λa=>((g γ).bind hH).bind λk=>(g5 a.length k).map λj=> .next (γ.set i<|.own<|a.set j d)
noncomputable def Xf(n dflt:Nat):Option Int->Nat
 | none=>dflt
 | some i=>if i<0 then (i+n).toNat else min i.toNat n
noncomputable def Y1(xs:List D)(lo hi:Option Int):List D:=(xs.drop<|Xf xs.length 0 lo).take (Xf xs.length xs.length hi - Xf xs.length 0 lo)
def yw:CO (Option Int):=λ_=>b8 cp
noncomputable def e4(f:CO D)(γ:Ctx):Option (Option Int):=((f γ).bind hH).map b8
noncomputable def ar(f:CO D)(l h:CO (Option Int))(γ:Ctx):Option D:=(f γ).bind λd=>(l γ).bind λlo=>(h γ).bind λa=>match d with
 | .tup b=>b8 (.tup<|Y1 b lo a)
 | _=>cp
noncomputable def yf(f:CO (Sk×List D))(γ:Ctx):Option D:=(f γ).map λa=> .int a.2.length
inductive Ty where
 | int | bool | str | tuple | list
 deriving DecidableEq
@[simp] def VB:D->Bool
 | .int _=>b9
 | .bl _=>b9
 | _=>cq
@[simp] def bU:D->Bool
 | .bl _=>b9
 | _=>cq
@[simp] def Vy:D->Bool
 | .str _=>b9
 | _=>cq
@[simp] def Vx:D->Bool
 | .tup _=>b9
 | _=>cq
@[simp] def VA:D->Bool
 | .lst _=>b9
 | _=>cq
noncomputable def vX:Ty->D->Bool
 | .int=>VB
 | .bool=>bU
 | .str=>Vy
 | .tuple=>Vx
 | .list=>VA
noncomputable def hI(T:Ty)(f:CO D)(γ:Ctx):Option D:=(f γ).map λd=> .bl (vX T d)
noncomputable def fJ:Ty->Sk->Bool
 | .tuple,.T=>b9
 | .list,.L=>b9
 | _,_=>cq
noncomputable def mj(T:Ty)(f:CO (Sk×List D))(γ:Ctx):Option D:=(f γ).map λa=> .bl (fJ T a.1)
@[simp] def A2:D->Bool
 | .ea=>b9
 | _=>cq
@[simp] noncomputable def eqB(a:Bool):D->Bool
 | .bl b=>a==b
 | .int b=>(if a then 1 else 0)==b
 | _=>cq
@[simp] noncomputable def A1(a:Int):D->Bool
 | .bl b=>a==(if b then 1 else 0)
 | .int b=>a==b
 | _=>cq
@[simp] def A3(a:Str):D->Bool
 | .str b=>a==b
 | _=>cq
@[simp] def Bs(a:Str)(i:Option Int):D->Bool
 | _=>cq
mutual
def hF:D->D->Bool
 | .ea,y=>A2 y
 | .bl a,y=>eqB a y
 | .int a,y=>A1 a y
 | .str a,y=>A3 a y
 | .tup xs,y=>match y with
  | .tup e=>m2 xs e
  | _=>cq
 | .lst xs,y=>match y with
  | .lst e=>m2 xs e
  | _=>cq
 | .hA a b,y=>match y with
  | .hA c d=>m2 a c && m2 b d
  | _=>cq
 | .f7 a b,y=>match y with
  | .f7 c d=>a==c && m2 b d
  | _=>cq
def m2:List D->List D->Bool
 | [],[]=>b9
 | x::xs,y::ys=>hF x y && m2 xs ys
 | _,_=>cq
end
mutual
def deep:D->Nat
 | .tup a=>pk a+1
 | .lst a=>pk a+1
 | _=>0
def pk:List D->Nat
 | []=>0
 | x::xs=>max (deep x)<|pk xs
end
mutual
def h7:D->Bool
 | .str x=>x.cps.all (· < 0x110000)
 | .hA _ _=>cq
 | .f7 _ _=>cq
 | .tup a=>m4 a
 | .lst a=>m4 a
 | _=>b9
def m4:List D->Bool
 | []=>b9
 | x::xs=>h7 x && m4 xs
end
def g8(d:D):Bool:=decide (deep d<=20) && h7 d
noncomputable def fk(x y:D):Option D:=if g8 x=b9/\g8 y=b9 then b8 (.bl<|hF x y)else cp
noncomputable def h6(x y:D):Option D:=if g8 x=b9/\g8 y=b9 then b8 (.bl<|!hF x y)else cp
noncomputable def zY(f:CO (Sk×List D))(γ:Ctx):Option D:=(f γ).map λa=> .tup a.2
noncomputable def eT(f:CO (Sk×List D))(γ:Ctx):Option (List D):=(f γ).map λa=>a.2
noncomputable def Yh:List D->Option Int
 | []=>b8 0
 | .int i::r=>(Yh r).map λs=>i+s
 | _::_=>cp
noncomputable def eQ(f:CO (Sk×List D))(γ:Ctx):Option D:=(f γ).bind λa=>(Yh a.2).map D.int
noncomputable def eA:D->Option Bool
 | .ea=>b8 cq
 | .bl b=>b8 b
 | .int i=>b8 (i != 0)
 | _=>cp
noncomputable def vH:List D->Option (List Bool)
 | []=>b8 []
 | d::r=>(eA d).bind λb=>(vH r).map λs=>b::s
noncomputable def JH(f:CO (Sk×List D))(γ:Ctx):Option D:=(f γ).bind λa=>(vH a.2).map λs=> .bl (s.all id)
noncomputable def mr(f:CO (Sk×List D))(γ:Ctx):Option D:=(f γ).bind λa=>(vH a.2).map λs=> .bl (s.any id)
noncomputable def XD(f:CO D)(γ:Ctx):Option D:=(f γ).bind λd=>match d with
 | .int i=>b8 (.int i)
 | .bl b=>b8 (.int<|if b then 1 else 0)
 | _=>cp
noncomputable def lx(f g:CO D)(γ:Ctx):Option D:=((f γ).bind hH).bind λi=>((g γ).bind hH).map λj=> .int (if j>i then j else i)
noncomputable def ll(f:CO (Sk×List D))(γ:Ctx):Option Bool:=(f γ).map λa=> !a.2.isEmpty
def ZL(f:CO D):CO D:=λa=>((f a).bind hH).map λi=> .int (-i)
noncomputable def yy(F G:D->D->Option D)(t C H:CO D):CO D:=λa=>(t a).bind λx=>(C a).bind λy=>((F x y).bind m9).bind λb=>if b=b9 then (H a).bind λz=>G y z else b8 (.bl cq)
noncomputable def au(T:Tg)(f:CO D)(γ:Ctx):Option Fl:=(f γ).bind λd=>(qB T d γ).map .next
def lP:D->Option Int
 | .tup (.int k::_)=>b8 k
 | _=>cp
noncomputable def bN:List D->Option (List Int)
 | []=>b8 []
 | d::r=>(lP d).bind λk=>(bN r).map λl=>k::l
noncomputable def ic:List Int->Bool
 | a::b::r=>decide (a<b) && ic (b::r)
 | _=>b9
noncomputable def lM(t:List Int):Nat:=(t.dropLast.filter λk=>decide<|k<t.getLast?.getD 0).length
noncomputable def lQ(q:Nat)(t:List D):List D:=t.dropLast.take q++(t.drop (t.length - 1)++t.dropLast.drop q)
noncomputable def eP(t:List D):Option (List D):=(bN t).bind λa=>if (1<=t.length/\t.length<=8)/\ic a.dropLast=b9/\decide (a.getLast?.getD 0∈a.dropLast)=cq then b8 (lQ (lM a) t)else cp
noncomputable def eR(f:CO (Sk×List D))(γ:Ctx):Option (List D):=(f γ).bind λa=>match a.1 with
 | .L=>eP a.2
 | _=>cp
noncomputable def fR:D->Bool
 | .tup _=>cq
 | .lst _=>cq
 | .hA _ _=>cq
 | .f7 _ _=>cq
 | _=>b9
end DL
namespace L2
open PySem PySem.Spec PyProof.Rows
noncomputable def hR(k:Sk)(h:d6)(i l:c8)(n:Nat):Prop:=match k with
 | .L=>h.IsListIter i l n
 | .T=>h.IsTupleIter i l n
noncomputable def i3(k:Sk)(h:d6)(l:c8)(xs:Array di):Prop:=match k with
 | .L=>h.IsList l xs
 | .T=>h.IsTuple l xs
noncomputable def ir(k:Sk)(l:c8):h9:=match k with
 | .L=>{cls:= .type "list_iterator",data:= .fields #[.ref l,.int 0 0]}
 | .T=>{cls:= .type "tuple_iterator",data:= .fields #[.ref l,.int 0 0]}
theorem hR.at(x:hR k h i l n)(e : ∀o,h.get? i=b8 o->h'.get? i=b8 o):hR k h' i l n:=by cases k<;>exact let ⟨o,z,r⟩:=x;⟨o,e _ z,r⟩
theorem i3.at(x:i3 k h l xs)(e : ∀o,h.get? l=b8 o->h'.get? l=b8 o):i3 k h' l xs:=by cases k<;>exact let ⟨o,z,r⟩:=x;⟨o,e _ z,r⟩
theorem hR.obj(x:hR k h i l n) : ∃o,h.get? i=b8 o/\∀v,o.data ≠ .cell v:=by cases k<;>exact let ⟨o,B,_,d⟩:=x;⟨o,B,λv z=>by rw[d]at z;cases z⟩
theorem i3.lt(x:i3 k h l xs):l<h.objs.size:=by cases k<;>exact let ⟨o,z,_⟩:=x;mS z
theorem JW(k:Sk)(h:d6)(l:c8):hR k (h.push<|ir k l) h.objs.size l 0:=by cases k<;>exact⟨_,mX _ rfl,rfl,rfl⟩
section
variable{prog:fy}{w:eW}{A:i4}{E:GQ}{s:d0}
theorem JV(z:i3 k s.heap l xs)(B:Q (.ref s.heap.objs.size) {s with heap:=s.heap.push (ir k l)}):wpAny (d4 prog w) A (uH<|.ref l) Q E s:=by
 cases k
 ·exact wpAny_pyIter_list z B
 ·exact wpAny_pyIter_tuple z B
theorem yH(I:hR k s.heap it l i)(J:i3 k s.heap l items)(M:items[i]? = b8 x)
 (O : ∀h',hR k h' it l (i+1)->oY it s.heap h'->Q x {s with heap:=h'}):wpAny (d4 prog w) A (nr<|.ref it) Q E s:=by
 cases k with
 | L=>exact wpAny_nextOf_list_item I J M O
 | T=>
  have B:s.heap.IsTupleIter it l i:=I;obtain⟨o,z,R,a⟩:=id B;obtain⟨Y,U,_,b,W⟩:=(show s.heap.IsTuple l items from J);unfold nr;refine mE (oi (name:=mV "__next__") B.typeIs pZ (oI pZ B.typeIs AY ?_ (AV _)));refine mE (m:=field (.ref it) 0) (nU z a (x:= .ref l) rfl ?_);show wpAny _ _ (if (nJ l==oV)=b9 then _ else _) _ _ s;rw[MQ (show ¬((nJ l==oV)=b9)from mW)];refine mE (m:=field (.ref it) 1) (nU z a (x:= .int i 0) rfl ?_);refine mE (m:=seqItems? (.ref l)) (oJ U W ?_);simp only[sC,M];refine mE (wpAny_setField z a ⋯ (mL ⟨x,rfl,mL (O _ ?_ (oY.update ..))⟩));show Heap.IsTupleIter _ it l (i+1);exact⟨_,Heap.get?_update_self _ z (Obj.isFreed_of_fields (Obj.data_mapFields a _)),(Obj.cls_mapFields ..).trans R,by rw[Obj.data_mapFields a];simp[uJ]⟩
theorem JT(z:A.handled=cp)(J:hR k s.heap it l i)(M:i3 k s.heap l items)(O:items[i]? = cp)
 (R : ∀h' e,Heap.ExtBut it s.heap h'->(∃o,h'.get? e=b8 o/\o.cls = .type "StopIteration")->E (.ref e) {s with heap:=h'}):wpAny (d4 prog w) A (nr (.ref it)) Q E s:=by
 cases k with
 | L=>exact wpAny_nextOf_list_end z J M O R
 | T=>
  have B:s.heap.IsTupleIter it l i:=J;obtain⟨o,I,Y,b⟩:=id B;obtain⟨f,U,_,d,W⟩:=(show s.heap.IsTuple l items from M);unfold nr;refine mE (oi (name:=mV "__next__") B.typeIs pZ (oI pZ B.typeIs AY ?_ (AV _)));refine mE (m:=field (.ref it) 0) (nU I b (x:= .ref l) rfl ?_);show wpAny _ _ (if (nJ l==oV)=b9 then _ else _) _ _ s;rw[MQ (show ¬((nJ l==oV)=b9)from mW)];refine mE (m:=field (.ref it) 1) (nU I b (x:= .int i 0) rfl ?_);refine mE (m:=seqItems? (.ref l)) (oJ U W ?_);simp only[sC,O];refine mE (sM (mE (wpAny_setField I b ⋯ ?_)));refine mE (m:=newExc (.type "StopIteration") []) ?_;simp only[newExc,newTuple];refine mE (nT ?_ (by size_fits));refine mE (m:=A4 _ _) (wpAny_of_eq (a:=oV) (by first | rfl | (simp only[A4];rfl)) ?_);refine nT ?_ (by size_fits);simp only[raiseNew];refine mE (wpAny_handled ?_)
  first | rw[show A.in1.handled=cp from z] | rw[z]
  exact mE<|mL<|wpAny_throw<|R _ _ (((oY.update ..).extBut.push _).push _) ⟨_,mX _ rfl,rfl⟩
theorem Xl{C G:Sk}{z TI TO I J W Y:c8}{H L:Nat}{xs ys:Array di}{x y a b:di}{Q:GQ}(D:uW z TI TO I J W Y)
 (t:m7 s.heap z TI TO .none) (be:i0 s.heap TI (.ref I) (.ref J)) (bg:i0 s.heap TO a b)
 (h1:hR C s.heap I W H) (h2:hR G s.heap J Y L) (bi:i3 C s.heap W xs) (bl:i3 G s.heap Y ys) (hx:xs[H]? = b8 x) (hy:ys[L]? = b8 y)
 (hQ : ∀h',m7 h' z TI TO (uJ s.heap.objs.size)->i0 h' TO x y->hR C h' I W (H+1)->hR G h' J Y (L+1)->i0 h' s.heap.objs.size x y->h'.objs.size=s.heap.objs.size+1->
   (∀c o,c≠z->c≠TO->c≠I->c≠J->s.heap.get? c=b8 o->h'.get? c=b8 o)->Q (.ref s.heap.objs.size) {s with heap:=h'}) :
 wpAny (d4 prog w) A (tr.«zip.__next__» ⟨[.ref z],[]⟩) (λc0 s'=>∃v,c0 = .done (.ret v)/\Q v s') E s:=by
 refine mE (m:=field (.ref z) 2)<|nU t rfl (x:= .bool cq) rfl ?_;refine mE (m:=field (.ref z) 3)<|nU t rfl (x:= .ref TI) rfl ?_;refine mE<|oJ be rfl ?_;refine mE (m:=nS<|.ref z) ?_;unfold nS;refine mE<|nU t rfl (x:= .none) rfl<|mL ?_;simp only[if_true];refine mE<|sM<|mE<|nU t rfl (x:= .ref TO) rfl ?_;refine mE<|pC t ⋯ λg1 n M=>?_;replace n:m7 g1 z TI TO .ellipsis:=n;refine mE ?_;simp only[List.zipIdx_cons,List.zipIdx_nil,List.forIn_cons,List.forIn_nil];refine mE<|mE<|sI ?_;refine mE (m:=nr<|.ref I)<|yH (h1.at λo e=>M.extBut _ _ D.i1z e) (bi.at λo e=>M.extBut _ _ D.l1z e) hx λg2 c6 R=>mL ?_;have P:i0 g2 TO a b:=R.extBut _ _ D.TOi1<|M.extBut _ _ D.TOz bg;refine mE<|oJ P rfl<|mE<|si P λg3 p U=>?_;replace p:i0 g3 TO x b:=p;refine mE<|wpAny_letGo<|mL<|mE<|mE<|sI ?_;refine mE (m:=nr<|.ref J)<|yH (h2.at λo e=>U.extBut _ _ D.TOi2.symm<|R.extBut _ _ D.i12.symm<|M.extBut _ _ D.i2z e) (bl.at λo e=>U.extBut _ _ D.l2TO<|R.extBut _ _ D.l2i1<|M.extBut _ _ D.l2z e) hy λg4 c9 d=>mL ?_;have S:i0 g4 TO x b:=d.extBut _ _ D.TOi2 p;refine mE<|oJ S rfl<|mE<|si S λB h f=>?_;replace h:i0 B TO x y:=h;refine mE<|wpAny_letGo<|mL<|mL<|mE<|oJ h rfl<|mE<|wpAny_newTuple ?_;have T:B.objs.size=s.heap.objs.size:=by rw[f.1,d.1,U.1,R.1,M.1]
 have X:m7 B z TI TO .ellipsis:=f.extBut _ _ D.TOz.symm (d.extBut _ _ D.i2z.symm (U.extBut _ _ D.TOz.symm (R.extBut _ _ D.i1z.symm n)));have ca : ∀c o,c≠z->c≠TO->c≠I->c≠J->s.heap.get? c=b8 o->B.get? c=b8 o:=λc o O j K N e=>f.extBut _ _ j (d.extBut _ _ N (U.extBut _ _ j (R.extBut _ _ K (M.extBut _ _ O e))));have cd:hR C B I W (H+1):=c6.at λo e=>f.extBut _ _ D.TOi1.symm (d.extBut _ _ D.i12 (U.extBut _ _ D.TOi1.symm e));have ce:hR G B J Y (L+1):=c9.at λo e=>f.extBut _ _ D.TOi2.symm e;have Z:z<B.objs.size:=mS X;refine mE (m:=pR (.ref z) (.ref B.objs.size)) ?_;unfold pR;have ch:m7 (B.push {cls:= .type "tuple",data:= .seq #[x,y]}) z TI TO .ellipsis:=mF _ X;refine mE (pC ch ⋯ λg7 r u=>?_);replace r:m7 g7 z TI TO (uJ B.objs.size):=r;refine pC r ⋯ λg i F=>?_;replace i:m7 g z TI TO (uJ B.objs.size):=i;have l : ∀c o,c≠z->B.get? c=b8 o->g.get? c=b8 o:=λc o O e=>F.extBut _ _ O (u.extBut _ _ O (mF _ e));have bb:i0 g B.objs.size x y:=F.extBut _ _ (pb Z) (u.extBut _ _ (pb Z) (mX _ rfl));have bd:g.objs.size=B.objs.size+1:=by rw[F.1,u.1,nN]
 rw[T]at i bb bd;refine mL ⟨_,rfl,?_⟩;show Q (.ref B.objs.size) _;rw[T];exact hQ g i (l _ _ D.TOz h) (cd.at λo e=>l _ o D.i1z e) (ce.at λo e=>l _ o D.i2z e) bb bd λc o O j K N e=>l c o O<|ca c o O j K N e
theorem K6{k1 k2:Sk}{z TI TO J R C G:c8}{H L:Nat}{xs S:Array di}{a b:di}{Q:Fin->d0->Prop}(hh:A.handled=cp)(D:uW z TI TO J R C G)
 (t:m7 s.heap z TI TO .none) (b0:i0 s.heap TI (.ref J) (.ref R)) (b5:i0 s.heap TO a b)
 (h1:hR k1 s.heap J C H) (h2:hR k2 s.heap R G L) (Z:i3 k1 s.heap C xs) (b6:i3 k2 s.heap G S) (b7:xs[H]? = cp\/S[L]? = cp)
 (hE : ∀h' e,(∀c o,c≠z->c≠TO->c≠J->c≠R->s.heap.get? c=b8 o->h'.get? c=b8 o)->(∃o,h'.get? e=b8 o/\o.cls = .type "StopIteration")->E (.ref e) {s with heap:=h'}) :
 wpAny (d4 prog w) A (tr.«zip.__next__» ⟨[.ref z],[]⟩) Q E s:=by
 refine mE (m:=field (.ref z) 2) (nU t rfl (x:= .bool cq) rfl ?_);refine mE (m:=field (.ref z) 3) (nU t rfl (x:= .ref TI) rfl ?_);refine mE (oJ b0 rfl ?_);refine mE (m:=nS (.ref z)) ?_;unfold nS;refine mE (nU t rfl (x:= .none) rfl (mL ?_));simp only[if_true];refine mE (sM (mE (nU t rfl (x:= .ref TO) rfl ?_)));refine mE (pC t ⋯ λg1 f B=>?_);replace f:m7 g1 z TI TO .ellipsis:=f;refine mE ?_;simp only[List.zipIdx_cons,List.zipIdx_nil,List.forIn_cons,List.forIn_nil];refine mE (mE (sI ?_));have n : ∀{g e:_} {U:h9},m7 g z TI TO .ellipsis->(∀c o,c≠z->c≠TO->c≠J->c≠R->s.heap.get? c=b8 o->g.get? c=b8 o)->g.get? e=b8 U->U.cls = .type "StopIteration"->
  wpAny (d4 prog w) A (setField (.ref z) 0 .none) (λ_ F=>E (.ref e) F) E {s with heap:=g}:=λ{g e U} s9 hk M W=>by
  have u:e≠z:=λq=>by subst q;rw[s9]at M;cases M;simp at W
  exact pC s9 ⋯ λg3 _ O=>hE g3 e (λc o Y i d j q=>O.extBut _ _ Y<|hk c o Y i d j q) ⟨U,O.extBut _ _ u M,W⟩
 cases hx:xs[H]? with
 | none=>
  refine mE (m:=nr<|.ref J)<|JT hh (h1.at λo e=>B.extBut _ _ D.i1z e) (Z.at λo e=>B.extBut _ _ D.l1z e) hx λg2 e I l=>?_;obtain⟨U,M,W⟩:=l;exact n (I _ _ D.i1z.symm f) (λc o Y _ d _ q=>I _ _ d<|B.extBut _ _ Y q) M W
 | some x=>
  have y:S[L]? = cp:=by rcases b7 with h | h;rw[hx]at h;cases h;exact h
  refine mE (m:=nr<|.ref J)<|yH (h1.at λo e=>B.extBut _ _ D.i1z e) (Z.at λo e=>B.extBut _ _ D.l1z e) hx λg2 K I=>mL ?_;have p:i0 g2 TO a b:=I.extBut _ _ D.TOi1<|B.extBut _ _ D.TOz b5;refine mE<|oJ p rfl<|mE<|si p λg3 N O=>?_;refine mE<|wpAny_letGo<|mL<|mE<|mE<|sI ?_;refine mE (m:=nr<|.ref R)<|JT hh (h2.at λo e=>O.extBut _ _ D.TOi2.symm<|I.extBut _ _ D.i12.symm<|B.extBut _ _ D.i2z e) (b6.at λo e=>O.extBut _ _ D.l2TO<|I.extBut _ _ D.l2i1<|B.extBut _ _ D.l2z e) y λP e r l=>?_;obtain⟨U,M,W⟩:=l;exact n (r _ _ D.i2z.symm<|O.extBut _ _ D.TOz.symm<|I.extBut _ _ D.i1z.symm f) (λc o Y i d j q=>r _ _ j<|O.extBut _ _ i<|I.extBut _ _ d<|B.extBut _ _ Y q) M W
end
def kC(a b:di):h9:={cls:= .type "tuple",data:= .seq #[a,b]}
noncomputable def eh(TI TO:c8):h9:={cls:= .type "zip",data:= .fields #[.none,.bool cq,.bool cq,.ref TI,.ref TO]}
noncomputable def y6(z B:Sk)(h:d6)(I J:c8):d6:=
 nG (nG (nG (nG (nG h<|ir z I)<|ir B J)<|kC (.ref h.objs.size)<|.ref<|h.objs.size+1)<|kC .none .none) (eh (h.objs.size+2)<|h.objs.size+3)
theorem K5(B J:Sk)(z I:c8)(xs t:Array di) :
 uq (tr.«zip.__new__» ⟨[.type "zip",.ref z,.ref I],[]⟩) (λ_ R s=>i3 B s.heap z xs/\i3 J s.heap I t/\
  R (.ok<|.ret<|.ref<|s.heap.objs.size+4) {s with heap:=y6 B J s.heap z I}):=
 .of_wp λa w A R s h=>by
  obtain⟨M,g,d,O,os⟩:=s;obtain⟨U,W,h⟩:=h;have f:=sub_zip;have Y:i3 B (Shared.heap ⟨M,g,d,O,os⟩) z xs:=U;have b:i3 J (Shared.heap ⟨M.push<|ir B z,g,d,O,os⟩) I t:=W.at λo e=>mF _ e
  wp_walk using JV Y,JV b
  refine⟨_,rfl,?_⟩;simp only[y6,kC,eh,nN]at h ⊢;exact h
section
variable{X:Cx}{pins:GW}{σ:St}{H:Hp}{s:d0}{h':d6}
theorem Inv.AL{t':Nat}{fp:List c8}{a:c8}{o:HO}(I:Inv X pins σ H s)(k : ∀b u,b∉fp->s.heap.get? b=b8 u->h'.get? b=b8 u)(M : ∀b∈fp,Xj X pins H b)
 (R:s.heap.objs.size<=a) (new:gq X.prog X.w (upd H a o) h' a o):Inv X pins σ (upd H a o) {s with heap:=h',toks:=t'}:=by
 have d:H a=cp:=I.d7.fresh R;have U : ∀b u,H b=b8 u->b∉fp:=λb u e z=>by rw[(M b z).1]at e;cases e
 have W : ∀b u,s.heap.get? b=b8 u->b≠a:=λb u e=>nt<|mU (mS e) R;refine I.step (g':=s.gens) (d':=s.drawn) (ch:=fp) (λb B=>⟨(M b B).2.2.2.1,(M b B).2.1,(M b B).2.2.2.2.1,(M b B).2.2.2.2.2⟩) (λb u _ _ J e _=>k b u J e) (λb u _ _ J e _=>⟨u.slots,k b u J e⟩)
  (λb u _ e n=>by rw[zC (W b u e)];exact n) (λb u J e=>⟨u,k b u J e⟩) (λb f e=>by rw[zC (z4 e d)];exact e) (λb O f e=>by rw[zC (z4 e d)];exact e)
  (λb j e=>⟨#[],by rw[zC (z4 e d),e];simp⟩) (λm h=>?_) (λb u e=>?_) I.bare
 ·obtain⟨O,g,Y,i,r⟩:=h
  refine⟨O,g,Y,k _ O (λz=>(M _ z).2.1 rfl) i,r⟩
 ·by_cases B:b=a
  ·subst B;rw[zE]at e;cases e;exact new
  ·rw[zC B]at e
   refine(I.d7 b u e).tm (λc v J q=>k c v ?_ q) (λc q=>by rw[zC (z4 q d)];exact q) λc f q=>by rw[zC (z4 q d)];exact q
   rcases J with z | z
   ·rw[z];exact U b u e
   ·exact U c _ z
theorem Inv.AM{t':Nat}{fp:List c8}(I:Inv X pins σ H s)(k : ∀b u,b∉fp->s.heap.get? b=b8 u->h'.get? b=b8 u)(J : ∀b∈fp,Xj X pins H b):Inv X pins σ H {s with heap:=h',toks:=t'}:=by
 have R : ∀b u,H b=b8 u->b∉fp:=λb u e z=>by rw[(J b z).1]at e;cases e
 refine I.step (g':=s.gens) (d':=s.drawn) (ch:=fp) (λb M=>⟨(J b M).2.2.2.1,(J b M).2.1,(J b M).2.2.2.2.1,(J b M).2.2.2.2.2⟩) (λb u _ _ B e _=>k b u B e) (λb u _ _ B e _=>⟨u.slots,k b u B e⟩)
  (λb u _ e n=>n) (λb u B e=>⟨u,k b u B e⟩) (λb a e=>e) (λb O a e=>e)
  (λb g e=>⟨#[],by rw[e];simp⟩) (λm f=>?_) (λb u e=>?_) I.bare
 ·obtain⟨O,d,U,W,r⟩:=f
  refine⟨O,d,U,k _ O (λz=>(J _ z).2.1 rfl) W,r⟩
 ·refine(I.d7 b u e).tm (λc v B q=>k c v ?_ q) (λc q=>q) λc a q=>q
  rcases B with z | z
  ·rw[z];exact R b u e
  ·exact R c _ z
end
noncomputable def h5(k:Sk)(K:mD)(H:Hp)(a:c8)(xs:List V):Prop:=match k with
 | .L=>el K H a xs
 | .T=>eu K H a xs
theorem Inv.sq(I:Inv X pins σ H s)(h:h5 k X.K H a xs) :
 ∃B:List di,d5 xs B/\i3 k s.heap a B.toArray/\xs.length<=ej:=by
 cases k with
 | L=>obtain⟨B,r,p,z⟩:=I.list h;exact⟨B,r,p.isList,z⟩
 | T=>obtain⟨B,r,p,z⟩:=I.tuple h;exact⟨B,r,p,z⟩
theorem Inv.AA(I:Inv X pins σ H s)(h:h5 k X.K H a xs)(h':h5 k X.K H a ys):xs=ys:=by
 cases k with
 | L=>exact I.u9 h h'
 | T=>exact I.AK h h'
noncomputable def uQ(z B:Sk)(K:mD)(a b:c8):It:=
 ⟨λi H=>∃d e,h5 z K H a d/\h5 B K H b e/\i<d.length/\i<e.length,
  λi H x f=>∃p u v,x = .ref p/\H p=cp/\f=upd H p (.tup [u,v])/\(∀d,h5 z K H a d->d[i]? = b8 u)/\(∀e,h5 B K H b e->e[i]? = b8 v),
  λi H=>∃d e,h5 z K H a d/\h5 B K H b e/\(d.length<=i\/e.length<=i)⟩
theorem Yb{P:fy}{w:eW}{K:mD}{elts:List dV}{x1:Nat}{r6:d9}(k1 k2:Sk){z TI TO R U a b:c8}(D:uW z TI TO R U a b) :
 Turn P w K (.Tuple elts x1 r6) (uQ k1 k2 K a b) [z,TI,TO,R,U] z (λi h=>m7 h z TI TO .none/\i0 h TI (.ref R) (.ref U)/\(∃c d,i0 h TO c d)/\hR k1 h R a i/\hR k2 h U b i) where
 mem:=by simp
 obj:=λi h ⟨J,O,⟨c,d,W⟩,h1,h2⟩ y hy=>by
  simp only[mJ,nC,or_false]at hy;rcases hy with rfl | rfl | rfl | rfl | rfl
  ·exact⟨_,J,λv q=>by cases q⟩
  ·exact⟨_,O,λv q=>by cases q⟩
  ·exact⟨_,W,λv q=>by cases q⟩
  ·exact h1.obj
  ·exact h2.obj
 keep:=λi h h' ⟨J,O,⟨c,d,W⟩,h1,h2⟩ k=>
  ⟨k z ⋯ _ J,k TI ⋯ _ O,⟨c,d,k TO ⋯ _ W⟩,h1.at λo e=>k R ⋯ o e,h2.at λo e=>k U ⋯ o e⟩
 item:=by
  rintro X hP hw hK hc i pins s σ H E I hf ⟨J,O,⟨c,d,W⟩,h1,h2⟩ ⟨xs,ys,ac,am,bd,be⟩;subst hP hw hK;obtain⟨bg,ap,p1,z1⟩:=I.sq ac;obtain⟨bl,aw,p2,z2⟩:=I.sq am;have hx:xs[i]? = b8 xs[i]:=mO bd;have hy:ys[i]? = b8 ys[i]:=mO be;obtain⟨u1,bn,bv⟩:=ap.get hx;obtain⟨u2,c0,c1⟩:=aw.get hy;have hT:s.TypeIs (.ref z) "zip":=⟨_,J,rfl⟩;unfold uI;refine mE (wpAny_attempt (oi (name:=mV "__next__") hT rP (oI rP hT F.entry_zip_next
   (Xl D J O W h1 h2 p1 p2 (x:=u1) (y:=u2) (by simpa using bn) (by simpa using c0) λg a1 a2 a3 a4 a5 a6 a7=>mL ⟨_,rfl,?_⟩) (F.args_zip_next_1 _))))
  refine wpAny_letOwnedTupleGo_zip a1 λg2 s9 Y=>?_;have lt : ∀{c o},s.heap.get? c=b8 o->s.heap.objs.size≠c:=λe=>pb<|mS e;have c7:i0 g2 s.heap.objs.size u1 u2:=Y.extBut _ _ (lt J) a5;have kk : ∀M u,M ∉ [z,TI,TO,R,U]->s.heap.get? M=b8 u->g2.get? M=b8 u:=λM u B e=>by simp only[mJ,nC,or_false,not_or]at B;exact Y.extBut _ _ B.1<|a7 M u B.1 B.2.2.1 B.2.2.2.1 B.2.2.2.2 e
  have I1:Inv X pins σ (upd H s.heap.objs.size<|.tup [xs[i],ys[i]]) {s with heap:=g2,toks:=s.toks}:=
   I.AL (fp:=[z,TI,TO,R,U]) kk hf (mN _) ⟨by show 2<=ej;decide,[u1,u2],.cons bv<|.cons c1 .nil,⟨_,c7,rfl,_,rfl⟩⟩
  have c9:H s.heap.objs.size=cp:=I.fresh;refine⟨.ref s.heap.objs.size,_,I1,rfl,⟨_,_,_,rfl,c9,rfl,λcm b5=>by rw[I.AA b5 ac];exact hx,λco b5=>by rw[I.AA b5 am];exact hy⟩,?_,λM B=>?_⟩
  ·exact⟨s9,Y.extBut _ _ D.TIz<|a7 _ _ D.TIz D.TITO D.TIi1 D.TIi2 O,⟨_,_,Y.extBut _ _ D.TOz a2⟩,a3.at λo e=>Y.extBut _ _ D.i1z e,a4.at λo e=>Y.extBut _ _ D.i2z e⟩
  ·have ca:M≠s.heap.objs.size:=by
    simp only[mJ,nC,or_false]at B;rcases B with rfl | rfl | rfl | rfl | rfl
    ·exact(lt J).symm
    ·exact(lt O).symm
    ·exact(lt W).symm
    ·obtain⟨o,e,_⟩:=h1.obj;exact(lt e).symm
    ·obtain⟨o,e,_⟩:=h2.obj;exact(lt e).symm
   rw[zC ca];exact(hf M B).1
 done:=by
  rintro X hP hw hK hc i pins s σ H E I hf ⟨J,O,⟨c,d,W⟩,h1,h2⟩ ⟨xs,ys,ac,am,hi⟩;subst hP hw hK;obtain⟨bg,ap,p1,z1⟩:=I.sq ac;obtain⟨bl,aw,p2,z2⟩:=I.sq am;have hT:s.TypeIs (.ref z) "zip":=⟨_,J,rfl⟩;have l1:=ap.length;have l2:=aw.length;unfold uI;refine mE (wpAny_attempt (oi (name:=mV "__next__") hT rP (oI rP hT F.entry_zip_next
   (K6 (show X.A.handled=cp from I.ok.hd hc) D J O W h1 h2 p1 p2 (by rcases hi with q | q;left;simp;omega;right;simp;omega) λg e hk he=>?_) (F.args_zip_next_1 _))))
  obtain⟨o,ho,ci⟩:=he;refine mE (wpAny_isInstance (T:="StopIteration") (b:=b9) ⟨o,ho,ci⟩ isSubtype_stop (mL ⟨rfl,?_⟩));refine I.AM (t':=s.toks) (fp:=[z,TI,TO,R,U]) (λM u B e=>?_) hf;simp only[mJ,nC,or_false,not_or]at B;exact hk M u B.1 B.2.2.1 B.2.2.2.1 B.2.2.2.2 e
 self:=λ_ _ _ _ _ st h=>wpAny_pyIter_zip st.1 h
noncomputable def lR(K:mD)(t:TA):TI:=λh H R=>t h H λe d=>∃z B a b,e=[.ref a,.ref b]/\(∃f,h5 z K d a f)/\(∃g,h5 B K d b g)/\R (uQ z B K a b) d
theorem aU{X:Cx}{L t:dV}{S:TA}{p pos:d9}{C:List dV}{x1:Nat}{G:d9}(hg:Gl X "zip")(hm:X.mg "zip" = cp)(ha:PA X [L,t] S)
 (hv:sV "zip" = b8 (.type "zip")) (hs:eg [L,t] X.env=[(cq,d1 L X.env),(cq,d1 t X.env)]:=by rfl) (W:eg [t] X.env=[(cq,d1 t X.env)]:=by rfl) :
 PI X (.Tuple C x1 G) (.Call (.Name "zip" p) [L,t] [] pos) (lR X.K S):=by
 intro g s y H R I h;refine Call_ (xA I hg hm hv<|oB (d3 (ha pos g s y H _ I h) λus d hZ=>?_) (by rw[hs,W])<|by rw[W];rfl);obtain⟨vs,i,J,r1,q1⟩:=hZ;obtain⟨z,B,a,b,e,⟨xs,E⟩,⟨ys,N⟩,q⟩:=q1;subst e;obtain⟨w1,w2,Z,P,as⟩:=ez r1;subst Z;cases P;cases as;obtain⟨Q,be,Y,z1⟩:=J.sq E;obtain⟨T,bi,r,z2⟩:=J.sq N;have la:=Y.lt;have lb:=r.lt;refine callType_new F.called_zip ⋯ (F.typeCall_zip_2 _ _) (F.newCall_zip_2 _ _) (λobj=>F.args_object_init_3 obj _ _) F.entry_zip_new (K5 z B a b Q.toArray T.toArray) ⟨Y,r,?_⟩;have keep : ∀c o,d.heap.get? c=b8 o->(y6 z B d.heap a b).get? c=b8 o:=λc o e=>
  mF _ (mF _<|mF _<|mF _<|mF _ e)
 have u:(nG d.heap<|ir z a).objs.size=d.heap.objs.size+1:=nN ..;have w:(nG (nG d.heap<|ir z a)<|ir B b).objs.size=d.heap.objs.size+2:=by rw[nN,u]
 have x:(nG (nG (nG d.heap<|ir z a)<|ir B b)<|kC (.ref d.heap.objs.size)<|.ref<|d.heap.objs.size+1).objs.size=d.heap.objs.size+3:=by rw[nN,w]
 have y4:(nG (nG (nG (nG d.heap<|ir z a)<|ir B b)<|kC (.ref d.heap.objs.size)<|.ref<|d.heap.objs.size+1)<|kC .none .none).objs.size=d.heap.objs.size+4:=by rw[nN,x]
 have g0:hR z (y6 z B d.heap a b) d.heap.objs.size a 0:=(JW z d.heap a).at λo e=>mF _<|mF _<|mF _<|mF _ e;have g1:hR B (y6 z B d.heap a b) (d.heap.objs.size+1) b 0:=by have q:=JW B (nG d.heap<|ir z a) b;rw[u]at q;exact q.at λo e=>mF _<|mF _<|mF _ e
 have g2:i0 (y6 z B d.heap a b) (d.heap.objs.size+2) (.ref d.heap.objs.size) (.ref<|d.heap.objs.size+1):=by have q:_=b8 (kC (.ref d.heap.objs.size)<|.ref<|d.heap.objs.size+1):=mX (nG (nG d.heap<|ir z a)<|ir B b) (o:=kC (.ref d.heap.objs.size)<|.ref<|d.heap.objs.size+1) rfl;rw[w]at q;exact mF _<|mF _ q
 have g3:i0 (y6 z B d.heap a b) (d.heap.objs.size+3) .none .none:=by have q:_=b8 (kC .none .none):=mX (nG (nG (nG d.heap<|ir z a)<|ir B b)<|kC (.ref d.heap.objs.size)<|.ref<|d.heap.objs.size+1) (o:=kC .none .none) rfl;rw[x]at q;exact mF _ q
 have U:m7 (y6 z B d.heap a b) (d.heap.objs.size+4) (d.heap.objs.size+2) (d.heap.objs.size+3) .none:=by have q:=mX (nG (nG (nG (nG d.heap<|ir z a)<|ir B b)<|kC (.ref d.heap.objs.size)<|.ref<|d.heap.objs.size+1)<|kC .none .none) (o:=eh (d.heap.objs.size+2)<|d.heap.objs.size+3) rfl;rw[y4]at q;exact q
 refine⟨⟨_,U,rfl⟩,wpAny_pyIter_zip (s:={d with heap:=y6 z B d.heap a b}) U ?_⟩;have A:Inv X g y i {d with heap:=y6 z B d.heap a b,toks:=d.toks}:=J.kept keep;have nn : ∀m:Nat,d.heap.objs.size≠d.heap.objs.size+m+1:=λm=>by omega
 have M : ∀m:Nat,a≠d.heap.objs.size+m:=λm=>nt<|mU la<|nZ _ m;have O : ∀m:Nat,b≠d.heap.objs.size+m:=λm=>nt<|mU lb<|nZ _ m;have f : ∀m n:Nat,m≠n->(d.heap.objs.size+m:Nat)≠d.heap.objs.size+n:=λm n h=>by omega
 have D:uW (d.heap.objs.size+4) (d.heap.objs.size+2) (d.heap.objs.size+3) d.heap.objs.size (d.heap.objs.size+1) a b:=
  ⟨f 2 4 ⋯,f 3 4 ⋯,f 0 4 ⋯,f 1 4 ⋯,f 2 3 ⋯,f 2 0 ⋯,f 2 1 ⋯,f 3 0 ⋯,f 3 1 ⋯,f 0 1 ⋯,
   M 4,M 3,M 0,M 1,O 4,O 3,O 0,O 1⟩
 refine⟨_,[d.heap.objs.size+4,d.heap.objs.size+2,d.heap.objs.size+3,d.heap.objs.size,d.heap.objs.size+1],_,_,i,rfl,A,Yb z B D,⟨U,g2,⟨_,_,g3⟩,g0,g1⟩,λc l=>?_,q⟩;have j:d.heap.objs.size<=c:=by
  simp only[mJ,nC,or_false]at l;rcases l with rfl | rfl | rfl | rfl | rfl
  ·exact nZ _ _
  ·exact nZ _ _
  ·exact nZ _ _
  ·exact mN _
  ·exact nZ _ _
 exact J.t7 j<|J.d7.fresh j
noncomputable def Ad(k:Sk)(K:mD)(a:c8):It:=match k with
 | .L=>Ae K a
 | .T=>Af K a
noncomputable def lT(K:mD)(t:TE):TI:=λe H R=>t e H λx b=>∃a k,x = .ref a/\(∃d,h5 k K b a d)/\R (Ad k K a) b
theorem aW(J:PE X l tl):PI X tg l (lT X.K tl):=by
 intro d s i H R I h;refine d3 (J d s i H _ I h) λv f M=>?_;obtain⟨x,g,z,O,U⟩:=M;obtain⟨a,k,e,⟨r,W⟩,q⟩:=U;subst e;cases O;have B : ∀b ∈ [f.heap.objs.size],Xj X d g b:=λb Y=>by
  have e:b=f.heap.objs.size:=by simpa using Y
  subst e;exact z.t7 (mN _)<|z.d7.fresh<|mN _
 obtain⟨j,n,p,m⟩:=z.sq W;cases k with
 | L=>exact wpAny_pyIter_list p ⟨f.heap.objs.size,[f.heap.objs.size],_,_,g,rfl,z.kept (t':=f.toks) λb o e=>mF _ e,Xq a _,⟨_,mX _ rfl,rfl,rfl⟩,B,q⟩
 | T=>exact wpAny_pyIter_tuple p ⟨f.heap.objs.size,[f.heap.objs.size],_,_,g,rfl,z.kept (t':=f.toks) λb o e=>mF _ e,QK a _,⟨_,mX _ rfl,rfl,rfl⟩,B,q⟩
section
variable{κ:Type} [DecidableEq κ]
noncomputable def QJ(t:List (κ×V))(k:κ):Option V:=(t.find? λz=>decide<|z.1=k).map (·.2)
noncomputable def K3(t:List (κ×V))(k:κ)(v:V):List (κ×V):=
 if (t.any λz=>decide<|z.1=k)=b9 then t.map (λz=>if z.1=k then (z.1,v)else z)else t++[(k,v)]
theorem Jz{p:κ×V}{r:List (κ×V)}{k:κ}(e:p.1=k):QJ (p::r) k=b8 p.2:=by simp[QJ,pj,e]
theorem JA{p:κ×V}{r:List (κ×V)}{k:κ}(e : ¬p.1=k):QJ (p::r) k=QJ r k:=by simp[QJ,pj,e]
theorem Jf(t:List (κ×V))(k:κ)(v:V):(K3 t k v).length<=t.length+1:=by
 unfold K3;split
 ·rw[mZ];omega
 ·rw[nz,ot,rH];omega
theorem KV.val{C:List (κ×V)}{G:List (κ×di)}(r:KV C G)(k:κ):o8 (QJ C k) (tN G k):=by
 unfold KV at r
 induction r with
 | nil=>exact nQ
 | @cons p q f B h t J=>
  obtain⟨a,d⟩:=h;by_cases e:p.1=k
  ·have I:q.1=k:=a.symm.trans e
   have b:tN (q::B) k=b8 q.2:=by simp[tN,pj,I]
   rw[Jz e,b];exact d
  ·have I : ¬q.1=k:=λz=>e (a.trans z)
   have b:tN (q::B) k=tN B k:=by simp[tN,pj,I]
   rw[JA e,b];exact J
theorem KV.any(r:KV g9 vs)(k:κ):(g9.any λz=>decide<|z.1=k)=vs.any λz=>decide (z.1=k):=by
 unfold KV at r
 induction r with
 | nil=>rfl
 | cons h t B=>rw[rB,rB,B,h.1]
theorem KV.Bf(r:KV g9 vs)(k:κ)(I:RelV y u) :
 KV (g9.map λB=>if B.1=k then (B.1,y)else B) (vs.map λB=>if B.1=k then (B.1,u)else B):=by
 unfold KV at r ⊢
 induction r with
 | nil=>exact .nil
 | @cons p q d M h t J=>
  rw[nj,nj];refine .cons ?_ J;obtain⟨a,b⟩:=h;by_cases e:p.1=k
  ·rw[GY e,GY (a.symm.trans e)];exact⟨a,I⟩
  ·rw[MQ e,MQ (λz=>e<|a.trans z)];exact⟨a,b⟩
theorem KV.put(r:KV g9 vs)(k:κ)(z:RelV y u):KV (K3 g9 k y) (stored vs k u):=by
 unfold K3 stored;rw[r.any k];by_cases e:(vs.any λB=>decide<|B.1=k)=b9
 ·rw[GY e,GY e];exact r.Bf k z
 ·rw[MQ e,MQ e];exact Paired.snoc r ⟨rfl,z⟩
end
theorem WC(r:RelV (kV k) u):(jF P w).is k u=b9:=by
 cases k with
 | inl i=>obtain⟨t,e⟩:=(show ∃t,u=rW i t from r);subst e;exact Jc P w i t
 | inr x=>obtain⟨t,e⟩:=(show ∃t,u=rE x t from r);subst e;exact Jb P w x t
theorem Zk : ∀{z:List Key} {C:List di},d5 (z.map kV) C->ItemsAre (jF P w) z C
 | [],_,r=>by rw[sA]at r;cases r;exact .nil
 | k::z,_,r=>by
  rw[nj]at r;cases r with
  | cons h t=>exact .cons (WC h)<|Zk t
abbrev KT(H:Hp):List (List Key×V)->List (List Key×c8×di)->Prop:=Paired λp q=>p.1=q.1/\H q.2.1=b8 (.tup (p.1.map kV))/\RelV p.2 q.2.2
theorem KT.val{H:Hp}{C:List (List Key×V)}{xs:List (List Key×c8×di)}(r:KT H C xs)(k:List Key):o8 (QJ C k) ((tx xs k).map (·.2)):=by
 induction r with
 | nil=>exact nQ
 | @cons p q f B h t J=>
  obtain⟨a,_,d⟩:=h;by_cases e:p.1=k
  ·have I:q.1=k:=a.symm.trans e
   have b:tx (q::B) k=b8 q.2:=by simp[tx,pj,I]
   rw[Jz e,b];exact d
  ·have I : ¬q.1=k:=λz=>e (a.trans z)
   have b:tx (q::B) k=tx B k:=by simp[tx,pj,I]
   rw[JA e,b];exact J
section
variable{P:fy}{w:eW}{H:Hp}{h:d6}{a:c8}
theorem aD(ok:f9 P w H h)(e:Rd H a u):gq P w H h a u:=e.ok ok
theorem WG(ok:f9 P w H h)(e:Rd H a (.dK g9)):g9.length<=ej/\(a==r0)=cq/\∃t,KV g9 t/\h.DictOf (jF P w) a t:=
 show gq P w H h a (.dK g9)from aD ok e
theorem cj(ok:f9 P w H h)(e:H a=b8 (.dK g9)):g9.length<=ej/\(a==r0)=cq/\∃t,KV g9 t/\h.DictOf (jF P w) a t:=WG ok<|.inl e
theorem Vw(ok:f9 P w H h)(e:H a=b8 (.tup<|ks.map kV)):(AJ<|jF P w).is h ks a:=by obtain⟨_,z,r,o,b,d,n,B⟩:=(show gq P w H h a (.tup<|ks.map kV)from ok a _ e);exact⟨o,z.toArray,n,b,(Prod.mk.inj d).1,B,by simpa using Zk r⟩
theorem cf(ok:f9 P w H h)(e:Rd H a (.dT g9)):g9.length<=ej/\(a==r0)=cq/\
 ∃xs,KT H g9 xs/\h.DictOfH (AJ<|jF P w) a xs:=by
 obtain⟨z,y,xs,r,o,b,J,d,f,M,O,R⟩:=(show gq P w H h a (.dT g9)from aD ok e);refine⟨z,y,xs,r,o,b,J,d,f,M,O,λx B=>?_,R⟩;have all : ∀{l:List (List Key×V)} {m:List (List Key×c8×di)},KT H l m->∀x∈m,(AJ<|jF P w).is h x.1 x.2.1:=by
  intro l m q
  induction q with
  | nil=>intro x B;exact nomatch B
  | @cons p q g W I t U=>
   intro x B;rcases mJ.mp B with e | B
   ·subst e
    exact Vw ok (by rw[<- I.1];exact I.2.1)
   ·exact U x B
 exact all r x B
end
noncomputable def tu(H:Hp)(a:c8)(y:V)(r:Option V):Prop:=
 (∃d k,Rd H a (.dK d)/\y=kV k/\r=QJ d k)\/∃d k b,Rd H a (.dT d)/\y = .ref b/\H b=b8 (.tup<|k.map kV)/\r=QJ d k
theorem tu.k{H:Hp}{a:c8}{t:List (Key×V)}{k:Key}(e:H a=b8 (.dK t)):tu H a (kV k) (QJ t k):= .inl ⟨t,k,.inl e,rfl,rfl⟩
section
variable{X:Cx}{pins:GW}{σ:St}{H:Hp}{s:d0}{a:c8}{y v:V}{u r:di}{o:Option V}{A:i4}{E:GQ}
theorem Inv.big(I:Inv X pins σ H s):r0<s.heap.objs.size:=by have h:iv<s.heap.objs.size:=(I.mod.glob.keeps I.bk).lt;exact Nat.lt_trans ⋯ h
theorem KA(U:A.units+1<t2)(I:Inv X pins σ H s)(g:tu H a y (b8 v))(R:RelV y u)(h : ∀t C,Inv X pins σ H C->RelV v t->Q t C) :
 wpAny (d4 X.prog X.w) A (p0 (.ref a) u) Q E s:=by
 rcases g with⟨f,k,e,B,l⟩ | ⟨f,k,b,e,B,W,l⟩
 ·subst B
  obtain⟨z,j,m,J,M⟩:=WG I.d7 e;obtain⟨t,d,O⟩:=o8.some_of (v:=v) (o:=tN m k) (by rw[l];exact J.val k);exact wpAny_getItem_of (WC R) M.mapOf d<|h t _ (I.tok _) O
 ·subst B
  cases (show u=nJ b from R);obtain⟨z,j,n,J,M⟩:=cf I.d7 e;obtain⟨t,d,O⟩:=o8.some_of (v:=v) (o:=(tx n k).map (·.2)) (by rw[l];exact J.val k);obtain⟨p,Y,i⟩:=Option.map_eq_some_iff.mp d;refine wpAny_getItem_heap (tupleKind_room_in1 U) (Vw I.d7 W) M Y ?_;rw[i];exact h t _ (I.tok _) O
theorem WH(I:Inv X pins σ H s)(B:tY (H a))(J:oY a s.heap h')(M : ∃q,h'.get? a=b8 q)(new:gq X.prog X.w (upd H a ob) h' a ob) :
 Inv X pins σ (upd H a ob) {s with heap:=h',toks:=t'}:=
 I.write (x:=a) (e:=a) B (.inl rfl) (λb q O z=>(J.2 b O).trans z) M new
theorem ck(z:g9.length<=ej)(t:(a==r0)=cq)(B:KV g9 vs)(I:h'.DictOf (jF P w) a vs) :
 gq P w H' h' a (.dK g9):=⟨z,t,vs,B,I⟩
end
def gJ(i:dV):Prop:=∀z B,y2 i cq z B=operate [z,B] (p0 z B)
theorem V2{prog:fy}{w:eW}{A:i4}{E:GQ}{s:d0}{env:h8}{t z:dV}{pos:d9}{T id:String}{Q:GQ}
 (U:AO (.type T) "__getitem__" = pure (b8 (.builtin id))) (W:gJ z)
 (h:wpAny (d4 prog w) A (d1 t env) (λo M=>wpAny (d4 prog w) A (d1 z env) (λi B=>B.TypeIs o T/\wpAny (d4 prog w) A (p0 o i) Q E B) E M) E s) :
 wpAny (d4 prog w) A (d1 (.Subscript t z pos) env) Q E s:=by
 refine uS<|oC h (λo M Y=>oC Y (λi B I=>?_) λ_ _ x=>x) λ_ _ x=>x;obtain⟨O,I⟩:=I;unfold AD;refine mE ?_;rw[getitemInPython_of_ne O.not_modules];refine mE<|wpAny_specialOf O U ?_;have J:wpAny (d4 prog w) A (y2 z cq o i) (λr R=>wpAny (d4 prog w) A (letTemporaryGo t o r >>= λ_=>pure r) Q E R) E B:=by rw[W o i];exact wpAny_operating<|oC I (λr R a=>mE<|wpAny_letTemporaryGo<|mL a) λ_ _ x=>x
 first
  | exact mL<|mE J
  | exact mE<|mL<|mE J
  | exact mE J
theorem Jl(I:Inv X pins σ H s)(g:tu H a y o):s.TypeIs (.ref a) "dict":=by
 rcases g with⟨d,k,e,_,_⟩ | ⟨d,k,b,e,_,_,_⟩
 ·obtain⟨_,_,f,_,z⟩:=WG I.d7 e
  exact z.typeIs
 ·obtain⟨_,_,h,_,z⟩:=cf I.d7 e
  exact z.typeIs
noncomputable def eJ(t ty:TE):TE:=λd H Q=>t d H λx e=>ty d e λy b=>∃a v,x = .ref a/\tu b a y (b8 v)/\Q v b
section
variable{X:Cx}{o i e value:dV}{pos pos' r6:d9}{td ty tv:TE}
theorem Wu(B:X.A.units+1<t2)(J:PE X o td)(hi:PE X i ty)(M:gJ i):PE X (.Subscript o i pos) (eJ td ty):=by intro b s d H Q I h;refine V2 PySem.F.slot_dict_getitem.lookup M<|d3 (J b s d H _ I h) λu n ⟨x,e,O,R,U⟩=>d3 (hi b n d e _ O U) λp r ⟨y,f,z,W,a,v,m,g,Y⟩=>?_;subst m;obtain rfl:u=nJ a:=R;exact⟨Jl z g,KA B z g W λw t j l=>⟨v,f,j,l,Y⟩⟩
end
theorem YX(h:d6)(z:r0<h.objs.size):gq P w H (h.push {cls:= .type "dict",data:= .dict #[]}) h.objs.size (.dK []):=
 ⟨oO _,beq_eq_false_iff_ne.mpr<|nW<|nt z,[],.nil,Heap.DictOf.new h⟩
noncomputable def Xt:List (TE×TE)->St->Hp->(List (V×V)->Hp->Prop)->Prop
 | [],_,H,Q=>Q [] H
 | (tk,tv)::r,σ,H,Q=>tk σ H λx a=>tv σ a λy b=>Xt r σ b λd z=>Q ((x,y)::d) z
abbrev VV:List (V×V)->List (di×di)->Prop:=Paired λp q=>RelV p.1 q.1/\RelV p.2 q.2
noncomputable def uu(X:Cx)(pos:d9)(z:List (Option dV))(B:List dV)(I:List (TE×TE)):Prop:=
 ∀(a:GW) (s:d0) (b:St) (H:Hp) (Q:List (V×V)->Hp->Prop),Inv X a b H s->Xt I b H Q->
  wpAny (d4 X.prog X.w) X.A (evalPairs<|pairTrees z B X.env pos) (λg f=>∃e d,Inv X a b d f/\VV e g/\Q e d) X.xe s
theorem Wm{X:Cx}{pos:d9}:uu X pos [] [] []:=λa s b H Q I h=>pairTrees_nil_walk ⟨[],H,I,.nil,h⟩
theorem JN{X:Cx}{pos:d9}{k v:dV}{t:List (Option dV)}{G:List dV}{z C:TE}{B:List (TE×TE)}(J:PE X k z)(M:PE X v C)(O:uu X pos t G B) :
 uu X pos (b8 k::t) (v::G) ((z,C)::B):=λa s b H Q I h=>
 pairTrees_cons_walk (d3 (J a s b H _ I h) λu o ⟨x,d,R,U,W⟩=>d3 (M a o b d _ R W) λw p ⟨y,e,Y,n,l⟩=>
  d3 (O a p b e _ Y l) λws r ⟨j,f,g,i,m⟩=>⟨(x,y)::j,f,g,.cons ⟨U,n⟩ i,m⟩)
noncomputable def xw(t more:List (Key×V)):List (Key×V):=more.foldl (λacc z=>K3 acc z.1 z.2) t
theorem KV.merge : ∀{more:List (Key×V)} {z:List (Key×di)} {C:List (Key×V)} {G:List (Key×di)},KV more z->KV C G->KV (xw C more) (merged G z):=by
 intro more z C G r;unfold KV at r
 induction r generalizing C G with
 | nil=>intro q;exact q
 | @cons p q a J h t B=>
  intro I;have e:KV (K3 C p.1 p.2) (stored G q.1 q.2):=by have:=I.put p.1 h.2;rw[<- h.1];exact this
  exact B e
theorem ke : ∀(more t:List (Key×V)),(xw t more).length<=t.length+more.length
 | [],t=>by show t.length<=t.length+0;omega
 | p::r,t=>by have a:=ke r<|K3 t p.1 p.2;have b:=Jf t p.1 p.2;show(xw (K3 t p.1 p.2) r).length<=_;rw[ot];omega
theorem vB{P:fy}{w:eW} : ∀{C:List (Key×V)} {B:List (di×di)},VV (C.map λI=>(kV I.1,I.2)) B->∃z,Carries (jF P w) B z/\KV C z
 | [],_,r=>by rw[sA]at r;cases r;exact⟨[],nQ,.nil⟩
 | p::C,_,r=>by
  rw[nj]at r;cases r with
  | @cons a b J bs h t=>
   obtain⟨z,c,q⟩:=vB (P:=P) (w:=w) t;obtain⟨b1,b2⟩:=b;exact⟨(p.1,b2)::z,⟨WC h.1,rfl,c⟩,.cons ⟨rfl,h.2⟩ q⟩
noncomputable def eI(B:List (TE×TE)):TE:=λe H Q=>∀p,H p=cp->Xt B e (upd H p<|.dK []) λd b=>b p=b8 (.dK [])/\∃a:List (Key×V),d=a.map (λz=>(kV z.1,z.2))/\a.length<=15/\Q (.ref p) (upd b p<|.dK<|xw [] a)
theorem Wt{X:Cx}{pos:d9}{B:List (Option dV)}{J:List dV}{M:List (TE×TE)}(h:uu X pos B J M)(U:B.all (·.isSome)=b9)(W:B.length=J.length)(Y:B ≠ [])
 (a0:B.length<=15):PE X (.Dict B J pos) (eI M):=by
 intro d s E H Q I q;have p:=I.d7.fresh (mN s.heap.objs.size);have f:=I.laid (a:=s.heap.objs.size) (o:= .dK []) (h':=s.heap.push {cls:= .type "dict",data:= .dict #[]}) (t':=s.toks) (λ_ _ q=>mF _ q) (mN _) (YX s.heap I.big);refine wpAny_Dict_walk (knd:=jF X.prog X.w) U W Y a0 (d3 (h d _ E _ _ f (q _ p)) λws L ⟨K,F,O,g,e,b,j,lk,x⟩=>?_);subst j;obtain⟨C,c,A⟩:=vB (P:=X.prog) (w:=X.w) g;obtain⟨z,m,G,y,i⟩:=cj O.d7 e;cases y;refine⟨C,c,i,λh' R t=>⟨.ref s.heap.objs.size,_,?_,rfl,x⟩⟩;have u:(xw [] b).length<=ej:=by have l:=ke b [];rw[rH]at l;rw[sizeLine_eq];omega
 have n : ∃q,h'.get? s.heap.objs.size=b8 q:=let ⟨q,_,_,r,_⟩:=R;⟨q,r⟩;exact WH O (by rw[e];exact nQ) t n<|ck u m (A.merge .nil) R
end L2
namespace DL
open PySem PySem.Spec PyProof.Rows L2
noncomputable def zp:List Str:=["NoPrime","Nought","NoTable","NoWidths","NoRow","Unlike","TooMany","NoTurn","NoLine","Nothing","NoArrow","NoText","NoRoom"]
noncomputable def cO(K:mD)(c:Str):Option c8:=match pL K iv c with
 | some (b8 (.ref C))=>b8 C
 | _=>cp
noncomputable def iQ(K:mD)(C:c8):Bool:=
 ["int","bool","str","tuple","list"].all (λt=>oq K (.ref C) (.type t)==b8 cq) && oq K (.ref C) (.type "ValueError")==b8 b9 &&
 pQ K (.ref C) "__getattribute__" == b8 (b8 (.builtin "BaseException.__getattribute__")) && pQ K (.ref C) "__getattr__" == b8 cp &&
 pQ K (.ref C) "__class__" == b8 (b8 (.builtin "object.__class__")) && PySem.W.mroIn K C (.type "object")==b8 b9 && PySem.W.mroIn K C (.type "BaseException")==b8 b9 &&
 PySem.W.specialIn K (.builtin "object.__class__") "__get__" == b8 (b8 (.builtin "getset_descriptor.__get__")) && PySem.W.takesIn K (.builtin "object.__class__")==b8 b9 &&
 (PySem.W.clsIn K C).any (λz=> !z.hasDel) && PySem.W.typeIn K (.ref C)==b8 (.type "type")
noncomputable def iR(K:mD):Bool:=match cO K "SplitError" with
 | some S=>zp.all λc=>match cO K c with
  | some C=>iQ K C && oq K (.ref C) (.ref S)==b8 b9 && zp.all λz=>match cO K z with
   | some B=>oq K (.ref C) (.ref B)==b8 (c==z)
   | none=>cq
  | none=>cq
 | none=>cq
noncomputable def me(h:d6)(a:c8)(C:c8):Prop:=∃o b,h.get? a=b8 o/\o.cls = .ref C/\o.data = .fields b
structure uV(K:mD)(H:Hp)(c:Str)(n:Option Int)(a:c8):Prop where
 all:iR K=b9
 mem:c∈zp
 ex : ∃C φ,cO K c=b8 C/\H a=b8 (.ext φ)/\(∀h,φ h->me h a C)/\
  match n with
  | none=>True
  | some i=>∃d,(∀h,φ h->∃o,h.get? a=b8 o/\o.dict=b8 d)/\H d=b8 (.xd [(if c==("NoRoom" : Str)then "room" else "at",.int i)])
theorem uV.mono{K:mD}{H t:Hp}{c:Str}{n:Option Int}{a:c8}(e : ∀b o,H b=b8 o->t b=b8 o)(h:uV K H c n a):uV K t c n a:=by
 obtain⟨f,g,C,j,B,g2,I,z⟩:=h;refine⟨f,g,C,j,B,e _ _ g2,I,?_⟩;cases n with
 | none=>exact z
 | some i=>obtain⟨d,J,M⟩:=z;exact⟨d,J,e _ _ M⟩
abbrev St:=L2.St
noncomputable def fI:D->Option Key
 | .int i=>b8 (.inl i)
 | .str x=>b8 (.inr x)
 | _=>cp
noncomputable def Vv:List D->Option (List Key)
 | []=>b8 []
 | d::ds=>(fI d).bind λk=>(Vv ds).map λr=>k::r
noncomputable def tP(H:Hp)(a:c8)(t:List D)(xs:List V):Prop:=∃b,Vv t=b8 b/\b.length=xs.length/\H a=b8 (.dK<|b.zip xs)
noncomputable def eB(k:List Int):Int:=reduceHash<|Builtin.Tuple.tupleHashOf<|k.map hashInt
noncomputable def mi(o:h9)(xs:List (List Int×c8×di)):Prop:=o.ExactDict/\∃a z,o.data = .dict a z/\a.toList=xs.map (λx=>⟨eB x.1,.ref x.2.1,x.2.2⟩)/\(xs.map (·.1)).Nodup
def uX(a:c8)(o:h9):HO:= .ext λh=>h.get? a=b8 o
noncomputable def tR(K:mD)(H:Hp)(a:c8)(t:List (List Int))(z:List V):Prop:=
 (a==r0)=cq/\∃o b,H a=b8 (uX a o)/\mi o b/\b.map (·.1)=t/\b.length<=ej/\(∀x∈b,eu K H x.2.1<|x.1.map V.int)/\d5 z (b.map (·.2.2))
mutual
def Rep(K:mD)(H:Hp):D->V->Prop
 | .ea,v=>v = .ea
 | .bl b,v=>v = .bl b
 | .int i,v=>v = .int i
 | .str x,v=>v = .str x
 | .tup ds,v=>∃a d,v = .ref a/\eu K H a d/\dy K H ds d
 | .lst ds,v=>∃a d,v = .ref a/\el K H a d/\dy K H ds d
 | .hA ks vs,v=>∃a d,v = .ref a/\tP H a ks d/\dy K H vs d
 | .f7 ks vs,v=>∃a d,v = .ref a/\tR K H a ks d/\dy K H vs d
def dy(K:mD)(H:Hp):List D->List V->Prop
 | [],xs=>xs=[]
 | d::ds,xs=>∃x r,xs=x::r/\Rep K H d x/\dy K H ds r
end
theorem i6{K:mD}{H t:Hp}{a:c8}{xs:List V}(e:ei H t)(h:eu K H a xs):eu K t a xs:=by
 rcases h with(h | ⟨o,h⟩) | h
 ·exact .inl<|.inl<|e _ _ h
 ·exact .inl<|.inr ⟨o,e _ _ h⟩
 ·exact .inr h
theorem wO{k:Sk}{K:mD}{H t:Hp}{a:c8}{xs:List V}(e:ei H t)(h:h5 k K H a xs):h5 k K t a xs:=by
 cases k
 ·exact e.seq h
 ·exact i6 e h
mutual
theorem Rep.mono{K:mD}{H t:Hp}(e:ei H t) : ∀{d:D} {v:V},Rep K H d v->Rep K t d v
 | .ea,_,h=>h
 | .bl _,_,h=>h
 | .int _,_,h=>h
 | .str _,_,h=>h
 | .tup ds,v,h=>by obtain⟨a,b,f,i,g⟩:=(show ∃a b,v = .ref a/\eu K H a b/\dy K H ds b from h);exact(show ∃a b,v = .ref a/\eu K t a b/\dy K t ds b from⟨a,b,f,i6 e i,dy.mono e g⟩)
 | .lst ds,v,h=>by obtain⟨a,b,f,i,g⟩:=(show ∃a b,v = .ref a/\el K H a b/\dy K H ds b from h);exact(show ∃a b,v = .ref a/\el K t a b/\dy K t ds b from⟨a,b,f,e.seq i,dy.mono e g⟩)
 | .hA ks vs,v,h=>by obtain⟨a,b,f,⟨j,z,g2,B⟩,g⟩:=(show ∃a b,v = .ref a/\tP H a ks b/\dy K H vs b from h);exact(show ∃a b,v = .ref a/\tP t a ks b/\dy K t vs b from⟨a,b,f,⟨j,z,g2,e _ _ B⟩,dy.mono e g⟩)
 | .f7 ks vs,v,h=>by obtain⟨a,b,f,⟨z,o,l,g2,B,I,J,g6,M⟩,g⟩:=(show ∃a b,v = .ref a/\tR K H a ks b/\dy K H vs b from h);exact(show ∃a b,v = .ref a/\tR K t a ks b/\dy K t vs b from⟨a,b,f,⟨z,o,l,e _ _ g2,B,I,J,λx O=>i6 e<|g6 x O,M⟩,dy.mono e g⟩)
theorem dy.mono{K:mD}{H z:Hp}(e:ei H z) : ∀{t:List D} {xs:List V},dy K H t xs->dy K z t xs
 | [],_,h=>h
 | d::t,xs,h=>by obtain⟨x,r,a,b,f⟩:=(show ∃x r,xs=x::r/\Rep K H d x/\dy K H t r from h);exact(show ∃x r,xs=x::r/\Rep K z d x/\dy K z t r from⟨x,r,a,Rep.mono e b,dy.mono e f⟩)
end
section
variable{K:mD}{H:Hp}
theorem dy.nil:dy K H [] []:=(show([]:List V)=[]from rfl)
theorem dy.cons(h:Rep K H d x)(t:dy K H ds xs):dy K H (d::ds) (x::xs):=⟨x,xs,rfl,h,t⟩
theorem dy.m3(h:dy K H [] xs):xs=[]:=h
theorem dy.i9(h:dy K H (d::ds) xs) : ∃x r,xs=x::r/\Rep K H d x/\dy K H ds r:=h
theorem dy.length : ∀{z:List D} {xs:List V},dy K H z xs->xs.length=z.length
 | [],xs,h=>by rw[h.m3];rfl
 | d::z,xs,h=>by obtain⟨x,r,e,_,t⟩:=h.i9;rw[e,ot,ot,dy.length t]
theorem dy.get : ∀{C:List D} {xs:List V} {i:Nat} {d:D},dy K H C xs->C[i]? = b8 d->∃x,xs[i]? = b8 x/\Rep K H d x
 | [],_,_,_,_,e=>by simp at e
 | c::C,xs,0,d,h,e=>by obtain⟨x,r,a,b,_⟩:=h.i9;simp at e;subst e;exact⟨x,by rw[a];rfl,b⟩
 | c::C,xs,i+1,d,h,e=>by obtain⟨x,r,a,_,t⟩:=h.i9;obtain⟨y,z,g2⟩:=dy.get (i:=i) (d:=d) t (by simpa using e);exact⟨y,by rw[a];simpa using z,g2⟩
theorem dy.uB{t:List D}{xs:List V}{i:Nat}{x:V}(h:dy K H t xs)(e:xs[i]? = b8 x) : ∃d,t[i]? = b8 d/\Rep K H d x:=by
 have b:i<t.length:=by rw[<- h.length];exact(mP.mp e).1
 obtain⟨y,a,r⟩:=h.get<|mO b;rw[e]at a;cases a;exact⟨_,mO b,r⟩
theorem dy.append : ∀{z C:List D} {xs G:List V},dy K H z xs->dy K H C G->dy K H (z++C) (xs++G)
 | [],_,xs,_,h,g=>by rw[h.m3];exact g
 | d::z,C,xs,G,h,g=>by obtain⟨x,r,e,a,t⟩:=h.i9;rw[e];exact dy.cons a<|dy.append t g
theorem dy.drop : ∀{z:List D} {xs:List V} (n:Nat),dy K H z xs->dy K H (z.drop n) (xs.drop n)
 | _,_,0,h=>h
 | [],xs,n+1,h=>by rw[h.m3];exact dy.nil
 | d::z,xs,n+1,h=>by obtain⟨x,r,e,_,t⟩:=h.i9;rw[e];exact dy.drop n t
theorem dy.take : ∀{z:List D} {xs:List V} (n:Nat),dy K H z xs->dy K H (z.take n) (xs.take n)
 | _,_,0,h=>by simp;exact dy.nil
 | [],xs,n+1,h=>by rw[h.m3];exact dy.nil
 | d::z,xs,n+1,h=>by obtain⟨x,r,e,a,t⟩:=h.i9;rw[e];exact dy.cons a<|dy.take n t
theorem dy.set : ∀{z:List D} {xs:List V} {d:D} {x:V} (i:Nat),dy K H z xs->Rep K H d x->dy K H (z.set i d) (xs.set i x)
 | [],xs,_,_,_,h,_=>by rw[h.m3];exact dy.nil
 | c::z,xs,d,x,0,h,g=>by obtain⟨y,r,e,_,t⟩:=h.i9;rw[e];exact dy.cons g t
 | c::z,xs,d,x,i+1,h,g=>by obtain⟨y,r,e,a,t⟩:=h.i9;rw[e];exact dy.cons a<|dy.set i t g
end
structure Ext(H0 H n4 H':Hp):Prop where
 s0:ei H0 n4
 s1:ei H H'
 sub:ei n4 H'
 new : ∀a,H0 a=cp->H a≠cp->n4 a=cp
theorem Ext.refl(s:ei H0 H):Ext H0 H H0 H:=⟨ei.refl _,ei.refl _,s,λ_ h _=>h⟩
theorem Ext.trans(a:Ext H0 H H1 G1)(b:Ext H1 G1 H2 G2):Ext H0 H H2 G2:=
 ⟨a.s0.trans b.s0,a.s1.trans b.s1,b.sub,λc e d=>b.new c (a.new c e d) (by
  cases q:H c with
  | none=>exact absurd q d
  | some o=>rw[a.s1 c o q];simp)⟩
theorem zX(h:H p=cp)(o:HO):ei H (upd H p o):=λb u q=>by rw[zC (z4 q h)];exact q
theorem ji(s:ei H0 H)(h:H p=cp):H0 p=cp:=s.free h
theorem Xz(s:ei H0 H):ei (upd H0 p o) (upd H p o):=λb u q=>by
 by_cases e:b=p
 ·subst e;rw[zE]at q ⊢;exact q
 ·rw[zC e]at q ⊢;exact s b u q
theorem Ext.alloc(s:ei H0 H)(h:H p=cp)(o:HO):Ext H0 H (upd H0 p o) (upd H p o):=
 ⟨zX (ji s h) o,zX h o,Xz s,λa b d=>by rw[zC (λe=>d<|by rw[e];exact h)];exact b⟩
theorem Ext.hide(s:ei H0 H)(h:H p=cp)(o:HO):Ext H0 H H0 (upd H p o):=
 ⟨ei.refl _,zX h o,s.trans<|zX h o,λa b _=>b⟩
theorem Ext.show(e:Ext H0 H n4 H')(t:H a=cp)(C:n4 a=cp)(I:H' a=b8 o)(s:ei H0 H):Ext H0 H (upd n4 a o) H':=
 ⟨e.s0.trans<|zX C o,e.s1,λb u q=>by
  by_cases z:b=a
  ·subst z;rw[zE]at q;rw[I];exact q
  ·rw[zC z]at q;exact e.sub b u q,λb J B=>by
  rw[zC (λz=>B<|by rw[z];exact t)];exact e.new b J B⟩
structure sy(K:mD)(H0 H:Hp)(rows:List (List D))(a:c8)(bs:List c8):Prop where
 a0:H0 a=cp
 ha:H a=b8 (.lst<|bs.map V.ref)
 nd:(a::bs).Nodup
 len:bs.length=rows.length
 row : ∀(k:Nat) b row,bs[k]? = b8 b->rows[k]? = b8 row->H0 b=cp/\∃xs,H b=b8 (.lst xs)/\dy K H0 row xs
theorem sy.at{K:mD}{C H:Hp}{t:List (List D)}{a:c8}{bs:List c8}(n:sy K C H t a bs){b:c8}(z:b∈a::bs):C b=cp/\∃xs,H b=b8 (.lst xs):=by
 rcases mJ.mp z with rfl | z
 ·exact⟨n.a0,_,n.ha⟩
 ·obtain⟨k,B⟩:=List.getElem?_of_mem z
  have I:=(mP.mp B).1;rw[n.len]at I;obtain⟨d,xs,e,_⟩:=n.row k b _ B<|mO I;exact⟨d,xs,e⟩
theorem sy.move{K:mD}{L H C G:Hp}{t:List (List D)}{a:c8}{bs:List c8}(n:sy K L H t a bs)(s:ei L C)(z : ∀b∈a::bs,C b=cp)(h : ∀b∈a::bs,G b=H b):sy K C G t a bs:=
 ⟨z a mM,by rw[h a mM];exact n.ha,n.nd,n.len,λk b row B J=>by obtain⟨_,e,d,M⟩:=n.row k b row B J;have I:b∈a::bs:=mQ _<|rM B;exact⟨z b I,e,by rw[h b I];exact d,M.mono s⟩⟩
noncomputable def i7(K:mD)(C H:Hp)(t:St)(γ:Ctx):Prop:=
 (∀(i:Nat) b,γ[i]? = b8 (.nest b)->∃a bs,t[i]? = b8 (b8 (.ref a))/\sy K C H b a bs/\∀(j:Nat) d c,γ[j]? = b8 (.own d)->t[j]? = b8 (b8 (.ref c))->c∉a::bs)/\
 ∀(i j:Nat) z B,γ[i]? = b8 (.nest z)->γ[j]? = b8 (.nest B)->i=j
theorem i7.uE{K:mD}{C H:Hp}{G:St}{γ:Ctx}(h : ∀(i:Nat) t,γ[i]? ≠ b8 (.nest t)):i7 K C H G γ:=⟨λi t e=>absurd e<|h i t,λi j z B e=>absurd e<|h i z⟩
theorem i7.move{K:mD}{I H C J:Hp}{G:St}{γ:Ctx}(n:i7 K I H G γ)(s:ei I C)(h : ∀(i:Nat) t a bs,γ[i]? = b8 (.nest t)->G[i]? = b8 (b8 (.ref a))->sy K I H t a bs->(∀(j:Nat) L c,γ[j]? = b8 (.own L)->G[j]? = b8 (b8 (.ref c))->c∉a::bs)->∀b∈a::bs,C b=cp/\J b=H b):i7 K C J G γ:=
 ⟨λi t e=>by obtain⟨a,bs,d,f,z⟩:=n.1 i t e;exact⟨a,bs,d,f.move s (λb B=>(h i t a bs e d f z b B).1)<|λb B=>(h i t a bs e d f z b B).2,z⟩,n.2⟩
theorem i7.ext{K:mD}{G H t C:Hp}{I:St}{γ:Ctx}(n:i7 K G H I γ)(e:Ext G H t C):i7 K t C I γ:=
 n.move e.s0 λi d a bs _ _ f _ b z=>by obtain⟨B,g,g2⟩:=f.at z;exact⟨e.new b B (by rw[g2];simp),by rw[e.s1 b _ g2,g2]⟩
structure RC(K:mD)(H0 H:Hp)(σ:St)(γ:Ctx):Prop where
 sub:ei H0 H
 len:σ.length=γ.length
 val : ∀(i:Nat) d,γ[i]? = b8 (.val d)->∃v,σ[i]? = b8 (b8 v)/\Rep K H0 d v
 own : ∀(i:Nat) ds,γ[i]? = b8 (.own ds)->∃a xs,σ[i]? = b8 (b8 (.ref a))/\H0 a=cp/\H a=b8 (.lst xs)/\dy K H0 ds xs
 ne : ∀(i j:Nat) a ds es,γ[i]? = b8 (.own ds)->γ[j]? = b8 (.own es)->σ[i]? = b8 (b8 (.ref a))->σ[j]? = b8 (b8 (.ref a))->i=j
 p5:i7 K H0 H σ γ
theorem RC.ext{K:mD}{G H t C:Hp}{I:St}{γ:Ctx}(r:RC K G H I γ)(e:Ext G H t C):RC K t C I γ:=
 ⟨e.sub,r.len,λi d h=>let ⟨v,b,f⟩:=r.val i d h;⟨v,b,f.mono e.s0⟩,
  λi g h=>let ⟨a,j,b,f,z,B⟩:=r.own i g h;⟨a,j,b,e.new a f (by rw[z];simp),e.s1 _ _ z,B.mono e.s0⟩,r.ne,r.p5.ext e⟩
noncomputable def tV(K:mD)(f:CO D):TE:=λh H Q=>∃e g d,RC K e H h g/\f g=b8 d/\∀v b a,Ext e H a b->Rep K a d v->Q v b
noncomputable def tQ(K:mD)(f:CO (Sk×List D)):TE:=λj H Q=>∃g i k h,RC K g H j i/\f i=b8 (k,h)/\∀a e d b,Ext g H b d->h5 k K d a e->(k = .T->eu K b a e)->dy K b h e->Q (.ref a) d
noncomputable def tO(K:mD)(f:CO (List D)):TE:=λj H Q=>∃e i g,RC K e H j i/\f i=b8 g/\
 ∀a h d b,Ext e H b d->H a=cp->b a=cp->d a=b8 (.lst h)->dy K b g h->Q (.ref a) d
noncomputable def tT(K:mD)(f:CO Bool):TT:=λh H Q=>∃e g b,RC K e H h g/\f g=b8 b/\∀d a,Ext e H a d->Q b d
noncomputable def tA(K:mD)(f:CO (List D)):TA:=λi H Q=>∃d h e,RC K d H i h/\f h=b8 e/\∀g b a,Ext d H a b->dy K a e g->Q g b
abbrev PV(X:Cx)(e:dV)(f:CO D):Prop:=PE X e (tV X.K f)
abbrev PQ(X:Cx)(e:dV)(f:CO (Sk×List D)):Prop:=PE X e (tQ X.K f)
abbrev PO(X:Cx)(e:dV)(f:CO (List D)):Prop:=PE X e (tO X.K f)
abbrev i8(X:Cx)(e:dV)(f:CO Bool):Prop:=PT X e (tT X.K f)
abbrev sS(X:Cx)(e:dV)(f:CO Bool):Prop:=PW X e (tT X.K f)
abbrev o7(X:Cx)(es:List dV)(f:CO (List D)):Prop:=PA X es (tA X.K f)
theorem z9(h:PE X e t)(i : ∀z H Q,t' z H Q->t z H Q):PE X e t':=λa s z H Q I q=>h a s z H Q I<|i z H Q q
theorem XT(h:PT X e t)(i : ∀z H Q,t' z H Q->t z H Q):PT X e t':=λa s z H Q I q=>h a s z H Q I<|i z H Q q
theorem aH(h:PW X e t)(i : ∀C H Q,t' C H Q->t C H Q):PW X e t':=λz a s C H Q I q=>h z a s C H Q I<|i C H Q q
theorem bw(h:PA X es t)(i : ∀z H Q,t' z H Q->t z H Q):PA X es t':=λpos a s z H Q I q=>h pos a s z H Q I<|i z H Q q
theorem kA{X:Cx}{st:e7}{t t':TS}(h:PS X st t)(i : ∀D z H,t' D z H->t D z H):PS X st t':=λa s z H D I q=>h a s z H D I<|i D z H q
theorem Vl{X:Cx}{st:List e7}{t t':TS}(h:jn X st t)(i : ∀D z H,t' D z H->t D z H):jn X st t':=λa s z H D I q=>h a s z H D I<|i D z H q
theorem QV(h:PI X tg e t)(i : ∀z H R,t' z H R->t z H R):PI X tg e t':=λa s z H R I q=>h a s z H R I<|i z H R q
theorem kD(h:n<=lim):n<=ej:=nc h ⋯
section
variable{X:Cx}{e a b c:dV}{pos:d9}
theorem PV.q(h:PV X e f):PQ X e (zO f):=z9 h λt H Q J=>by
 obtain⟨s,p,k,i,rc,B,q⟩:=J;unfold zO at B;cases e1:f p with
 | none=>rw[e1]at B;cases B
 | some d=>
  rw[e1]at B;refine⟨s,p,d,rc,e1,λv o b ext r=>?_⟩;cases d with
  | tup m=>
   obtain⟨l,I⟩:k = .T/\i=m:=by simp[jG]at B;exact⟨B.1.symm,B.2.symm⟩
   subst l I;obtain⟨a,g,rfl,j,n⟩:=(show ∃a g,v = .ref a/\eu X.K b a g/\dy X.K b i g from r);exact q a g o b ext (i6 ext.sub j) (λ_=>j) n
  | lst m=>
   obtain⟨l,I⟩:k = .L/\i=m:=by simp[jG]at B;exact⟨B.1.symm,B.2.symm⟩
   subst l I;obtain⟨a,g,rfl,j,n⟩:=(show ∃a g,v = .ref a/\el X.K b a g/\dy X.K b i g from r);exact q a g o b ext (ext.sub.seq j) (λz=>nomatch z) n
  | _=>simp[jG]at B
theorem PO.v(h:PO X e f):PV X e (wA f):=z9 h λp H Q J=>by
 obtain⟨j,i,d,rc,z,q⟩:=J;unfold wA at z;cases e1:f i with
 | none=>rw[e1]at z;cases z
 | some b=>
  rw[e1]at z;cases z;refine⟨j,i,b,rc,e1,λa n o l ext m g M r=>?_⟩;exact q _ _ _ (ext.show m g M rc.sub) (show ∃B I,V.ref a = .ref B/\el X.K _ B I/\dy X.K _ b I from⟨a,n,rfl,el.of zE,r.mono<|zX g _⟩)
theorem PO.q(h:PO X e f):PQ X e (zV f):=z9 h λp H Q I=>by
 obtain⟨i,d,k,l,rc,B,q⟩:=I;unfold zV at B;cases e1:f d with
 | none=>rw[e1]at B;cases B
 | some m=>
  rw[e1]at B;cases B;exact⟨i,d,_,rc,e1,λa j g b ext n o J r=>q a j g b ext (el.of J) (λz=>nomatch z) r⟩
theorem aI(i:Nat)(h:PE X e (W9 i)):PV X e (zf i):=z9 h λn H Q B=>by
 obtain⟨b,j,d,rc,z,q⟩:=B;unfold zf at z;cases e1:j[i]? with
 | none=>rw[e1]at z;cases z
 | some c=>
  rw[e1]at z;cases c with
  | val l=>
   cases z;obtain⟨v,f,g⟩:=rc.val i d e1;exact⟨v,f,q v H b (Ext.refl rc.sub) g⟩
  | no=>cases z
  | own m=>cases z
  | nest a=>cases z
theorem aR(i:Nat)(h:PE X e (W9 i)):PQ X e (zk i):=z9 h λr H Q M=>by
 obtain⟨f,p,k,g,rc,B,q⟩:=M;unfold zk at B;cases e1:p[i]? with
 | none=>rw[e1]at B;cases B
 | some c=>
  rw[e1]at B;cases c with
  | no=>cases B
  | nest o=>cases B
  | own j=>
   cases B;obtain⟨a,b,m,n,O,R⟩:=rc.own i g e1;exact⟨_,m,q a b H f (Ext.refl rc.sub) (el.of O) (λz=>nomatch z) R⟩
  | val d=>
   obtain⟨v,m,n⟩:=rc.val i d e1;refine⟨v,m,?_⟩;cases d with
   | tup j=>
    obtain⟨l,J⟩:k = .T/\g=j:=by simp[kI,jG]at B;exact⟨B.1.symm,B.2.symm⟩
    subst l J;obtain⟨a,b,rfl,I,g2⟩:=(show ∃a b,v = .ref a/\eu X.K f a b/\dy X.K f g b from n);exact q a b H f (Ext.refl rc.sub) (i6 rc.sub I) (λ_=>I) g2
   | lst j=>
    obtain⟨l,J⟩:k = .L/\g=j:=by simp[kI,jG]at B;exact⟨B.1.symm,B.2.symm⟩
    subst l J;obtain⟨a,b,rfl,I,g2⟩:=(show ∃a b,v = .ref a/\el X.K f a b/\dy X.K f g b from n);exact q a b H f (Ext.refl rc.sub) (rc.sub.seq I) (λz=>nomatch z) g2
   | _=>simp[kI,jG]at B
theorem vM(h:PE X e (tC v))(r : ∀H,Rep X.K H d v):PV X e (zh d):=z9 h λg H Q z=>by obtain⟨a,f,b,rc,B,q⟩:=z;cases B;exact q v H a (Ext.refl rc.sub)<|r a
theorem zd:PV X (.Constant (.int i) j pos) (zh<|.int i):=vM bq λ_=>(show V.int i = .int i from rfl)
theorem k7:PV X (.Constant (.bool x) j pos) (zh<|.bl x):=vM fB λ_=>(show V.bl x = .bl x from rfl)
theorem zR:PV X (.Constant (.str x) j pos) (zh<|.str x):=vM X5 λ_=>(show V.str x = .str x from rfl)
noncomputable def h3(K:mD)(r:R2)(F:D->D->Option D):Prop:=∀b H x y f z d Q,ei b H->Rep K b f x->Rep K b z y->F f z=b8 d->(∀v e a,Ext b H a e->Rep K a d v->Q v e)->r x y H Q
theorem zb(h:o.bind f=b8 y) : ∃x,o=b8 x/\f x=b8 y:=by
 cases o with
 | none=>cases h
 | some x=>exact⟨x,rfl,h⟩
theorem ZT{K:mD}{r:R2}{F:D->D->Option D}{C G:CO D}(I:h3 K r F) : ∀t H Q,tV K (zv F C G) t H Q->uf r (tV K C) (tV K G) t H Q:=λt H Q J=>by obtain⟨f,b,d,rc,z,q⟩:=J;obtain⟨x,h,z⟩:=zb z;obtain⟨y,i,z⟩:=zb z;refine⟨f,b,x,rc,h,λM l O x1 R=>⟨O,b,y,rc.ext x1,i,λU g W B Y=>?_⟩⟩;exact I W g M U x y d Q B.sub (R.mono B.s0) Y z λv e a x3 j=>q v e a (x1.trans<|B.trans x3) j
theorem vq(z:fh X (nf op) r)(B:h3 X.K r F)(t:PV X a fa)(I:PV X b fb):PV X (.BinOp a op b pos) (zv F fa fb):=
 z9 (bf z t I) (ZT B)
theorem w6(z:fh X (ij op) r)(B:h3 X.K r F)(t:PV X a fa)(I:PV X b fb)(C:pa op b=cq):PV X (.Compare a [op] [b] pos) (zv F fa fb):=
 z9 (vP z t I C) (ZT B)
theorem yk{d:D}{b:Bool}(h:m9 d=b8 b):d = .bl b:=by cases d<;>simp[m9]at h;rw[h]
theorem ZQ(B:fh X (ij op) r)(I:h3 X.K r F)(t:PV X a fa)(J:PV X b fb)(C:pa op b=cq):i8 X (.Compare a [op] [b] pos) (sB<|zv F fa fb):=
 XT (XS B t J C) λj H Q M=>by obtain⟨g,i,k,rc,z,q⟩:=M;obtain⟨d,h,z⟩:=zb z;refine ZT I j H _ ⟨g,i,d,rc,h,λv f e x r=>?_⟩;rw[yk z]at r;exact⟨k,r,q f e x⟩
theorem zJ{f:CO D}(h:PV X e f)(I : ∀B,t8 e X.env B=(do let v <- B;x4 e.pos;s8 [v] (truthy v)):=by intro _;rfl):i8 X e (sB f):=
 XT (aM h I) λl H Q J=>by obtain⟨g,j,k,rc,z,q⟩:=J;obtain⟨d,i,z⟩:=zb z;refine⟨g,j,d,rc,i,λv b a x r=>?_⟩;rw[yk z]at r;exact⟨k,r,q b a x⟩
theorem JJ(h:i8 X a f):sS X (.BoolOp .And [a] pos) f:=Wc h
theorem jZ(h:i8 X a f):sS X (.BoolOp .Or [a] pos) f:=aF h
theorem XJ{f g:CO Bool}{xu:List dV}(t:i8 X a f)(B:sS X (.BoolOp .And (b::xu) pos) g):sS X (.BoolOp .And (a::b::xu) pos) (Ym f g):=
 aH (aG t B) λm H Q I=>by
  obtain⟨i,e,k,rc,z,q⟩:=I;obtain⟨c,l,z⟩:=zb z;refine⟨i,e,c,rc,l,λh d x=>?_⟩;cases c with
  | true=>rw[GY rfl]at z ⊢;exact⟨d,e,k,rc.ext x,z,λj J M=>q j J<|x.trans M⟩
  | false=>rw[MQ mW]at z ⊢;cases z;exact q h d x
theorem jy{f g:CO Bool}{xu:List dV}(t:i8 X a f)(B:sS X (.BoolOp .Or (b::xu) pos) g):sS X (.BoolOp .Or (a::b::xu) pos) (xr f g):=
 aH (fi t B) λm H Q I=>by
  obtain⟨i,e,k,rc,z,q⟩:=I;obtain⟨c,l,z⟩:=zb z;refine⟨i,e,c,rc,l,λh d x=>?_⟩;cases c with
  | true=>rw[GY rfl]at z ⊢;cases z;exact q h d x
  | false=>rw[MQ mW]at z ⊢;exact⟨d,e,k,rc.ext x,z,λj J M=>q j J<|x.trans M⟩
theorem zK(t:i8 X a f):i8 X (.UnaryOp .Not a pos) (zW f):=
 XT (aN t) λh H Q B=>by
  obtain⟨g,d,k,rc,z,q⟩:=B;unfold zW at z;cases e1:f d with
  | none=>rw[e1]at z;cases z
  | some c=>rw[e1]at z;cases z;exact⟨g,d,c,rc,e1,λe b x=>q e b x⟩
theorem xX(h:sS X e f):i8 X e f:=h.pt
theorem kQ(h:PV X a f):PV X (.BoolOp op [a] pos) f:=bh h
theorem kR{f g:CO D}{xu:List dV}(t:PV X a f)(B:PV X (.BoolOp .And (b::xu) pos) g):PV X (.BoolOp .And (a::b::xu) pos) (XF f g):=
 z9 (br t B) λn H Q I=>by
  obtain⟨l,i,d,rc,z,q⟩:=I;obtain⟨c,h,z⟩:=zb z;obtain⟨J,M,h⟩:=zb h;refine⟨l,i,J,rc,M,λv j e x r=>?_⟩;rw[yk h]at r;refine⟨c,r,?_⟩;cases c with
  | true=>rw[GY rfl]at z ⊢;exact⟨e,i,d,rc.ext x,z,λO m R U W=>q O m R (x.trans U) W⟩
  | false=>rw[MQ mW]at z ⊢;cases z;exact q _ j e x (show V.bl cq = .bl cq from rfl)
theorem Vi(t:PV X a f):PV X (.UnaryOp .Not a pos) (cQ f):=
 z9 (bj t) λi H Q I=>by
  obtain⟨h,e,d,rc,z,q⟩:=I;unfold cQ at z;cases e1:f e with
  | none=>rw[e1]at z;cases z
  | some B=>
   rw[e1]at z;refine⟨h,e,B,rc,e1,λv g b x r=>?_⟩;cases B with
   | bl c=>cases z;exact⟨c,r,q _ g b x<|show V.bl (!c) = .bl (!c)from rfl⟩
   | _=>cases z
theorem yh(O:i8 X c k)(C:PV X a f)(R:PV X b g):PV X (.IfExp c a b pos) (WZ k f g):=
 z9 (YC O C R) λn H Q U=>by
  obtain⟨j,i,d,rc,z,q⟩:=U;obtain⟨t,l,z⟩:=zb z;refine⟨j,i,t,rc,l,λm e x=>?_⟩;cases t with
  | true=>rw[GY rfl]at z ⊢;exact⟨e,i,d,rc.ext x,z,λB h I J M=>q B h I (x.trans J) M⟩
  | false=>rw[MQ mW]at z ⊢;exact⟨e,i,d,rc.ext x,z,λB h I J M=>q B h I (x.trans J) M⟩
theorem Wv:o7 X [] zB:=bw j0 λe H Q z=>by obtain⟨a,d,b,rc,B,q⟩:=z;cases B;exact q [] H a (Ext.refl rc.sub) dy.nil
theorem YF(t:PV X e f)(I:o7 X es g)(J:eg (e::es) X.env=(cq,d1 e X.env)::eg es X.env:=by rfl):o7 X (e::es) (zc f g):=
 bw (jl t I J) λn H Q M=>by
  obtain⟨d,b,m,rc,z,q⟩:=M;obtain⟨x,i,z⟩:=zb z;cases a:g b with
  | none=>rw[a]at z;cases z
  | some r=>
   rw[a]at z;cases z;exact⟨d,b,x,rc,i,λv l O x1 R=>⟨O,b,r,rc.ext x1,a,λj h U B W=>q (v::j) h U (x1.trans B)<|dy.cons (R.mono B.s0) W⟩⟩
theorem qh(h:o7 X es f):PV X (.Tuple es x1 pos) (yZ f):=
 z9 (bc h) λn H Q M=>by
  obtain⟨g,l,d,rc,z,q⟩:=M;obtain⟨b,i,z⟩:=zb z;by_cases B:b.length<=lim
  ·rw[GY B]at z;cases z
   refine⟨g,l,b,rc,i,λj m O x1 I=>⟨kD (by rw[I.length];exact B),λp J=>?_⟩⟩;exact q _ _ _ (x1.trans<|Ext.alloc x1.sub J _) (show ∃a e,V.ref p = .ref a/\eu X.K _ a e/\dy X.K _ b e from⟨p,j,rfl,eu.of zE,I.mono<|zX (ji x1.sub J) _⟩)
  ·rw[MQ B]at z;cases z
theorem xZ(h:o7 X es f):PO X (.List es pos) (xT f):=
 z9 (bo h) λl H Q O=>by
  obtain⟨a,i,d,rc,B,q⟩:=O;obtain⟨b,e,B⟩:=zb B;by_cases J:b.length<=lim
  ·rw[GY J]at B;cases B
   refine⟨a,i,_,rc,e,λg j R x1 M=>⟨kD (by rw[M.length];exact J),λp I=>?_⟩⟩;exact q p g _ R (x1.trans<|Ext.hide x1.sub I _) (by
    cases z:H p with
    | none=>rfl
    | some o=>rw[x1.s1 p o z]at I;cases I) (ji x1.sub I) zE M
  ·rw[MQ J]at B;cases B
end
noncomputable def mq(i:Nat)(f:CO D)(γ:Ctx):Option D:=(qt γ[i]?).bind λa=>(f<|γ.set i<|.val<|.lst a).bind λd=>if fR d=b9 then b8 d else cp
noncomputable def lH(i:Nat)(f:CO Bool)(γ:Ctx):Option Bool:=(qt γ[i]?).bind λa=>f<|γ.set i<|.val<|.lst a
noncomputable def gT(i:Nat)(γ:Ctx):Option Fl:=(qt γ[i]?).map λ_=> .next (γ.set i<|.own [])
noncomputable def yc(t:List D):List D:=(mG t.length).map λ(i:Nat)=>D.tup [.int i,t[i]?.getD .ea]
noncomputable def lC(f:CO D)(γ:Ctx):Option (List D):=(f γ).bind λd=>match d with
 | .tup a=>b8 (yc a)
 | _=>cp
noncomputable def Kq:List D->Option (List Int)
 | []=>b8 []
 | .int i::r=>(Kq r).map λl=>i::l
 | _::_=>cp
noncomputable def gP(f:CO D)(g:CO (Sk×List D))(γ:Ctx):Option D:=(f γ).bind λd=>(g γ).bind λa=>(hH d).bind λi=>(Kq a.2).map λl=> .bl (decide<|i∈l)
noncomputable def Ky(k:Int):List Int->Option Nat
 | []=>cp
 | i::r=>if i=k then b8 0 else (Ky k r).map (· + 1)
noncomputable def ml(f g:CO D)(γ:Ctx):Option D:=(f γ).bind λd=>((g γ).bind hH).bind λk=>match d with
 | .tup a=>(Kq a).bind λl=>(Ky k l).map λ(j:Nat)=>D.int (j:Int)
 | _=>cp
noncomputable def KC(T:Tg)(f:CO (List D))(γ:Ctx):List D->Option (List<|List D)
 | []=>b8 []
 | d::ds=>(qB T d γ).bind λz=>(f z).bind λe=>(KC T f γ ds).map λr=>e::r
noncomputable def gS(t:CO (List D))(T:Tg)(n:Nat)(z:List Nat)(f:CO (List D))(γ:Ctx):Option (List<|List D):=(t γ).bind λa=>if a.length<=lim then KC T f (qb n z γ) a else cp
noncomputable def we:Option Cell->Option (List<|List D)
 | some (.nest rows)=>b8 rows
 | _=>cp
noncomputable def Vf(γ:Ctx)(j i:Nat)(r:List D):Ctx:=(γ.set j .no).set i (.own r)
noncomputable def JY(j i:Nat)(g f:CO D)(γ:Ctx):List (List D)->Option (List<|List D)
 | []=>b8 []
 | r::rs=>(f<|Vf γ j i r).bind λd=>((g<|Vf γ j i r).bind hH).bind λk=>(g5 r.length k).bind λm=>(JY j i g f γ rs).map λt=>r.set m d::t
noncomputable def eU(j i:Nat)(g f:CO D)(γ:Ctx):Option Fl:=(we γ[j]?).bind λa=>if i=j\/γ.length<=i then cp else (JY j i g f γ a).map λz=> .next ((γ.set j<|.nest z).set i .no)
noncomputable def mm(i:Nat)(F:CO Fl)(γ:Ctx):Option Fl:=(qt γ[i]?).bind λa=>F<|γ.set i<|.val<|.lst a
noncomputable def lB(i:Nat)(F:CO Fl)(γ:Ctx):Option Fl:=(we γ[i]?).bind λa=>F<|γ.set i<|.val<|.lst<|a.map D.lst
noncomputable def gN(is:List Nat)(f:CO D)(γ:Ctx):Option Fl:=(f γ).bind λd=>match d with
 | .lst a=>if a.length=is.length then b8 (.next<|jB is a γ)else cp
 | _=>cp
noncomputable def yo:List D->Option (List Str)
 | []=>b8 []
 | .str x::r=>(yo r).map λl=>x::l
 | _::_=>cp
def zm(x:Str):Bool:=decide<|x.length<=1000
noncomputable def xp(f:CO D)(g:CO (Sk×List D))(γ:Ctx):Option D:=(f γ).bind λd=>(g γ).bind λa=>match d,a.1 with
 | .str sep,.L=>(yo a.2).bind λl=>if l.length<=lim/\l.all zm=b9/\zm sep=b9 then b8 (.str<|oH sep l)else cp
 | _,_=>cp
noncomputable def qg(f g:CO D)(γ:Ctx):Option D:=(f γ).bind λd=>((g γ).bind hH).bind λi=>match d with
 | .str z=>if zm z=b9 then (g5 z.cps.toList.length i).bind λk=>z.cps.toList[k]?.map λc=> .str ⟨#[c]⟩else cp
 | _=>cp
noncomputable def k6(f:CO D)(γ:Ctx):Option D:=(f γ).bind λd=>match d with
 | .str z=>if zm z=b9 then b8 (.int z.length)else cp
 | _=>cp
noncomputable def lD(z I B J:Str)(f:CO D)(γ:Ctx):Option D:=(f γ).bind λd=>match d with
 | .str x=>if z=B then cp else if x=z then b8 (.str I)else if x=B then b8 (.str J)else cp
 | _=>cp
noncomputable def lu(f g:CO D)(γ:Ctx):Option D:=((f γ).bind hH).bind λi=>((g γ).bind hH).map λj=> .int (if j<i then j else i)
abbrev Xn:=Str×Option Int
def z0:CO Xn:=λ_=>cp
def et(c:Str):CO Xn:=λ_=>b8 (c,cp)
noncomputable def zj(k:CO Bool)(G H:CO Xn):CO Xn:=λa=>(k a).bind λb=>if b=b9 then G a else H a
end DL
namespace DL
open PySem L2
open PySem.W (KasT kas_sort)
def qO(z:Str):List D:=z.cps.toList.map λc=>D.str ⟨#[c]⟩
noncomputable def yt(f:CO D)(γ:Ctx):Option (List D):=(f γ).bind λd=>match d with
 | .str z=>if zm z=b9 then b8 (qO z)else cp
 | _=>cp
noncomputable def az(f:CO D)(γ:Ctx):Option (List D):=(f γ).bind λd=>match d with
 | .str z=>if zm z=b9 then b8 (yc<|qO z)else cp
 | _=>cp
noncomputable def yx(f:CO D)(γ:Ctx):Option (List D):=(f γ).bind λd=>match d with
 | .lst a=>b8 (yc a)
 | _=>cp
noncomputable def ay(f:CO D)(g:CO (Sk×List D))(γ:Ctx):Option D:=(f γ).bind λd=>(g γ).bind λa=>match d with
 | .str x=>(yo a.2).map λl=> .bl (l.any λy=>y==x)
 | _=>cp
noncomputable def qG(f g:CO D)(γ:Ctx):Option D:=(f γ).bind λd=>(g γ).bind λe=>match d,e with
 | .str x,.str y=>if zm x=b9/\zm y=b9 then b8 (.str<|x++y)else cp
 | _,_=>cp
noncomputable def JG(f:CO D)(l h:CO (Option Int))(γ:Ctx):Option D:=(f γ).bind λd=>(l γ).bind λlo=>(h γ).bind λa=>match d with
 | .str z=>if zm z=b9 then b8 (.str<|oN z lo a)else cp
 | _=>cp
noncomputable def cS(f:CO (Sk×List D))(γ:Ctx):Option (List D):=(f γ).bind λa=>match a.1 with
 | .L=>if a.2.length<=lim then b8 a.2.reverse else cp
 | _=>cp
noncomputable def fC:D->Option (Int×Int)
 | .tup [.int a,.int b]=>b8 (a,b)
 | _=>cp
noncomputable def Vq:List D->Option (List<|Int×Int)
 | []=>b8 []
 | d::r=>(fC d).bind λp=>(Vq r).map λl=>p::l
noncomputable def lN(x y:Int×Int):Bool:=if x.1=y.1 then decide (x.2<y.2)else decide (x.1<y.1)
noncomputable def gV{t:Type}(lt:Nat->Nat->Bool):KasT t->t
 | .ret a=>a
 | .ask i j k=>gV lt<|k<|lt i j
noncomputable def aZ(t:List (Int×Int)):List Nat:=if t.length<2 then mG t.length else (gV (λi j=>lN (t.getD i (0,0))<|t.getD j (0,0))<|kas_sort t.length).toList
noncomputable def eO(t:List D):Option (List D):=(Vq t).bind λa=>if t.length<64 then b8 ((aZ a).map λi=>t.getD i .ea)else cp
noncomputable def aq(f:CO (Sk×List D))(γ:Ctx):Option (List D):=(f γ).bind λa=>match a.1 with
 | .L=>eO a.2
 | _=>cp
end DL
namespace DL
open PySem L2
noncomputable def eX(i:Nat)(f:CO (List D))(γ:Ctx):Option Fl:=(qt γ[i]?).bind λa=>(f γ).bind λb=>if a.length+b.length<=lim then b8 (.next<|γ.set i<|.own<|a++b)else cp
noncomputable def gU(F G:List D->Option Res)(g:CO (List D))(γ:Ctx):Option (List D):=(g γ).bind λl=>match l with
 | [p,.str z,t,b]=>((if z=("r" : Str)then F else G) [p,t,b]).bind eY
 | _=>cp
noncomputable def Kr:List D->Option (List Int)
 | []=>b8 []
 | .int i::r=>(Kr r).map λl=>i::l
 | _::_=>cp
noncomputable def fU(t z:List D):Option D:=match Kr t with
 | some a=>if t.length=z.length/\a.Nodup/\t.length<=lim then b8 (.hA t z)else cp
 | none=>cp
open PySem.Spec PyProof.Rows
structure RS(K:mD)(E0 E H0 H:Hp)(σ:St)(γ:Ctx):Prop where
 rc:RC K H0 H σ γ
 ext:Ext E0 E H0 H
 fresh : ∀(i:Nat) ds a,γ[i]? = b8 (.own ds)->σ[i]? = b8 (b8 (.ref a))->E a=cp
 rk : ∀(i:Nat) rows a xs,γ[i]? = b8 (.nest rows)->σ[i]? = b8 (b8 (.ref a))->H a=b8 (.lst xs)->E a=cp/\∀b,V.ref b∈xs->E b=cp
noncomputable def Sat(K:mD)(E0 E:Hp)(D:Ends):Fl->Prop
 | .next f=>∀e H b,RS K E0 E b H e f->D.nx e H
 | .brk f=>∀e H b,RS K E0 E b H e f->D.bk e H
 | .cont f=>∀e H b,RS K E0 E b H e f->D.ct e H
 | .ret (.val d)=>∀v H b,Ext E0 E b H->Rep K b d v->D.rt v H
 | .ret (.own es)=>∀a g H b,Ext E0 E b H->E a=cp->b a=cp->H a=b8 (.lst g)->dy K b es g->D.rt (.ref a) H
noncomputable def tS(K:mD)(F:CO Fl):TS:=λD d H=>∃E0 E b a z,RS K E0 E b H d a/\F a=b8 z/\Sat K E0 E D z
abbrev ih(X:Cx)(st:e7)(F:CO Fl):Prop:=PS X st (tS X.K F)
abbrev KZ(X:Cx)(Bi:List e7)(F:CO Fl):Prop:=jn X Bi (tS X.K F)
section
variable{K:mD}{E0 E H0 H n4 H':Hp}{σ:St}{γ:Ctx}
theorem RS.step(r:RS K E0 E H0 H σ γ)(e:Ext H0 H n4 H'):RS K E0 E n4 H' σ γ:=⟨r.rc.ext e,r.ext.trans e,r.fresh,λi b a g d f B=>by obtain⟨I,bs,z,g2,_⟩:=r.rc.p5.1 i b d;rw[f]at z;cases z;have:=e.s1 a _ g2.ha;rw[B]at this;cases this;exact r.rk i b a _ d f g2.ha⟩
theorem zD{t:Type}{l:List t}{i j:Nat}{x y:t}(h:(l.set i x)[j]? = b8 y):(j=i/\y=x/\i<l.length)\/(j≠i/\l[j]? = b8 y):=by
 by_cases e:i=j
 ·subst e
  by_cases z:i<l.length
  ·rw[nD z]at h;cases h;exact .inl ⟨rfl,rfl,z⟩
  ·rw[List.set_eq_of_length_le ⋯]at h
   exact absurd (mP.mp h).1 z
 ·rw[mK e]at h;exact .inr ⟨nW e,h⟩
theorem i7.o1{i:Nat}{d:D}{v:V}(n:i7 K H0 H σ γ):i7 K H0 H (σ.set i<|some v) (γ.set i<|.val d):=
 ⟨λj b e=>by
  rcases zD e with⟨_,z,_⟩ | ⟨I,z⟩
  ·cases z
  ·obtain⟨a,bs,l,m,J⟩:=n.1 j b z
   refine⟨a,bs,by rw[mK (nW I)];exact l,m,λk h c g f=>?_⟩;rcases zD g with⟨_,z,_⟩ | ⟨M,B⟩
   ·cases z
   ·rw[mK (nW M)]at f;exact J k h c B f,
 λj k O R g f=>by
  rcases zD g with⟨_,z,_⟩ | ⟨_,B⟩
  ·cases z
  ·rcases zD f with⟨_,z,_⟩ | ⟨_,U⟩
   ·cases z
   ·exact n.2 j k O R B U⟩
theorem RC.o1{i:Nat}{d:D}{v:V}(r:RC K H0 H σ γ)(h:Rep K H0 d v):RC K H0 H (σ.set i<|some v) (γ.set i<|.val d):=by
 refine⟨r.sub,by simp[r.len],λj f e=>?_,λj b e=>?_,λj k a b m g l J M=>?_,r.p5.o1⟩
 ·rcases zD e with⟨rfl,z,O⟩ | ⟨B,z⟩
  ·cases z;exact⟨v,nD (by rw[r.len];exact O),h⟩
  ·obtain⟨R,I,g2⟩:=r.val j f z
   exact⟨R,by rw[mK (nW B)];exact I,g2⟩
 ·rcases zD e with⟨rfl,z,O⟩ | ⟨B,z⟩
  ·cases z
  ·obtain⟨a,n,I,g2⟩:=r.own j b z
   exact⟨a,n,by rw[mK (nW B)];exact I,g2⟩
 ·rcases zD g with⟨_,z,_⟩ | ⟨B,U⟩
  ·cases z
  ·rcases zD l with⟨_,z,_⟩ | ⟨W,Y⟩
   ·cases z
   ·rw[mK (nW B)]at J
    rw[mK (nW W)]at M;exact r.ne j k a b m U Y J M
theorem RS.o1{i:Nat}{d:D}{v:V}(r:RS K E0 E H0 H σ γ)(h:Rep K H0 d v):RS K E0 E H0 H (σ.set i<|some v) (γ.set i<|.val d):=
 ⟨r.rc.o1 h,r.ext,λj g a f b=>by
  rcases zD f with⟨_,z,_⟩ | ⟨B,z⟩
  ·cases z
  ·rw[mK (nW B)]at b;exact r.fresh j g a z b,
 λj e a l f b I=>by
  rcases zD f with⟨_,z,_⟩ | ⟨B,z⟩
  ·cases z
  ·rw[mK (nW B)]at b;exact r.rk j e a l z b I⟩
theorem yK : ∀{z bs:List c8},z.map V.ref=bs.map V.ref->z=bs
 | [],[],_=>rfl
 | [],_::_,h=>by cases h
 | _::_,[],h=>by cases h
 | a::z,b::bs,h=>by rw[nj,nj]at h;injection h with h1 h2;injection h1 with h1;rw[h1,yK h2]
theorem RS.Bh{i:Nat}{L:List D}{a:c8}{xs:List V}{C G:Hp}(r:RS K E0 E C G σ γ)(e:Ext C G H0 H)(t:G a=cp)(S:H0 a=cp)(Z:H a=b8 (.lst xs))(h4:dy K H0 L xs) :
 RS K E0 E H0 H (σ.set i<|some (.ref a)) (γ.set i<|.own L):=by
 have rc:=r.rc.ext e;have no : ∀(j:Nat) f,γ[j]? = b8 (.own f)->¬σ[j]? = b8 (b8 (.ref a)):=λj f g z=>by obtain⟨b,n,B,g2,U,_⟩:=r.rc.own j f g;rw[z]at B;cases B;rw[t]at U;cases U
 refine⟨⟨rc.sub,by simp[rc.len],λj s g=>?_,λj f g=>?_,λj k b f fs m h M O=>?_,⟨λj d g=>?_,λj k y A B g2=>?_⟩⟩,r.ext.trans e,λj f b B g2=>?_,λj d b xs B g2 U=>?_⟩
 ·rcases zD g with⟨_,z,_⟩ | ⟨I,z⟩
  ·cases z
  ·obtain⟨F,B,g2⟩:=rc.val j s z
   exact⟨F,by rw[mK (nW I)];exact B,g2⟩
 ·rcases zD g with⟨rfl,z,J⟩ | ⟨I,z⟩
  ·cases z;exact⟨a,xs,nD (by rw[rc.len];exact J),S,Z,h4⟩
  ·obtain⟨b,n,B,g2⟩:=rc.own j f z
   exact⟨b,n,by rw[mK (nW I)];exact B,g2⟩
 ·rcases zD m with⟨rfl,z,J⟩ | ⟨I,R⟩
  ·rcases zD h with⟨rfl,_,_⟩ | ⟨W,Y⟩
   ·rfl
   ·rw[nD (by rw[rc.len];exact J)]at M
    rw[mK (nW W)]at O;cases M;exact absurd O<|no k fs Y
  ·rcases zD h with⟨rfl,z,J⟩ | ⟨W,Y⟩
   ·rw[nD (by rw[rc.len];exact J)]at O
    rw[mK (nW I)]at M;cases O;exact absurd M<|no j f R
   ·rw[mK (nW I)]at M
    rw[mK (nW W)]at O;exact rc.ne j k b f fs R Y M O
 ·rcases zD g with⟨_,z,_⟩ | ⟨I,z⟩
  ·cases z
  ·obtain⟨b,bs,B,g2,U⟩:=r.rc.p5.1 j d z
   obtain⟨P,l,f1,f2,w⟩:=rc.p5.1 j d z;rw[B]at f1;cases f1;have u:l.map V.ref=bs.map V.ref:=by have:=e.s1 b _ g2.ha;rw[f2.ha]at this;injection this with this;injection this
   have p:l=bs:=yK u;subst p;refine⟨b,l,by rw[mK (nW I)];exact B,f2,λk f c m h=>?_⟩;rcases zD m with⟨rfl,_,J⟩ | ⟨W,R⟩
   ·rw[nD (by rw[rc.len];exact J)]at h;cases h
    intro x;obtain⟨_,N,q⟩:=g2.at x;rw[t]at q;cases q
   ·rw[mK (nW W)]at h;exact w k f c R h
 ·rcases zD B with⟨_,z,_⟩ | ⟨_,R⟩
  ·cases z
  ·rcases zD g2 with⟨_,z,_⟩ | ⟨_,Y⟩
   ·cases z
   ·exact rc.p5.2 j k y A R Y
 ·rcases zD B with⟨rfl,z,J⟩ | ⟨I,z⟩
  ·rw[nD (by rw[rc.len];exact J)]at g2;cases g2
   cases q:E a with
   | none=>rfl
   | some o=>rw[r.ext.s1 a o q]at t;cases t
  ·rw[mK (nW I)]at g2;exact r.fresh j f b z g2
 ·rcases zD B with⟨_,z,_⟩ | ⟨I,z⟩
  ·cases z
  ·rw[mK (nW I)]at g2;exact(r.step e).rk j d b xs z g2 U
theorem RS.rewrite{i:Nat}{t G:List D}{a:c8}{xs C:List V}(r:RS K E0 E H0 H σ γ)(hi:γ[i]? = b8 (.own t))(I:σ[i]? = b8 (b8 (.ref a)))(L:dy K H0 G C) :
 RS K E0 E H0 (upd H a<|.lst C) σ (γ.set i<|.own G):=by
 obtain⟨A,F,g1,g2,g3,Q⟩:=r.rc.own i t hi;rw[I]at g1;cases g1;have N:i<γ.length:=(mP.mp hi).1;refine⟨⟨λb o q=>?_,by simp[r.rc.len],λj s g=>?_,λj fs g=>?_,λj k b fs gs f d R u=>?_,⟨λj e g=>?_,λj k x y f d=>?_⟩⟩,⟨r.ext.s0,λb o q=>?_,λb o q=>?_,r.ext.new⟩,λj fs b f d=>?_,λj e b l f d R=>?_⟩
 ·rw[zC (λz=>by rw[z,g2]at q;cases q)];exact r.rc.sub b o q
 ·rcases zD g with⟨_,z,_⟩ | ⟨U,z⟩
  ·cases z
  ·exact r.rc.val j s z
 ·rcases zD g with⟨rfl,z,S⟩ | ⟨U,z⟩
  ·cases z;exact⟨a,C,I,g2,zE,L⟩
  ·obtain⟨b,l,B,J,M,w⟩:=r.rc.own j fs z
   refine⟨b,l,B,J,?_,w⟩;rw[zC (λq=>U<|r.rc.ne j i a fs t z hi (by rw[B,q]) I)];exact M
 ·have n : ∃h,γ[j]? = b8 (.own h):=by
   rcases zD f with⟨q,_,_⟩ | ⟨_,z⟩
   ·exact⟨t,by rw[q];exact hi⟩
   ·exact⟨fs,z⟩
  have p : ∃h,γ[k]? = b8 (.own h):=by
   rcases zD d with⟨q,_,_⟩ | ⟨_,z⟩
   ·exact⟨t,by rw[q];exact hi⟩
   ·exact⟨gs,z⟩
  obtain⟨B,O⟩:=n;obtain⟨J,W⟩:=p;exact r.rc.ne j k b B J O W R u
 ·rcases zD g with⟨_,z,_⟩ | ⟨U,z⟩
  ·cases z
  ·obtain⟨b,bs,B,J,M⟩:=r.rc.p5.1 j e z
   have m:=M i t a hi I;refine⟨b,bs,B,J.move (ei.refl _) (λc Y=>(J.at Y).1)<|λc Y=>zC λq=>m<|q ▸ Y,λk fs c f d=>?_⟩;rcases zD f with⟨q,_,_⟩ | ⟨_,O⟩
   ·rw[q,I]at d;cases d;exact m
   ·exact M k fs c O d
 ·rcases zD f with⟨_,z,_⟩ | ⟨_,O⟩
  ·cases z
  ·rcases zD d with⟨_,z,_⟩ | ⟨_,W⟩
   ·cases z
   ·exact r.rc.p5.2 j k x y O W
 ·rw[zC (λz=>by rw[z,r.fresh i t a hi I]at q;cases q)];exact r.ext.s1 b o q
 ·rw[zC (λz=>by rw[z,g2]at q;cases q)];exact r.ext.sub b o q
 ·rcases zD f with⟨q,_,_⟩ | ⟨_,z⟩
  ·rw[q]at d;exact r.fresh i t b hi d
  ·exact r.fresh j fs b z d
 ·rcases zD f with⟨_,z,_⟩ | ⟨U,z⟩
  ·cases z
  ·obtain⟨P,bs,B,J,M⟩:=r.rc.p5.1 j e z
   rw[d]at B;cases B;rw[zC (show b≠a from λq=>M i t a hi I<|by rw[q];exact mM)]at R;exact r.rk j e b l z d R
end
section
variable{X:Cx}{e a b c:dV}{pos:d9}{st:e7}{xu:List e7}
theorem zz:KZ X [] jd:=Vl Wk λD b H z=>by obtain⟨E0,E,a,d,M,B,I,J⟩:=z;cases I;exact J b H a B
theorem ze{F G:CO Fl}(t:ih X st F)(C:KZ X xu G):KZ X (st::xu) (zG F G):=Vl (Yt t C) λD i H J=>by
 obtain⟨E0,E,d,f,M,O,z,B⟩:=J;obtain⟨I,e,z⟩:=zb z;refine⟨E0,E,d,f,I,O,e,?_⟩;cases I with
 | next a=>exact λg h b R=>⟨E0,E,b,a,M,R,z,B⟩
 | brk a=>cases z;exact B
 | cont a=>cases z;exact B
 | ret r=>cases z;cases r<;>exact B
theorem zg(t:ih X st F):KZ X [st] F:=Wj t
theorem zo(h:o.map f=b8 y) : ∃x,o=b8 x/\f x=y:=by
 cases o with
 | none=>cases h
 | some x=>exact⟨x,rfl,by simpa using h⟩
theorem zr{f:CO D}(h:PV X e f):ih X (.Return (b8 e) pos) (jv f):=kA (Vm h) λD l H I=>by obtain⟨E0,E,g,j,M,B,z,J⟩:=I;obtain⟨d,i,z⟩:=zo z;subst z;exact⟨g,j,d,B.rc,i,λv b a x r=>J v b a (B.ext.trans x) r⟩
theorem vN{f:CO (List D)}(h:PO X e f):ih X (.Return (b8 e) pos) (XB f):=kA (Vm h) λD s H I=>by
 obtain⟨E0,E,i,p,O,z,B,J⟩:=I;obtain⟨j,l,B⟩:=zo B;subst B;refine⟨i,p,j,z.rc,l,λa n g b x d m M r=>J a n g b (z.ext.trans x) ?_ m M r⟩;cases q:E a with
 | none=>rfl
 | some o=>rw[z.ext.s1 a o q]at d;cases d
theorem jW:ih X st qP:=kA Yy λD d H ⟨E0,E,a,b,B,I,z,J⟩=>by cases z
theorem zZ{k:CO Bool}{F G:CO Fl}{x y:List e7}(M:i8 X c k)(C:KZ X x F)(O:KZ X y G):ih X (.If c x y pos) (e5 k F G):=kA (fw M C O) λD g H R=>by
 obtain⟨E0,E,d,b,I,B,z,J⟩:=R;obtain⟨t,e,z⟩:=zb z;refine⟨d,b,t,B.rc,e,λf a x=>?_⟩;cases t with
 | true=>rw[GY rfl]at z ⊢;exact⟨E0,E,a,b,I,B.step x,z,J⟩
 | false=>rw[MQ mW]at z ⊢;exact⟨E0,E,a,b,I,B.step x,z,J⟩
theorem XW(i:Nat){f:CO D}(h:PS X st (K2 (tV X.K f)<|kG i)):ih X st (j8 i f):=kA h λD l H I=>by obtain⟨E0,E,b,g,M,B,z,J⟩:=I;obtain⟨d,e,z⟩:=zo z;subst z;exact⟨b,g,d,B.rc,e,λv j a x r=>J _ _ a<|(B.step x).o1 r⟩
theorem JM(i:Nat){f:CO (List D)}(h:PS X st (K2 (tO X.K f)<|kG i)):ih X st (yu i f):=kA h λD p H I=>by obtain⟨E0,E,d,m,O,B,z,J⟩:=I;obtain⟨e,g,z⟩:=zo z;subst z;exact⟨d,m,e,B.rc,g,λa o n b x j l M r=>J _ _ b<|B.Bh x j l M r⟩
theorem kZ(h:qt o=b8 ds):o=b8 (.own ds):=by
 cases o with
 | none=>cases h
 | some c=>cases c<;>simp[qt]at h;rw[h]
theorem QQ(i:Nat){f:CO D}(h:PE X e (AF X.K "list" XI (W9 i) (ae (tV X.K f) gM)))(O:p8 e cp pos.line X.env=pure cq:=by rfl):ih X (.Expr e pos) (jk i f):=
 kA (XX h O) λD u H R=>by
  obtain⟨E0,E,m,o,s,B,z,U⟩:=R;obtain⟨j,b,z⟩:=zb z;obtain⟨d,n,z⟩:=zb z;have b:=kZ b;by_cases I:j.length<lim
  ·rw[GY I]at z;cases z
   obtain⟨a,xs,l,t,J,M⟩:=B.rc.own i j b;refine⟨_,l,.inl ⟨rfl,_,el.of J⟩,m,o,d,B.rc,n,λv p g x r=>?_⟩;have W:=B.step x;have Y:=x.s1 _ _ J;refine⟨a,xs,v,rfl,rfl,Y,?_,?_⟩
   ·exact mU (by rw[M.length];exact I)<|kD<|mN _
   ·exact U _ _ g<|W.rewrite (xs:=xs) b l<|(M.mono x.s0).append (dy.cons r dy.nil)
  ·rw[MQ I]at z;cases z
end
noncomputable def mf(K:mD)(t H:Hp)(Q:VK):Res->Prop
 | .val d=>∀v e b,Ext t H b e->Rep K b d v->Q v e
 | .own g=>∀a f e b,Ext t H b e->H a=cp->b a=cp->e a=b8 (.lst f)->dy K b g f->Q (.ref a) e
noncomputable def l9(K:mD)(n:Nat)(F:List D->Option Res):Sp:=λd H Q _=>∃a b r,ei a H/\dy K a b d/\b.length=n/\F b=b8 r/\mf K a H Q r
theorem l9.len{K:mD}{n:Nat}{F:List D->Option Res}{z:List Str}(C:z.length=n) : ∀t H Q E,l9 K n F t H Q E->t.length=z.length:=λt H Q E h=>by obtain⟨d,e,r,_,a,b,_⟩:=h;rw[a.length,b,C]
section
variable{P:fy}{w:eW}{K:mD}{mg:GJ}{base:d6}
theorem Yn(s:ei H0 H)(h:dy K H0 ds vs)(t:ds.length<=N.length):RS K H0 H H0 H (vI N vs) (jj N.length ds):=by
 have z:=h.length;refine⟨⟨s,by simp[L2.vI,jj,z],λi d e=>?_,λi g e=>?_,λi j a g fs e _ _ _=>?_,i7.uE λi f e=>?_⟩,Ext.refl s,λi g a e _=>?_,λi f a m e _ _=>?_⟩
 all_goals unfold jj at e
 ·by_cases b:i<ds.length
  ·rw[nk (by simpa using b),ny]at e
   cases e1:ds[i]? with
   | none=>rw[e1]at e;cases e
   | some l=>
    rw[e1]at e;cases e;obtain⟨x,B,g2⟩:=h.get e1;refine⟨x,?_,g2⟩;unfold L2.vI;rw[nk (by simp;omega),ny,B];rfl
  ·rw[nu (by simpa using b),ph]at e
   split at e<;>cases e
 all_goals
  by_cases b:i<ds.length
  ·rw[nk (by simpa using b),ny]at e
   cases e1:ds[i]? with
   | none=>rw[e1]at e;cases e
   | some l=>rw[e1]at e;cases e
  ·rw[nu (by simpa using b),ph]at e
   split at e<;>cases e
theorem bY{x qual:Str}{st:e7}{f:c8}{G:l8}{N C:List Str}{k:Nat}{F:CO Fl}(I:L2.r9 K x qual st f G)(S:tU N C (zL st))
 (J : ∀(t:di) (A:i4) (outer:List h8) (s:d0) (H:Hp) (E:XK),i2 k (A.deeper<|envOfC qual (zL st) s.heap.objs.size f t)->KZ (WJ m5 P w K mg base N qual (zL st) f t A outer s H E).tJ (qL st) F) :
 l7 P w K mg base m5 (k+1) f G C (l9 K C.length<|jh N.length F):=by
 refine I.ok S (l9.len rfl)<|λt A outer s H p Q E M h=>⟨_,J t A outer s H E M,?_⟩;obtain⟨d,i,r,m,l,o,O,z⟩:=h;obtain⟨B,j,a⟩:=zb O;have U:C.length<=N.length:=by have:=congrArg List.length S.pre;rw[rC]at this;omega
 refine⟨d,H,d,jj N.length i,B,Yn m l ⋯,j,?_⟩;cases B with
 | ret W=>cases a;cases r<;>exact z
 | next e=>cases a;exact λn g b R=>z .ea g b R.ext (show V.ea = .ea from rfl)
 | brk e=>cases a
 | cont e=>cases a
end
section
variable{X:Cx}{es:List dV}{pos p:d9}{k:Nat}{f:c8}{fd:l8}{ps:List Str}{x:Str}{F:List D->Option Res}{g:CO (List D)}
theorem Wi{A0:List dV}(G:l7 X.prog X.w X.K X.mg X.base m5 k f fd ps (l9 X.K ps.length F))(L:o7 X es g)(O : ∀γ C,g γ=b8 C->C.length=ps.length)
 (R : ∀{t:TA},PA X es t->PE X (.Call (.Name x p) es [] pos) (V1 (l9 X.K ps.length F) [] E0 t)):PV X (.Call (.Name x p) es [] pos) (zu F g):=
 z9 (R L) λy H Q U=>by
  obtain⟨j,γ,d,rc,z,q⟩:=U;obtain⟨C,h,z⟩:=zb z;obtain⟨r,l,z⟩:=zo z;refine⟨j,γ,C,rc,h,λu s W x1 Y=>⟨W,C,r,x1.sub,by simpa using Y,O γ C h,l,?_⟩⟩;subst z;cases r with
  | val d=>exact λv e b B I=>q v e b (x1.trans B) I
  | own fs=>
   refine λa o e b B m i n I=>q _ e _ (x1.trans<|B.show m i n x1.sub) ?_;exact(show ∃J M,V.ref a = .ref J/\el X.K _ J M/\dy X.K _ fs M from⟨a,o,rfl,el.of zE,I.mono<|zX i _⟩)
theorem Wq(G:l7 X.prog X.w X.K X.mg X.base m5 k f fd ps (l9 X.K ps.length F))(L:o7 X es g)(I : ∀γ C,g γ=b8 C->C.length=ps.length)
 (J : ∀{t:TA},PA X es t->PE X (.Call (.Name x p) es [] pos) (V1 (l9 X.K ps.length F) [] E0 t)):PO X (.Call (.Name x p) es [] pos) (yz F g):=
 z9 (J L) λy H Q M=>by
  obtain⟨j,γ,fs,rc,B,q⟩:=M;obtain⟨C,e,B⟩:=zb B;obtain⟨r,l,B⟩:=zb B;refine⟨j,γ,C,rc,e,λu s O x1 R=>⟨O,C,r,x1.sub,by simpa using R,I γ C e,l,?_⟩⟩;cases r with
  | val d=>cases B
  | own gs=>
   cases B;exact λa n i b U h m W Y=>q a n i b (x1.trans U) (by
    cases z:H a with
    | none=>rfl
    | some o=>rw[x1.s1 a o z]at h;cases h) m W Y
end
structure Walk(K:mD)(H0 Hs:Hp)(J:It)(ds:List D):Prop where
 go : ∀i H1,ei Hs H1->i<ds.length->J.go i H1
 stop : ∀H1,ei Hs H1->J.stop ds.length H1
 o4 : ∀i H1 x Ac,ei Hs H1->i<ds.length->J.o4 i H1 x Ac->∃d,ds[i]? = b8 d/\∀G0,ei H0 G0->ei G0 H1->∃Ab,Ext G0 H1 Ab Ac/\Rep K Ab d x
theorem Walk.weak{K:mD}{t C z:Hp}{J:It}{G:List D}(w:Walk K t C J G)(s:ei C z):Walk K t z J G:=
 ⟨λi a h=>w.go i a<|s.trans h,λa h=>w.stop a<|s.trans h,λi a x b h=>w.o4 i a x b<|s.trans h⟩
theorem Ya{k:Sk}{K:mD}{t C:Hp}{a:c8}{xs:List V}{G:List D}(h:h5 k K C a xs)(r:dy K t G xs):Walk K t C (Ad k K a) G:=by
 have I:=r.length;refine⟨λi b s n=>?_,λb s=>?_,λi b x f s n y=>?_⟩
 ·have z:i<xs.length:=by omega
  cases k with
  | L=>exact⟨xs,xs[i],s.seq h,mO z⟩
  | T=>exact⟨xs,xs[i],i6 s h,mO z⟩
 ·cases k with
  | L=>exact⟨xs,s.seq h,by omega⟩
  | T=>exact⟨xs,i6 s h,by omega⟩
 ·have e:f=b/\xs[i]? = b8 x:=by
   cases k with
   | L=>exact⟨y.1,y.2 xs<|s.seq h⟩
   | T=>exact⟨y.1,y.2 xs<|i6 s h⟩
  obtain⟨j,l⟩:=e;subst j;obtain⟨d,m,B⟩:=r.uB l;exact⟨d,m,λg o p=>⟨g,Ext.refl p,B.mono o⟩⟩
theorem ky(lo:Int)(n:Nat):(xV lo n).length=n:=by simp[xV]
theorem QG{K:mD}{t z:Hp}(lo:Int)(n:Nat):Walk K t z (sx lo n) (xV lo n):=by
 refine⟨λi b s a=>?_,λb s=>?_,λi b x e s a y=>?_⟩
 ·rw[ky]at a;exact a
 ·rw[ky];exact mN _
 ·rw[ky]at a
  obtain⟨f,g⟩:=y;subst f g;exact⟨.int<|lo+i,by simp[xV,a],λd j h=>⟨d,Ext.refl h,(show V.int (lo+i) = .int (lo+i)from rfl)⟩⟩
theorem K8{B I:Sk}{K:mD}{H L:Hp}{a b:c8}{xs G:List V}{t C:List D}(S:h5 B K L a xs)(J:dy K H t xs)(Z:h5 I K L b G)(M:dy K H C G) :
 Walk K H L (uQ B I K a b) (K1 t C):=by
 have E:=J.length;have F:=M.length;have U:(K1 t C).length=min t.length C.length:=by simp[K1]
 refine⟨λi f s A=>?_,λf s=>?_,λi f x j s A y=>?_⟩
 ·exact⟨xs,G,wO s S,wO s Z,by omega,by omega⟩
 ·refine⟨xs,G,wO s S,wO s Z,?_⟩
  rw[U];omega
 ·obtain⟨p,u,v,n,z,o,W,g2⟩:=y
  obtain⟨d,w,Y⟩:=J.uB<|W xs<|wO s S;obtain⟨c,r,l⟩:=M.uB<|g2 G<|wO s Z;refine⟨.tup [d,c],?_,λh g e=>⟨upd h p<|.tup [u,v],?_,?_⟩⟩
  ·have m:(t.zip C)[i]? = b8 (d,c):=List.getElem?_zip_eq_some.mpr ⟨w,r⟩
   simp[K1,m]
  ·rw[o];exact Ext.alloc e z _
  ·rw[n]
   exact(show ∃O R,V.ref p = .ref O/\eu K _ O R/\dy K _ [d,c] R from⟨p,[u,v],rfl,eu.of zE,dy.cons ((Y.mono g).mono (zX (ji e z) _))<|dy.cons ((l.mono g).mono (zX (ji e z) _)) dy.nil⟩)
noncomputable def AH(K:mD)(t:CO (List D)):TI:=λg H R=>∃d f e,RC K d H g f/\t f=b8 e/\∀J b a,Ext d H a b->Walk K a b J e->R J b
noncomputable def zi(K:mD)(t:CO (List D)):TI:=λg H R=>∃d f e,RC K d H g f/\t f=b8 e/\∀J b a,Ext d H a b->Walk K a a J e->R J b
abbrev sR(X:Cx)(tg e:dV)(src:CO (List D)):Prop:=PI X tg e (AH X.K src)
abbrev i1(X:Cx)(tg e:dV)(src:CO (List D)):Prop:=PI X tg e (zi X.K src)
section
variable{X:Cx}{tg e a b:dV}{pos p:d9}
theorem i1.c(h:i1 X tg e src):sR X tg e src:=QV h λi H R ⟨d,g,f,rc,z,q⟩=>⟨d,g,f,rc,z,λJ b a x w=>q J b a x<|w.weak x.sub⟩
theorem jw(h:PQ X e f):sR X tg e (zQ f):=QV (aW h) λs H R z=>by obtain⟨i,o,p,rc,B,q⟩:=z;obtain⟨⟨k,m⟩,j,l⟩:=zo B;subst l;exact⟨i,o,k,m,rc,j,λa n g b x d _ r=>⟨a,k,rfl,⟨n,d⟩,q _ g b x<|Ya d r⟩⟩
theorem qj(h:hH d=b8 i):d = .int i:=by cases d<;>simp[hH]at h;rw[h]
theorem Ku(h:inR i=b9) : -(2 ^ 62)<=i/\i<2 ^ 62:=by unfold inR at h;have h:=of_decide_eq_true h;omega
theorem QU(I:Gl X "range")(C:X.mg "range" = cp)(t:PV X a f)(B:eg [a] X.env=[(cq,d1 a X.env)]:=by rfl):i1 X tg (.Call (.Name "range" p) [a] [] pos) (zT f):=
 QV (X2 I C (jl t j0 B) B) λs H R J=>by
  obtain⟨i,m,o,rc,z,q⟩:=J;obtain⟨n,e,z⟩:=zb z;obtain⟨d,M,e⟩:=zb e;by_cases g:inR n=b9
  ·rw[GY g]at z;cases z
   refine⟨i,m,d,rc,M,λv h b x r=>?_⟩;rw[qj e]at r;obtain⟨j,l⟩:=Ku g;exact⟨n,by rw[show v = .int n from r],j,l,q _ h b x<|QG 0 n.toNat⟩
  ·rw[MQ g]at z;cases z
theorem Xx{K:mD}{H:Hp}{d:D}{v:V}{k:Sk}{t:List D}(r:Rep K H d v)(e:jG d=b8 (k,t)) : ∃a xs,v = .ref a/\h5 k K H a xs/\dy K H t xs:=by
 cases d with
 | tup fs=>simp[jG]at e;obtain⟨b,f⟩:=e;subst b f;exact r
 | lst fs=>simp[jG]at e;obtain⟨b,f⟩:=e;subst b f;exact r
 | _=>simp[jG]at e
theorem Ws{f g:CO D}{t:List dV}{x1:Nat}{C:d9}(W:Gl X "zip")(L:X.mg "zip" = cp)(G:PV X a f)(Y:PV X b g)(M:eg [a,b] X.env=[(cq,d1 a X.env),(cq,d1 b X.env)]:=by rfl)(I:eg [b] X.env=[(cq,d1 b X.env)]:=by rfl) :
 i1 X (.Tuple t x1 C) (.Call (.Name "zip" p) [a,b] [] pos) (WY f g):=
 QV (aU W L (jl G (jl Y j0 I)<|by rw[M,I]) PyProof.Rows.boot_zip M I) λσ H R E=>by obtain⟨j,i,T,rc,z,q⟩:=E;obtain⟨⟨F,m⟩,h,z⟩:=zb z;obtain⟨d,w,h⟩:=zb h;obtain⟨⟨K,n⟩,J,z⟩:=zo z;obtain⟨c,y,J⟩:=zb J;subst z;refine⟨j,i,d,rc,w,λv S e x r=>⟨e,i,c,rc.ext x,y,λZ l u B N=>?_⟩⟩;obtain⟨o,P,rfl,O,g2⟩:=Xx (r.mono B.s0) h;obtain⟨s,Q,rfl,U,A⟩:=Xx N J;exact⟨F,K,o,s,rfl,⟨P,wO B.sub O⟩,⟨Q,wO B.sub U⟩,q _ l u (x.trans B)<|K8 O g2 U A⟩
end
noncomputable def JE:List Nat->List V->St->St
 | i::is,v::vs,σ=>JE is vs<|σ.set i<|some v
 | _,_,σ=>σ
def gs:List Nat->tw
 | []=>hX
 | i::is=>bW (kG i)<|gs is
noncomputable def n1(K:mD):Tg->TG
 | .nm i=>kG i
 | .tp is=>hV K is.length<|gs is
theorem Kw : ∀{is:List Nat} {t:List V} {z:St} {H:Hp} {Q:St->Hp->Prop},t.length=is.length->Q (JE is t z) H->gs is t z H Q
 | [],[],_,_,_,_,q=>⟨rfl,q⟩
 | i::is,v::t,z,H,Q,hl,q=>⟨v,t,rfl,Kw (by simpa using hl) q⟩
 | [],_::_,_,_,_,hl,_=>by simp at hl
 | _::_,[],_,_,_,hl,_=>by simp at hl
theorem RS.ue{K:mD}{E0 E I H:Hp} : ∀{is:List Nat} {z:List D} {C:List V} {G:St} {γ:Ctx},RS K E0 E I H G γ->dy K I z C->RS K E0 E I H (JE is C G) (jB is z γ)
 | [],z,C,G,γ,r,h=>by cases z<;>cases C<;>exact r
 | i::is,[],C,G,γ,r,h=>by rw[h.m3];exact r
 | i::is,d::z,C,G,γ,r,h=>by obtain⟨x,t,e,a,b⟩:=h.i9;subst e;show RS K E0 E I H (DL.JE is t<|G.set i<|some x) (jB is z<|γ.set i<|.val d);exact RS.ue (r.o1 a) b
theorem RC.ue{K:mD}{I H:Hp} : ∀{is:List Nat} {z:List D} {C:List V} {G:St} {γ:Ctx},RC K I H G γ->dy K I z C->RC K I H (JE is C G) (jB is z γ)
 | [],z,C,G,γ,r,h=>by cases z<;>cases C<;>exact r
 | i::is,[],C,G,γ,r,h=>by rw[h.m3];exact r
 | i::is,d::z,C,G,γ,r,h=>by obtain⟨x,t,e,a,b⟩:=h.i9;subst e;show RC K I H (DL.JE is t<|G.set i<|some x) (jB is z<|γ.set i<|.val d);exact RC.ue (r.o1 a) b
theorem yU{K:mD}{t H:Hp}{T:Tg}{d:D}{v:V}{C:St}{γ z:Ctx}{Q:St->Hp->Prop}(s:ei t H)(h:Rep K t d v)(e:qB T d γ=b8 z)
 (q : ∀B,(RC K t H C γ->RC K t H B z)->(∀E0 E,RS K E0 E t H C γ->RS K E0 E t H B z)->Q B H):n1 K T v C H Q:=by
 cases T with
 | nm i=>cases e;exact q _ (λr=>r.o1 h) λE0 E r=>r.o1 h
 | tp is=>
  cases d with
  | tup g=>
   simp only[qB]at e;by_cases I:g.length=is.length
   ·rw[GY I]at e;cases e
    obtain⟨a,b,rfl,j,f⟩:=(show ∃a b,v = .ref a/\eu K t a b/\dy K t g b from h);have J:b.length=is.length:=by rw[f.length,I]
    exact⟨a,b,rfl,i6 s j,J,Kw J<|q _ (λr=>r.ue f) λE0 E r=>r.ue f⟩
   ·rw[MQ I]at e;cases e
  | _=>simp[qB]at e
theorem Ext.rebase{E0 E z t H B:Hp}(e:Ext E0 E z B)(x:Ext z E t H):Ext E0 E t H:=
 ⟨e.s0.trans x.s0,x.s1,x.sub,λa d b=>x.new a (e.new a d b) b⟩
theorem Ext.base{E0 E z B:Hp}(e:Ext E0 E z B):Ext z E z B:=⟨ei.refl _,e.s1,e.sub,λa h _=>h⟩
theorem Sat.rebase{K:mD}{E0 E I B:Hp}{D:Ends}{z:Fl}(e:Ext E0 E I B)(h:Sat K E0 E D z):Sat K I E D z:=by
 cases z with
 | next g=>exact λf H b r=>h f H b ⟨r.rc,e.rebase r.ext,r.fresh,r.rk⟩
 | brk g=>exact λf H b r=>h f H b ⟨r.rc,e.rebase r.ext,r.fresh,r.rk⟩
 | cont g=>exact λf H b r=>h f H b ⟨r.rc,e.rebase r.ext,r.fresh,r.rk⟩
 | ret r=>
  cases r with
  | val d=>exact λv H b x q=>h v H b (e.rebase x) q
  | own m=>exact λa l H b x i j J q=>h a l H b (e.rebase x) i j J q
section
variable{X:Cx}{tg iter:dV}{body:List e7}{pos:d9}
theorem Wl{t:CO (List D)}{T:Tg}{F:CO Fl}(hp:Ah (d4 X.prog X.w) X.A X.env X.xe)(hc:X.calm=b9)(hi:i1 X tg iter t)(hg:PG X tg (n1 X.K T))(hb:KZ X body F)
 (hs : ∀x,oe iter X.env x=pure x:=by intro _;rfl):ih X (.For tg iter body [] pos) (wQ t T F):=
 kA (aP hp hc hi hg hb hs) λD g H hZ=>by
  obtain⟨E0,E,f,b,B,I,z,O⟩:=hZ;obtain⟨a,Z,z⟩:=zb z;refine⟨f,b,a,I.rc,Z,λJ H1 M x1 Y=>?_⟩;have U:=I.step x1;have u:=U.ext;refine⟨λi m g H=>m=a.length - i/\i<=a.length/\∃f b B,RS X.K M E f H g b/\kg T F (a.drop i) b=b8 B/\Sat X.K M E D B,⟨_,rfl,oO _,M,b,B,⟨U.rc,u.base,U.fresh,U.rk⟩,z,O.rebase u⟩,?_⟩;rintro i m g H ⟨rfl,hi,f,b,B,I,z,O⟩;have h:ei M H:=I.ext.s0.trans I.ext.sub;by_cases R:i<a.length
  ·refine .inr ⟨Y.go i H h R,λg H=>i+1<=a.length/\∃f b B,RS X.K M E f H g b/\kg T F (a.drop<|i+1) b=b8 B/\Sat X.K M E D B,λBq s n=>⟨a.length - (i+1),by omega,rfl,n.1,n.2⟩,λx s y=>?_⟩
   obtain⟨d,C,hx⟩:=Y.o4 i H x s h R y;obtain⟨L,G,rg⟩:=hx f I.ext.s0 I.rc.sub;have P:a.drop i=d::a.drop (i+1):=by
    have Q:d=a[i]:=by rw[mO R]at C;exact(nA C).symm
    rw[Q];exact pX R
   rw[P]at z;simp only[kg]at z;obtain⟨o,eb,z⟩:=zb z;obtain⟨f1,eF,z⟩:=zb z;refine yU G.sub rg eb λAR _ S=>⟨M,E,L,o,f1,S M E<|I.step G,eF,?_⟩;cases f1 with
   | next W=>exact λp N j l=>⟨R,j,W,B,l,z,O⟩
   | cont W=>exact λp N j l=>⟨R,j,W,B,l,z,O⟩
   | brk W=>cases z;exact O
   | ret r=>cases z;cases r<;>exact O
  ·have e:i=a.length:=by omega
   subst e;rw[List.drop_length]at z;cases z;exact .inl ⟨Y.stop H h,O g H f I⟩
end
theorem qa(h:(qb n fr γ)[i]? = b8 c):c = .no\/(∃d j,c = .val d/\n<=i/\fr[i - n]? = b8 j/\γ[j]? = b8 (.val d)):=by
 unfold qb at h;by_cases b:i<n
 ·rw[nk (by simpa using b),ph,GY b]at h
  exact .inl (nA h).symm
 ·rw[nu (by simpa using b),ny,List.length_replicate]at h
  cases e:fr[i - n]? with
  | none=>rw[e]at h;cases h
  | some j=>
   rw[e]at h;have a:yG (γ[j]?.getD .no)=c:=by simpa using h
   cases e2:γ[j]? with
   | none=>rw[e2]at a;exact .inl a.symm
   | some z=>
    rw[e2]at a;cases z with
    | no=>exact .inl a.symm
    | own g=>exact .inl a.symm
    | nest f=>exact .inl a.symm
    | val d=>exact .inr ⟨d,j,a.symm,by omega,rfl,e2⟩
theorem RC.pull{K:mD}{C H:Hp}{G:St}{γ:Ctx}{own:List Str}{t:List (Str×Nat)}(r:RC K C H G γ):RC K C H (L2.Vk own t G) (qb own.length (t.map (·.2)) γ):=by
 refine⟨r.sub,by simp[L2.Vk,qb],λi d h=>?_,λi e h=>?_,λi j a e l h _ _ _=>?_,i7.uE λi b h=>?_⟩
 ·rcases qa h with z | ⟨d',j,z,hi,B,I⟩
  ·cases z
  ·cases z
   obtain⟨v,f,g⟩:=r.val j d I;refine⟨v,?_,g⟩;rw[ny]at B;cases q:t[i - own.length]? with
   | none=>rw[q]at B;cases B
   | some p=>
    rw[q]at B;have J:p.2=j:=by simpa using B
    unfold L2.Vk;rw[nu (by simpa using hi),ny,mZ,q];simp[J,f]
 ·rcases qa h with z | ⟨d',j,z,_⟩<;>cases z
 ·rcases qa h with z | ⟨d',j,z,_⟩<;>cases z
 ·rcases qa h with z | ⟨d',j,z,_⟩<;>cases z
theorem RC.weak{K:mD}{G H:Hp}{L:St}{γ γ':Ctx}(r:RC K G H L γ)(B:γ'.length=γ.length)(I : ∀(i:Nat) d,γ'[i]? = b8 (.val d)->γ[i]? = b8 (.val d))(z : ∀(i:Nat) t,γ'[i]? ≠ b8 (.own t))(J : ∀(i:Nat) C,γ'[i]? ≠ b8 (.nest C)):RC K G H L γ':=
 ⟨r.sub,by rw[B];exact r.len,λi d h=>r.val i d<|I i d h,λi t h=>absurd h<|z i t,λi j a t b h _ _ _=>absurd h<|z i t,i7.uE J⟩
theorem RC.upd{K:mD}{G H:Hp}{L:St}{γ:Ctx}{D:c8}{o:HO}(r:RC K G H L γ)(I:G D=cp)(B : ∀(i:Nat) t,γ[i]? ≠ b8 (.own t))(J : ∀(i:Nat) C,γ[i]? ≠ b8 (.nest C)):RC K G (upd H D o) L γ:=
 ⟨λb u q=>by rw[zC (λz=>by rw[z,I]at q;cases q)];exact r.sub b u q,r.len,r.val,λi t h=>absurd h<|B i t,λi j a t d h _ _ _=>absurd h<|B i t,i7.uE J⟩
theorem yq : ∀{is:List Nat} {t:List D} {γ:Ctx},(jB is t γ).length=γ.length
 | [],t,γ=>by cases t<;>rfl
 | i::is,[],γ=>rfl
 | i::is,d::t,γ=>by show(jB is t<|γ.set i<|.val d).length=_;rw[yq];simp
theorem yr : ∀{is:List Nat} {t:List D} {γ:Ctx} {i:Nat},i∉is->(jB is t γ)[i]? = γ[i]?
 | [],t,γ,i,_=>by cases t<;>rfl
 | j::is,[],γ,i,_=>rfl
 | j::is,d::t,γ,i,h=>by show(jB is t<|γ.set j<|.val d)[i]? = _;rw[yr (λz=>h<|mQ _ z),mK (λz=>h<|by rw[<- z];exact mM)]
theorem KO(h:qB T d γ=b8 ui):ui.length=γ.length/\∀i,i∉T.idx->ui[i]? = γ[i]? :=by
 cases T with
 | nm j=>cases h;exact⟨by simp,λi a=>mK<|λz=>a<|by simp[Tg.idx,z]⟩
 | tp is=>
  cases d with
  | tup b=>
   simp only[qB]at h;by_cases B:b.length=is.length
   ·rw[GY B]at h;cases h;exact⟨yq,λi a=>yr a⟩
   ·rw[MQ B]at h;cases h
  | _=>simp[qB]at h
section
variable{K:mD}{own:List Str}{fr:List (Str×Nat)}{src:CO (List D)}{T:Tg}{k:CO Bool}{f:CO D}
theorem Zr(hT : ∀i∈T.idx,i<own.length)(bn : ∀t H Q,tT K k t H Q->tt t H Q) : ∀t H Q,tO K (zN src T own.length (fr.map (·.2)) k f) t H Q->Yf (AH K src) own fr (n1 K T) tt (tV K f) t H Q:=λt H Q hZ=>by
 obtain⟨H0,p,ds,rc,O,q⟩:=hZ;obtain⟨I,e1,O⟩:=zb O;by_cases hl:I.length<=lim
 ·rw[GY hl]at O
  refine⟨H0,p,I,rc,e1,λJ H1 L x1 wk D W=>?_⟩;have N : ∀(i:Nat) es,(qb own.length (fr.map (·.2)) p)[i]? ≠ b8 (.own es):=λi es h=>by rcases qa h with z | ⟨d',j,z,_⟩<;>cases z
  have P : ∀(i:Nat) s,(qb own.length (fr.map (·.2)) p)[i]? ≠ b8 (.nest s):=λi es h=>by rcases qa h with z | ⟨d',j,z,_⟩<;>cases z
  have ax:L D=cp:=ji x1.sub W;have c0:H D=cp:=by
   cases z:H D with
   | none=>rfl
   | some o=>rw[x1.s1 D o z]at W;cases W
  refine⟨λi m l A g=>m=I.length - i/\i<=I.length/\l.length<=i/\g D=b8 (.lst l)/\∃a Y E,RC K a g A (qb own.length (fr.map (·.2)) p)/\a D=cp/\Ext L H1 a g/\dy K a Y l/\zH T k f (qb own.length (fr.map (·.2)) p) (I.drop i)=b8 E/\ds=Y++E,
   ⟨_,rfl,oO _,mN _,zE,L,[],ds,((rc.ext x1).pull).upd ax N P,ax,Ext.hide x1.sub W _,dy.nil,O,rfl⟩,?_⟩
  rintro i m l A g ⟨rfl,hi,hy,F,a,Y,E,S,b0,R,r',B,rfl⟩;refine⟨F,?_⟩;by_cases U:i<I.length
  ·refine .inr ⟨wk.go i g R.s1 U,?_,λx X y=>?_⟩
   ·have:=kD<|mN lim;omega
   obtain⟨d,hd,hx⟩:=wk.o4 i g x X R.s1 U y;obtain⟨G0,M,rg⟩:=hx a R.s0 S.sub;have c3:I.drop i=d::I.drop (i+1):=by
    have c4:d=I[i]:=by rw[mO U]at hd;exact(nA hd).symm
    rw[c4];exact pX U
   rw[c3]at B;simp only[zH]at B;obtain⟨n,eb,B⟩:=zb B;obtain⟨b,ek,B⟩:=zb B;have c6:G0 D=cp:=M.new D b0 (by rw[F];simp);have b6:X D=b8 (.lst l):=M.s1 _ _ F;obtain⟨bl,bg⟩:=KO eb;have b7 : ∀{C:St} {G2 H2:Hp},RC K G2 H2 C n->RC K G2 H2 C (qb own.length (fr.map (·.2)) p):=λr=>r.weak bl.symm (λj d' hj=>by
    by_cases hm:j∈T.idx
    ·rcases qa hj with z | ⟨d2,j2,_,hn,_⟩
     ·cases z
     ·exact absurd (hT j hm) ⋯
    ·rw[bg j hm];exact hj) N P
   refine yU M.sub rg eb λAR bb _=>bn AR X _ ⟨G0,n,b,bb<|S.ext M,ek,λH3 Z x3=>?_⟩;have ao:=(bb<|S.ext M).ext x3;have xa:=R.trans<|M.trans x3;have be:Z D=cp:=x3.new D c6 (by rw[b6];simp);have ap:H3 D=b8 (.lst l):=x3.s1 _ _ b6;cases b with
   | true=>
    dsimp only;rw[GY rfl]at B ⊢;obtain⟨e,ee,B⟩:=zb B;obtain⟨xu,er,B⟩:=zo B;refine⟨Z,n,e,ao,ee,λv H4 bi u r4=>?_⟩;have as:bi D=cp:=u.new D be (by rw[ap];simp);have ci:H4 D=b8 (.lst l):=u.s1 _ _ ap;have G:=xa.trans u;refine⟨ci,I.length - (i+1),by omega,rfl,U,by rw[nz,rG];omega,zE,bi,Y++[e],xu,(b7<|ao.ext u).upd as N P,as,?_,(r'.mono<|(M.trans<|x3.trans u).s0).append (dy.cons r4 dy.nil),er,?_⟩
    ·exact⟨G.s0,λc o z=>by rw[zC (λw=>by rw[w,W]at z;cases z)];exact G.s1 c o z,λc o z=>by rw[zC (λw=>by rw[w,as]at z;cases z)];exact G.sub c o z,G.new⟩
    ·rw[<- B];simp
   | false=>
    dsimp only;rw[MQ mW]at B ⊢;exact⟨I.length - (i+1),by omega,rfl,U,by omega,ap,Z,Y,E,b7 ao,be,xa,r'.mono<|(M.trans x3).s0,B,rfl⟩
  ·have e:i=I.length:=by omega
   subst e;rw[List.drop_length]at B;cases B;rw[List.append_nil]at q;exact .inl ⟨wk.stop g R.s1,q D l g a (x1.trans R) c0 b0 F r'⟩
 ·rw[MQ hl]at O;cases O
end
section
variable{X:Cx}{scope:ep}{own:List Str}{fr:List (Str×Nat)}{elt tg iter c:dV}{pos:d9}{src:CO (List D)}{T:Tg}{k:CO Bool}{f:CO D}
theorem Wp(z:X.calm=b9)(ok:n3 X scope fr)(B : ∀i∈T.idx,i<own.length)(hi:sR X tg iter src)(I : ∀fp C t,PG (z6 X scope (own++fr.map (·.1)) fp C t) tg<|n1 X.K T)
 (J : ∀fp C t,PV (z6 X scope (own++fr.map (·.1)) fp C t) elt f) (M : ∀x,oe iter X.env x=pure x:=by intro _;rfl) :
 PO X (.ListComp elt [⟨tg,iter,[],0⟩] scope pos) (zN src T own.length (fr.map (·.2)) jq f):=
 z9 (X7 z ok hi I (λ_ _ _=>JQ) J M) (Zr B λe H Q ⟨a,d,b,rc,O,q⟩=>by cases O;exact q H a<|Ext.refl rc.sub)
theorem Yz(z:X.N.Nodup)(B:X.N[i]? = b8 y)(I:Loc X.env.scope y)(J:X.fn y=b9\/X.env.scope.names.lookup y=b8 .local)
 (M:X.calm=b9) (ok:n3 X scope fr) (O : ∀i∈T.idx,i<own.length) (hi:sR X tg iter src) (R : ∀fp C t,PG (z6 X scope (own++fr.map (·.1)) fp C t) tg<|n1 X.K T)
 (U : ∀fp C t,PV (z6 X scope (own++fr.map (·.1)) fp C t) elt f) (W : ∀x,oe iter X.env x=pure x:=by intro _;rfl) :
 PS X (.Assign [.Name y py] (.ListComp elt [⟨tg,iter,[],0⟩] scope pos) spos) (K2 (tO X.K<|zN src T own.length (fr.map (·.2)) jq f)<|kG i):=
 kA (QR z B I J M ok hi R (λ_ _ _=>JQ) U W) λD a H h=>Zr O (λa H Q Y=>by obtain⟨d,g,b,rc,e,q⟩:=Y;cases e;exact q H d<|Ext.refl rc.sub) a H _ h
end
theorem jg{K:mD}{H:Hp}{i:Int}{v:V}(h:Rep K H (.int i) v):v = .int i:=h
theorem Xv{K:mD}{g:Int->Int->D}{z:Int->Int->V}(I : ∀H i j,Rep K H (g i j)<|z i j):h3 K (lp z) (dI g):=λa H x y b J d Q s M O B q=>by cases b<;>cases J<;>simp[dI]at B;subst B;exact⟨_,_,jg M,jg O,q _ H a (Ext.refl s)<|I a _ _⟩
theorem Xu{K:mD}{C:Int->Int->Prop}{c:Int->Int->Bool}{g:Int->Int->D}{z:Int->Int->V}(I : ∀i j,c i j=b9->C i j)(J : ∀H i j,Rep K H (g i j)<|z i j):h3 K (rI C z) (t5 c g):=λa H x y b M d Q s O R B q=>by cases b<;>cases M<;>simp[t5]at B;obtain⟨e,f⟩:=B;subst f;exact⟨_,_,jg O,jg R,I _ _ e,q _ H a (Ext.refl s)<|J a _ _⟩
theorem V4{K:mD}:h3 K (lp λi j=> .int (i - j)) cn:=Xv λ_ _ _=>rfl
theorem Y5(h:ZG i j=b9):ts i j:=by unfold ZG at h;rw[nK,decide_eq_true_eq,decide_eq_true_eq]at h;unfold ts;omega
theorem V9{K:mD}:h3 K (rI iP λi j=> .int (i/j)) J2:=Xu (λi j h=>by unfold cv at h;rw[mR,decide_eq_true_eq,decide_eq_true_eq]at h;exact⟨h.1,by omega⟩) λ_ _ _=>rfl
theorem V8{K:mD}:h3 K (rI (λ_ j=>0<j) λi j=> .int (i%j)) qR:=Xu (λi j h=>by unfold dH at h;exact of_decide_eq_true h) λ_ _ _=>rfl
theorem V5{K:mD}:h3 K (rI iO λi j=> .int (i ^ j.toNat)) WI:=Xu (λi j h=>by unfold cu at h;rw[mR,mR,decide_eq_true_eq,decide_eq_true_eq,decide_eq_true_eq]at h;exact⟨h.1.1,by omega,h.2⟩) λ_ _ _=>rfl
theorem af{K:mD}:h3 K (lp λi j=> .bl (decide<|i<j)) tE:=Xv λ_ _ _=>rfl
theorem wK{K:mD}:h3 K (lp λi j=> .bl (decide<|i<=j)) n9:=Xv λ_ _ _=>rfl
theorem Vd{K:mD}:h3 K (lp λi j=> .bl (decide<|j<i)) n7:=Xv λ_ _ _=>rfl
theorem ag{K:mD}:h3 K (lp λi j=> .bl (decide<|j<=i)) tD:=Xv λ_ _ _=>rfl
section
variable{X:Cx}
noncomputable def Vg(K:mD):R2:=λx y H Q=>∃a b d e,x = .ref a/\y = .ref b/\eu K H a d/\eu K H b e/\d.length+e.length<=ej/\
 (d=[]->Q (.ref b) H)/\(e=[]->Q (.ref a) H)/\∀p,H p=cp->Q (.ref p) (upd H p<|.tup<|d++e)
theorem YG:fh X (nf .Add) (Vg X.K):=by
 intro l s σ H x y v u Q I S T h;obtain⟨a,b,m,ys,rfl,rfl,E,F,O,L,N,P⟩:=h;cases S;cases T;obtain⟨B,r,R,z1⟩:=I.tuple E;obtain⟨p,J,U,z2⟩:=I.tuple F;by_cases M:m=[]
 ·have d:B=[]:=(r.uF).mpr M
  obtain⟨⟨A,C,i,Z⟩,W,Y,n,j⟩:=id R;obtain⟨⟨aw,t,data2,w⟩,e,f,G,g⟩:=id U;simp only at Y j f g;subst Y j f g;exact concat_meets ⟨_,W,rfl⟩ ⟨_,e,rfl⟩ sQ Ay rn rh (pU _ _)
   (tuple_addW0 a b B.toArray p.toArray n G C t Z w<|by simp[d]) ⟨W,e,⟨.ref b,H,I,rfl,L M⟩⟩
 ·have d:B ≠ []:=λz=>M ((r.uF).mp z)
  refine HT.gc R U d (λz=>⟨.ref a,H,I,rfl,N<|(J.uF).mp z⟩) (λ_=>?_) (by rw[<- r.length,<- J.length];exact O);refine⟨.ref s.heap.objs.size,_,I.laid (t':=s.toks) (o:= .tup (m++ys)) (λc ob q=>mF _ q) (mN _) ?_,rfl,P _<|I.d7.fresh<|mN _⟩;exact⟨by rw[nz];exact O,_,r.append J,n5.new _ _⟩
end
noncomputable def qH(scope t:ep):ep:={scope with names:=scope.names.map λp=>if p.2==mY && t.kind == .function && t.names.lookup p.1==b8 .cell then (p.1,oy)else (p.1,p.2)}
theorem QP(scope:ep)(env:h8):n2 scope env=qH scope env.scope:=by unfold n2 qH;rfl
structure SX(X:Cx)(sc:ep)(N T:List Str)(k:Nat):Prop where
 sY:X.env.scope=sc
 eN:X.N=N
 nd:N.Nodup
 calm:X.calm=b9
 room:i2 k X.A
 fn : ∀x∈T,X.fn x=b9\/sc.names.lookup x=b8 .local
noncomputable def QI(t:ep)(N:List Str)(i:Nat)(x:Str):Bool:=
 decide (N[i]? = b8 x) && (decide (t.names.lookup x=b8 .local) || decide (t.names.lookup x=b8 .cell) || decide (t.names.lookup x=b8 .free)) && !(x==("__debug__" : Str)) && !(x==("__classdict__" : Str))
noncomputable def xN(t:ep)(N T:List Str)(i:Nat)(x:Str):Bool:=decide (x∈T) && decide (N[i]? = b8 x) && (decide (t.names.lookup x=b8 .local) || decide (t.names.lookup x=b8 .cell))
noncomputable def xE(t:ep)(x:Str):Bool:=decide (t.names.lookup x=b8 .globalImplicit) && !(x==("__name__" : Str)) && !(x==("__debug__" : Str))
section
variable{X:Cx}{sc:ep}{N T:List Str}{k:Nat}{i:Nat}{x:Str}{pos:d9}
theorem SX.var(h:SX X sc N T k)(c:QI sc N i x=b9):PE X (.Name x pos) (W9 i):=by
 unfold QI at c;simp only[mR,nK,decide_eq_true_eq,rm]at c;obtain⟨⟨⟨a,h2⟩,z⟩,B⟩:=c;refine ba (by rw[h.eN];exact a) ?_ z B;unfold uU;rw[h.sY];rcases h2 with(h2 | h2) | h2
 ·exact .inl h2
 ·exact .inr<|.inl h2
 ·exact .inr<|.inr h2
theorem SX.loc(h:SX X sc N T k)(c:xN sc N T i x=b9):X.N[i]? = b8 x/\L2.Loc X.env.scope x/\(X.fn x=b9\/X.env.scope.names.lookup x=b8 .local):=by
 unfold xN at c;simp only[mR,nK,decide_eq_true_eq]at c;refine⟨by rw[h.eN];exact c.1.2,?_,?_⟩
 ·unfold L2.Loc;rw[h.sY];exact c.2
 ·rw[h.sY];exact h.fn x c.1.1
theorem SX.xb(h:SX X sc N T k):X.N.Nodup:=by rw[h.eN];exact h.nd
theorem SX.tL(h:SX X sc N T k)(i:Nat)(c:xN sc N T i x=b9):PG X (.Name x pos) (kG i):=by obtain⟨a,b,z⟩:=h.loc c;exact X4 h.xb a b z
theorem SX.AI(h:SX X sc N T k)(g:tZ X es (gs is))(t:(o9 es X.env).length=is.length:=by rfl)(z:(o9 es X.env).findIdx? (·.1)=cp:=by rfl):PG X (.Tuple es j pos) (n1 X.K<|.tp is):=
 aX h.calm g t z
theorem SX.set(h:SX X sc N T k)(i:Nat)(c:xN sc N T i x=b9)(z:PE X e te)(B:p8 e (b8 (.Name x pos')) pos.line X.env=pure cq:=by rfl):PS X (.Assign [.Name x pos'] e pos) (K2 te<|kG i):=by obtain⟨a,b,I⟩:=h.loc c;exact aO h.xb a b z B I
theorem SX.gl(h:SX X sc N T k)(c:xE sc x=b9):Gl X x/\x ≠ "__name__"/\(x==("__debug__" : Str))=cq:=by
 unfold xE at c;simp only[mR,decide_eq_true_eq,rm]at c;refine⟨?_,?_,c.2⟩
 ·show X.env.scope.names.lookup x=_
  rw[h.sY];exact c.1.1
 ·intro e;rw[e]at c;simp at c
noncomputable def Jn(sc scope:ep)(N:List Str)(t:List (Str×Nat)):Bool:=
 decide (scope.kind = .function) && decide ((scope.names.map (·.1)).Nodup) && scope.names.all (λp=> !(p.2==mY) || decide (sc.names.lookup p.1=b8 .cell) || decide (sc.names.lookup p.1=b8 .free)) &&
 t.all λp=>decide (scope.names.lookup p.1=b8 .free) && decide (N[p.2]? = b8 p.1)
noncomputable def eL(own:List Str)(scope:ep)(t:List (Str×Nat)):Bool:=decide ((own++t.map (·.1)).Nodup) && own.all (λx=>decide (scope.names.lookup x=b8 .local) || decide (scope.names.lookup x=b8 .cell))
theorem SX.AX(h:SX X sc N T k)(c:Jn sc scope N fr=b9):n3 X scope fr:=by
 unfold Jn at c;simp only[mR,decide_eq_true_eq,nO,nK,rm]at c;obtain⟨⟨⟨I,J⟩,M⟩,B⟩:=c;refine⟨I,J,λp z O=>?_,λp z=>⟨(B p z).1,by rw[h.eN];exact(B p z).2⟩⟩;have e:X.env.kindOf p.1=sc.names.lookup p.1:=by show X.env.scope.names.lookup p.1=_;rw[h.sY]
 rw[e];rcases M p z with(q | q) | q
 ·rw[O]at q;exact absurd q ⋯
 ·exact .inl q
 ·exact .inr q
theorem yL(scope sc:ep)(x:Str):(qH scope sc).names.lookup x=(scope.names.lookup x).map λk=>if (k==mY && sc.kind == .function && sc.names.lookup x==b8 .cell)then oy else k:=by
 unfold qH;dsimp only;generalize scope.names=l
 induction l with
 | nil=>rfl
 | cons p r B=>
  obtain⟨n,I⟩:=p;rw[nj];cases hx:x==n with
  | true=>
   have e:x=n:=by simpa using hx
   subst e;dsimp only;split
   ·rename_i z;rw[nv,nv,beq_self_eq_true];dsimp only[om];rw[GY z]
   ·rename_i z;rw[nv,nv,beq_self_eq_true];dsimp only[om];rw[MQ z]
  | false=>
   dsimp only;split
   ·rw[nv,nv,hx];exact B
   ·rw[nv,nv,hx];exact B
theorem SX.comp(h:SX X sc N T k)(c:eL own scope fr=b9) :
 SX (z6 X scope (own++fr.map (·.1)) fp s2 H2) (qH scope sc) (own++fr.map (·.1)) own k:=by
 unfold eL at c;simp only[mR,decide_eq_true_eq,nO,nK]at c;refine⟨?_,rfl,c.1,h.calm,h.room,λx z=>?_⟩
 ·show n2 scope X.env=_
  rw[QP,h.sY]
 ·rcases c.2 x z with q | q
  ·right;rw[yL,q];rfl
  ·left
   show(scope.names.lookup x==b8 .cell)=b9;rw[q];rfl
end
mutual
def gv:D->PyData
 | .ea=> .none
 | .bl b=> .bool b
 | .int i=> .int i
 | .str x=> .str x
 | .tup a=> .tuple (l0 a)
 | .lst a=> .list (l0 a)
 | .hA _ _=> .none
 | .f7 _ _=> .none
def l0:List D->List PyData
 | []=>[]
 | d::ds=>gv d::l0 ds
end
theorem p7(h:h7 (.hA ks vs)=b9):False:=by simp[h7]at h
theorem p6(h:h7 (.f7 ks vs)=b9):False:=by simp[h7]at h
mutual
theorem u3 : ∀x y:D,h7 x=b9->h7 y=b9->pz (gv x) (gv y)=hF x y
 | .ea,y,_,h=>by cases y<;>first | exact(p7 h).elim | exact(p6 h).elim | simp[gv,pz,hF]
 | .bl a,y,_,h=>by cases y<;>first | exact(p7 h).elim | exact(p6 h).elim | simp[gv,pz,hF]
 | .int a,y,_,h=>by cases y<;>first | exact(p7 h).elim | exact(p6 h).elim | simp[gv,pz,hF]
 | .str a,y,_,h=>by cases y<;>first | exact(p7 h).elim | exact(p6 h).elim | simp[gv,pz,hF]
 | .hA c n,y,h,_=>(p7 h).elim
 | .f7 c n,y,h,_=>(p6 h).elim
 | .tup xs,y,h1,h2=>by
  cases y with
  | tup b=>simp only[h7]at h1 h2;simp only[gv,pz,hF];exact u4 xs b h1 h2
  | hA c n=>exact(p7 h2).elim
  | f7 c n=>exact(p6 h2).elim
  | _=>simp[gv,pz,hF]
 | .lst xs,y,h1,h2=>by
  cases y with
  | lst b=>simp only[h7]at h1 h2;simp only[gv,pz,hF];exact u4 xs b h1 h2
  | hA c n=>exact(p7 h2).elim
  | f7 c n=>exact(p6 h2).elim
  | _=>simp[gv,pz,hF]
theorem u4 : ∀xs t:List D,m4 xs=b9->m4 t=b9->rR (l0 xs) (l0 t)=m2 xs t
 | [],t,_,_=>by cases t<;>simp[l0,rR,m2]
 | x::xs,t,h1,h2=>by
  cases t with
  | nil=>simp[l0,rR,m2]
  | cons y t=>
   simp only[m4,mR]at h1 h2;simp only[l0,rR,m2];rw[u3 x y h1.1 h2.1,u4 xs t h1.2 h2.2]
end
mutual
theorem Am : ∀x:D,h7 x=b9->(gv x).canLay0=b9
 | .ea,_=>by simp[gv,pB]
 | .bl a,_=>by simp[gv,pB]
 | .int a,_=>by simp[gv,pB]
 | .str a,h=>by simpa[gv,pB,h7,PyData.strOk]using h
 | .tup xs,h=>by simp only[h7]at h;simp only[gv,pB];exact u7 xs h
 | .lst xs,h=>by simp only[h7]at h;simp only[gv,pB];exact u7 xs h
 | .hA c n,h=>(p7 h).elim
 | .f7 c n,h=>(p6 h).elim
theorem u7 : ∀xs:List D,m4 xs=b9->sd (l0 xs)=b9
 | [],_=>by simp[l0,sd]
 | x::xs,h=>by simp only[m4,mR]at h;simp only[l0,sd];rw[Am x h.1,u7 xs h.2];rfl
end
mutual
theorem Ak : ∀x:D,(gv x).depth=deep x
 | .ea=>by simp[gv,oU,deep]
 | .bl a=>by simp[gv,oU,deep]
 | .int a=>by simp[gv,oU,deep]
 | .str a=>by simp[gv,oU,deep]
 | .hA c n=>by simp[gv,oU,deep]
 | .f7 c n=>by simp[gv,oU,deep]
 | .tup b=>by simp only[gv,oU,deep];rw[uZ b]
 | .lst b=>by simp only[gv,oU,deep];rw[uZ b]
theorem uZ : ∀xs:List D,PyData.depthAll (l0 xs)=pk xs
 | []=>by simp[l0,PyData.depthAll,pk]
 | x::xs=>by simp only[l0,PyData.depthAll,pk];rw[Ak x,uZ xs]
end
theorem qX(h:g8 d=b9):h7 d=b9:=by unfold g8 at h;rw[mR]at h;exact h.2
theorem xR(h:g8 d=b9):SeqAt.shaped (gv d)=b9:=by unfold g8 at h;rw[mR,decide_eq_true_eq]at h;unfold SeqAt.shaped;rw[Am d h.2,Bool.true_and,Ak];exact decide_eq_true ⋯
section
variable{X:Cx}{pins:GW}{σ:St}{H0 H:Hp}{s:d0}
mutual
theorem ud(I:Inv X pins σ H s)(sub:ei H0 H) : ∀{d:D} {v:V} {u:di},h7 d=b9->Rep X.K H0 d v->RelV v u->∃z,Reads s.heap u (gv d) z
 | .ea,v,u,_,h,r=>by cases (show v = .ea from h);cases r;exact⟨_,.none⟩
 | .bl b,v,u,_,h,r=>by cases (show v = .bl b from h);cases r;exact⟨_,.bool b⟩
 | .int i,v,u,_,h,r=>by cases (show v = .int i from h);obtain⟨t,rfl⟩:=r;exact⟨_,.int i t⟩
 | .str x,v,u,_,h,r=>by cases (show v = .str x from h);obtain⟨t,rfl⟩:=r;exact⟨_,.str x t⟩
 | .hA c n,v,u,o,_,_=>(p7 o).elim
 | .f7 c n,v,u,o,_,_=>(p6 o).elim
 | .tup ds,v,u,o,h,r=>by obtain⟨a,e,rfl,f,g⟩:=(show ∃a e,v = .ref a/\eu X.K H0 a e/\dy X.K H0 ds e from h);cases r;simp only[h7]at o;obtain⟨R,B,⟨U,J,M,n,j⟩,W⟩:=I.tuple<|i6 sub f;obtain⟨z,O⟩:=xx I sub o g B;exact⟨z,.tuple J M j<|by simpa using O⟩
 | .lst ds,v,u,o,h,r=>by obtain⟨a,e,rfl,f,g⟩:=(show ∃a e,v = .ref a/\el X.K H0 a e/\dy X.K H0 ds e from h);cases r;simp only[h7]at o;obtain⟨R,B,p,W⟩:=I.list<|sub.seq f;obtain⟨U,J,M,n,j⟩:=p.isList;obtain⟨z,O⟩:=xx I sub o g B;exact⟨_,.list J M j<|by simpa using O⟩
theorem xx(I:Inv X pins σ H s)(sub:ei H0 H) : ∀{C:List D} {xs:List V} {G:List di},m4 C=b9->dy X.K H0 C xs->d5 xs G->∃z,ReadsAll s.heap G (l0 C) z
 | [],xs,G,_,h,r=>by rw[h.m3]at r;cases r;exact⟨_,.nil⟩
 | d::C,xs,G,o,h,r=>by
  obtain⟨x,t,e,a,b⟩:=h.i9;subst e;simp only[m4,mR]at o;cases r with
  | cons B J=>
   obtain⟨z,M⟩:=ud I sub o.1 a B;obtain⟨bs,O⟩:=xx I sub o.2 b J;exact⟨_,.cons M O⟩
end
end
noncomputable def gX(K:mD):R2:=λx y H Q=>∃a b z,ei a H/\Rep K a b x/\Rep K a z y/\g8 b=b9/\g8 z=b9/\Q (.bl<|hF b z) H
noncomputable def gW(K:mD):R2:=λx y H Q=>∃a b z,ei a H/\Rep K a b x/\Rep K a z y/\g8 b=b9/\g8 z=b9/\Q (.bl<|!hF b z) H
theorem Vr(J:X.A.units+64<t2):fh X (ij .Eq) (gX X.K):=by intro a s f H x y v u Q I M O h;obtain⟨b,d,e,sub,R,U,z,B,q⟩:=h;obtain⟨as,W⟩:=ud I sub (qX z) R M;obtain⟨bs,Y⟩:=ud I sub (qX B) U O;exact eq_dataH W Y (xR z) (xR B) J ⟨.bl _,H,I,by rw[u3 _ _ (qX z) (qX B)];rfl,q⟩
theorem bA(J:X.A.units+64<t2):fh X (ij .NotEq) (gW X.K):=by intro a s f H x y v u Q I M O h;obtain⟨b,d,e,sub,R,U,z,B,q⟩:=h;obtain⟨as,W⟩:=ud I sub (qX z) R M;obtain⟨bs,Y⟩:=ud I sub (qX B) U O;exact ne_dataH W Y (xR z) (xR B) J ⟨.bl _,H,I,by rw[u3 _ _ (qX z) (qX B)];rfl,q⟩
theorem Xw{K:mD}:h3 K (gX K) fk:=λa H x y b B d Q s I J z q=>by
 unfold fk at z;split at z
 ·rename_i h;cases z;exact⟨a,b,B,s,I,J,h.1,h.2,q _ H a (Ext.refl s) rfl⟩
 ·cases z
theorem V6{K:mD}:h3 K (gW K) h6:=λa H x y b B d Q s I J z q=>by
 unfold h6 at z;split at z
 ·rename_i h;cases z;exact⟨a,b,B,s,I,J,h.1,h.2,q _ H a (Ext.refl s) rfl⟩
 ·cases z
theorem SX.uO(h:SX X sc N T k):X.A.units+64<t2:=by have:=h.room.un;omega
section
variable{X:Cx}{sc:ep}{N T:List Str}{k:Nat}{a b c:dV}{pos p:d9}{fa fb fc:CO D}
theorem Vh(t:PV X a fa)(z:PV X b fb):PV X (.BinOp a .Sub b pos) (zv cn fa fb):=vq bx V4 t z
theorem w5(t:PV X a fa)(z:PV X b fb):PV X (.BinOp a .FloorDiv b pos) (zv J2 fa fb):=vq Wx V9 t z
theorem jr(t:PV X a fa)(z:PV X b fb):PV X (.BinOp a .Mod b pos) (zv qR fa fb):=vq bB V8 t z
theorem XO(t:PV X a fa)(z:PV X b fb):PV X (.BinOp a .Pow b pos) (zv WI fa fb):=vq bz V5 t z
theorem fj(t:PV X a fa)(z:PV X b fb):PV X (.Compare a [.Lt] [b] pos) (zv tE fa fb):=w6 fD af t z<|kW b
theorem fm(t:PV X a fa)(z:PV X b fb):PV X (.Compare a [.LtE] [b] pos) (zv n9 fa fb):=w6 X9 wK t z<|kW b
theorem ft(t:PV X a fa)(z:PV X b fb):PV X (.Compare a [.Gt] [b] pos) (zv n7 fa fb):=w6 bC Vd t z<|kW b
theorem fu(t:PV X a fa)(z:PV X b fb):PV X (.Compare a [.GtE] [b] pos) (zv tD fa fb):=w6 fE ag t z<|kW b
theorem Wg(h:SX X sc N T k)(t:PV X a fa)(z:PV X b fb):PV X (.Compare a [.Eq] [b] pos) (zv fk fa fb):=w6 (Vr h.uO) Xw t z<|kW b
theorem aL(t:PV X a fa)(z:PV X b fb):i8 X (.Compare a [.Gt] [b] pos) (sB<|zv n7 fa fb):=ZQ bC Vd t z<|kW b
theorem qy(h:SX X sc N T k)(t:PV X a fa)(z:PV X b fb):i8 X (.Compare a [.Eq] [b] pos) (sB<|zv fk fa fb):=ZQ (Vr h.uO) Xw t z<|kW b
theorem xv(h:SX X sc N T k)(t:PV X a fa)(z:PV X b fb):i8 X (.Compare a [.NotEq] [b] pos) (sB<|zv h6 fa fb):=ZQ (bA h.uO) V6 t z<|kW b
theorem ku{K:mD}{H:Hp}{t:List D}{v:V}(h:Rep K H (.tup t) v) : ∃a xs,v = .ref a/\eu K H a xs/\dy K H t xs:=h
theorem Jd{K:mD}{H:Hp}{t:List D}{v:V}(h:Rep K H (.lst t) v) : ∃a xs,v = .ref a/\el K H a xs/\dy K H t xs:=h
theorem j9{K:mD}{H:Hp}{t:List D}{a:c8}{xs:List V}(z:eu K H a xs)(C:dy K H t xs):Rep K H (.tup t) (.ref a):=⟨a,xs,rfl,z,C⟩
theorem XG{K:mD}{H:Hp}{t:List D}{a:c8}{xs:List V}(z:el K H a xs)(C:dy K H t xs):Rep K H (.lst t) (.ref a):=⟨a,xs,rfl,z,C⟩
theorem Wa{K:mD}:h3 K (λx y H Q=>lp (λi j=> .int (i+j)) x y H Q\/Vg K x y H Q) qf:=λg H x y n R d Q s I J B q=>by
 cases n<;>cases R<;>simp[qf]at B
 ·subst B;exact .inl ⟨_,_,jg I,jg J,q _ H g (Ext.refl s) rfl⟩
 ·rename_i m o
  obtain⟨U,rfl⟩:=B;obtain⟨a,r,rfl,l,f⟩:=ku I;obtain⟨b,t,rfl,M,z⟩:=ku J;refine .inr ⟨a,b,r,t,rfl,rfl,i6 s l,i6 s M,kD (by rw[f.length,z.length];exact U),λe=>?_,λe=>?_,λp O=>?_⟩
  ·have h:m=[]:=by
    have:=f.length;rw[e]at this;exact ng this.symm
   subst h;exact q _ H g (Ext.refl s)<|j9 M z
  ·have h:o=[]:=by
    have:=z.length;rw[e]at this;exact ng this.symm
   subst h;exact q _ H g (Ext.refl s) (by rw[List.append_nil];exact j9 l f)
  ·exact q _ _ _ (Ext.alloc s O _)<|j9 (eu.of zE)<|(f.append z).mono (zX (ji s O) _)
theorem js(t:PV X a fa)(z:PV X b fb):PV X (.BinOp a .Add b pos) (zv qf fa fb):=vq (Bc.or YG) Wa t z
end
theorem Jy(J:A.handled=cp)(k:Sk)(I z:c8)(M:z≠I)(B:Array di) :
 Walks P w A I [I,z] [I] B.size (λi v=>B[i]? = b8 v) (λi h=>hR k h I z i/\i3 k h z B):=by
 cases k
 ·exact Walks.list J I z M B
 ·exact Walks.tuple J I z M B
theorem yA(t:List Int) : ∀n,preSum (λi=>t.getD i 0) n=(t.take n).sum
 | 0=>by simp[preSum]
 | n+1=>by
  have z:=yA t n;simp only[preSum,z];by_cases h:n<t.length
  ·rw[List.take_succ_eq_append_getElem h,List.sum_append]
   simp[h]
  ·rw[oF ⋯,oF ⋯]
   simp[h]
section
variable{X:Cx}{pins:GW}{σ:St}{H:Hp}{s:d0}
theorem KH(U:X.calm=b9):vf X (.builtin "sum") (λxs H Q=>∃p k G C,xs=[.ref p]/\h5 k X.K H p G/\G=(C:List Int).map V.int/\Q (.int C.sum) H):=by
 intro pins s σ H w n Q I W h;obtain⟨p,k,G,C,rfl,Y,rfl,q⟩:=h;obtain⟨u,rfl,B⟩:=kr W;cases B;obtain⟨z,r,J,m⟩:=I.sq Y;have lt:=J.lt;have M:=r.length;rw[mZ]at M;refine call_sum_walkG<|JV J ⟨_,[_,p],[_],z.toArray.size,_,_,λi=>C.getD i 0,rfl,Jy (A:=X.A.in1) (I.ok.hd U) k _ p (nt lt) z.toArray,⟨JW k _ p,J.at λo e=>mF _ e⟩,?_,?_,?_⟩
 ·intro b O
  rw[nN];simp only[mJ,nC,or_false]at O;rcases O with rfl | rfl
  ·exact pG _
  ·exact nR lt
 ·intro i v g
  have R:z[i]? = b8 v:=by simpa using g
  have d:i<C.length:=by rw[M];exact(mP.mp R).1
  obtain⟨u,a,B⟩:=r.get (i:=i) (x:= .int C[i]) (by simp[d]);rw[R]at a;cases a;obtain⟨t,rfl⟩:=B;exact⟨t,by simp[d]⟩
 ·intro l j t' f
  have e:preSum (λi=>C.getD i 0) z.toArray.size=C.sum:=by rw[yA,oF (by rw[mT,M];exact mN _)]
  refine⟨.int C.sum,H,I.kept (t':=j)<|λb u e=>f b u ?_ (mF _ e),⟨t',by rw[e]⟩,q⟩;simp only[mJ,nC,or_false];exact nt<|mS e
noncomputable def W8:V->Option Bool
 | .ea=>b8 cq
 | .bl b=>b8 b
 | .int i=>b8 (i != 0)
 | _=>cp
theorem Yd(r:RelV x u)(e:W8 x=b8 b)(q:Q b s):wpAny (d4 P w) A (truthy u) Q E s:=by
 cases x with
 | ea=>cases r;cases e;exact λ_ _ _=>q
 | bl c=>cases r;cases e;exact oj q
 | int i=>obtain⟨t,rfl⟩:=r;cases e;exact PyProof.Rows.truthy_int q
 | _=>cases e
noncomputable def Xr:List V->Option (List Bool)
 | []=>b8 []
 | x::r=>(W8 x).bind λb=>(Xr r).map λl=>b::l
theorem wF : ∀{xs:List V} {bs:List Bool},Xr xs=b8 bs->bs.length=xs.length/\∀(i:Nat) x,xs[i]? = b8 x->W8 x=b8 (bs.getD i cq)
 | [],bs,h=>by cases h;exact⟨rfl,λi x e=>by simp at e⟩
 | y::xs,bs,h=>by
  obtain⟨b,a,h⟩:=zb h;obtain⟨l,d,h⟩:=zo h;subst h;obtain⟨f,g⟩:=wF d;refine⟨by simp[f],λi x e=>?_⟩;cases i with
  | zero=>simp at e;subst e;simpa using a
  | succ i=>simpa using g i x (by simpa using e)
theorem KW(bs:List Bool):(mG bs.length).all (λi=>bs.getD i cq)=bs.all id:=by
 rw[rJ];simp only[nO,nM,id_eq];constructor
 ·intro h b z
  obtain⟨i,a,e⟩:=List.mem_iff_getElem.mp z;have:=h i a;rw[oR,mO a]at this;rw[<- e];exact this
 ·intro h i a
  rw[oR,mO a];exact h _<|List.getElem_mem a
theorem KL(R:X.calm=b9):vf X (.builtin "all") (λxs H Q=>∃p k t bs,xs=[.ref p]/\h5 k X.K H p t/\Xr t=b8 bs/\Q (.bl (bs.all id)) H):=by
 intro pins s σ H L G Q I U h;obtain⟨p,k,t,bs,rfl,W,Y,q⟩:=h;obtain⟨u,rfl,B⟩:=kr U;cases B;obtain⟨z,r,J,E⟩:=I.sq W;have lt:=J.lt;have M:=r.length;obtain⟨f,g⟩:=wF Y;refine call_all_walk<|JV J ⟨_,[_,p],[_],z.toArray.size,_,_,λi=>bs.getD i cq,rfl,Jy (A:=X.A.in1) (I.ok.hd R) k _ p (nt lt) z.toArray,⟨JW k _ p,J.at λo e=>mF _ e⟩,?_,?_⟩
 ·intro i v F y w m j
  have O:z[i]? = b8 v:=by simpa using m
  have d:i<t.length:=by rw[M];exact(mP.mp O).1
  obtain⟨u,a,B⟩:=r.get (i:=i) (x:=t[i]) (by simp[d]);rw[O]at a;cases a;exact Yd B (g i t[i] (by simp[d])) j
 ·intro C n l
  have e:(mG z.toArray.size).all (λi=>bs.getD i cq)=bs.all id:=by rw[mT,<- M,<- f];exact KW bs
  refine⟨.bl<|bs.all id,H,I.kept (t':=n)<|λb u e=>l b u ?_ (mF _ e),by rw[e];rfl,q⟩;simp only[mJ,nC,or_false];exact nt<|mS e
end
section
variable{X:Cx}{sc:ep}{N T:List Str}{k:Nat}{e a b c:dV}{pos p p2:d9}{f g:CO D}{fq:CO (Sk×List D)}
theorem eM{K:mD}{H:Hp}{k:Sk}{a:c8}{xs:List V}(h:h5 k K H a xs):el K H a xs\/eu K H a xs:=by
 cases k
 ·exact .inl h
 ·exact .inr h
theorem jV(h:SX X sc N T k)(c:xE sc "len" = b9)(z:X.mg "len" = cp)(I:PQ X e fq)(B:eg [e] X.env=[(cq,d1 e X.env)]:=by rfl):PV X (.Call (.Name "len" p) [e] [] pos) (yf fq):=
 z9 (yi Zu (h.gl c).1 z PySem.boot_len (jl I j0 B) ⋯ ⋯ B rfl) λu H Q J=>by obtain⟨j,s,d,rc,M,q⟩:=J;obtain⟨⟨o,f⟩,l,m⟩:=zo M;subst m;refine⟨j,s,o,f,rc,l,λa g i b ext n t r=>⟨a,g,rfl,eM n,?_⟩⟩;exact q _ i b ext (show V.int g.length = .int f.length by rw[r.length])
theorem jT(h:SX X sc N T k)(c:xE sc "tuple" = b9)(z:X.mg "tuple" = cp)(J:PQ X e fq)(B:eg [e] X.env=[(cq,d1 e X.env)]:=by rfl):PV X (.Call (.Name "tuple" p) [e] [] pos) (zY fq):=
 z9 (x9 wj (h.gl c).1 z pM (jl J j0 B) ⋯ ⋯ B rfl) λw H Q M=>by
  obtain⟨j,u,d,rc,O,q⟩:=M;obtain⟨⟨g,m⟩,n,o⟩:=zo O;subst o;refine⟨j,u,g,m,rc,n,λa t i b ext f s r=>⟨a,t,rfl,?_⟩⟩;cases g with
  | L=>exact .inl ⟨f,λl I=>q _ _ _ (ext.trans<|Ext.alloc ext.sub I _)<|j9 (eu.of zE)<|r.mono<|zX (ji ext.sub I) _⟩
  | T=>exact .inr ⟨f,q _ i b ext (j9 (s rfl) r)⟩
theorem Ke{H t:Hp}(s:ei H t){a:c8}(h:t a=cp):H a=cp:=by
 cases z:H a with
 | none=>rfl
 | some o=>rw[s a o z]at h;cases h
theorem wG : ∀{z:List D} {n:Int},Yh z=b8 n->∃t:List Int,z=t.map D.int/\n=t.sum
 | [],n,h=>by cases h;exact⟨[],rfl,rfl⟩
 | d::z,n,h=>by
  cases d with
  | int i=>
   obtain⟨s,e,h⟩:=zo h;obtain⟨t,rfl,rfl⟩:=wG e;exact⟨i::t,rfl,by rw[<- h];simp⟩
  | _=>cases h
theorem wV{K:mD}{H:Hp} : ∀{t:List Int} {xs:List V},dy K H (t.map D.int) xs->xs=t.map V.int
 | [],xs,h=>h.m3
 | z::t,xs,h=>by obtain⟨x,r,e,a,b⟩:=dy.i9 h;rw[e,jg a,wV b];rfl
theorem aJ(h:SX X sc N T k)(c:xE sc "sum" = b9)(z:X.mg "sum" = cp)(M:PQ X e fq)(J:eg [e] X.env=[(cq,d1 e X.env)]:=by rfl):PV X (.Call (.Name "sum" p) [e] [] pos) (eQ fq):=
 z9 (yi (KH h.calm) (h.gl c).1 z PyProof.Rows.boot_sum (jl M j0 J) ⋯ ⋯ J rfl) λx H Q O=>by obtain⟨j,u,d,rc,B,q⟩:=O;obtain⟨⟨f,l⟩,m,B⟩:=zb B;obtain⟨n,o,R⟩:=zo B;subst R;obtain⟨g,I,rfl⟩:=wG o;have I:l=g.map D.int:=I;subst I;exact⟨j,u,f,_,rc,m,λa t i b ext s w r=>⟨a,f,t,g,rfl,s,wV r,q _ i b ext rfl⟩⟩
theorem VY{K:mD}{H:Hp}{d:D}{x:V}{b:Bool}(h:Rep K H d x)(e:eA d=b8 b):W8 x=b8 b:=by
 cases d with
 | ea=>cases (show x = .ea from h);exact e
 | bl c=>cases (show x = .bl c from h);exact e
 | int i=>cases (show x = .int i from h);exact e
 | _=>cases e
theorem JC{K:mD}{H:Hp} : ∀{t:List D} {xs:List V} {bs:List Bool},dy K H t xs->vH t=b8 bs->Xr xs=b8 bs
 | [],xs,bs,h,e=>by rw[h.m3];exact e
 | d::t,xs,bs,h,e=>by obtain⟨x,r,z,g,i⟩:=h.i9;obtain⟨b,a,e⟩:=zb e;obtain⟨l,f,e⟩:=zo e;subst z e;show(W8 x).bind _=_;rw[VY g a];show((Xr r).map λl=>b::l)=_;rw[JC i f];rfl
theorem kS(h:SX X sc N T k)(c:xE sc "all" = b9)(z:X.mg "all" = cp)(J:PQ X e fq)(I:eg [e] X.env=[(cq,d1 e X.env)]:=by rfl):PV X (.Call (.Name "all" p) [e] [] pos) (JH fq):=
 z9 (yi (KL h.calm) (h.gl c).1 z PyProof.Rows.boot_all (jl J j0 I) ⋯ ⋯ I rfl) λu H Q M=>by obtain⟨i,o,d,rc,B,q⟩:=M;obtain⟨⟨f,s⟩,j,B⟩:=zb B;obtain⟨bs,l,O⟩:=zo B;subst O;exact⟨i,o,f,_,rc,j,λa n g b ext m t r=>⟨a,f,n,bs,rfl,m,JC r l,q _ g b ext rfl⟩⟩
theorem We(h:SX X sc N T k)(c:xE sc "int" = b9)(z:X.mg "int" = cp)(M:PV X e f)(I:eg [e] X.env=[(cq,d1 e X.env)]:=by rfl):PV X (.Call (.Name "int" p) [e] [] pos) (XD f):=
 z9 (x9 KJ (h.gl c).1 z pV (jl M j0 I) ⋯ ⋯ I rfl) λn H Q O=>by
  obtain⟨j,m,d,rc,B,q⟩:=O;obtain⟨J,l,B⟩:=zb B;refine⟨j,m,J,rc,l,λv g a ext r=>?_⟩;cases J with
  | int i=>cases B;exact .inl ⟨i,by rw[jg r],q _ g a ext rfl⟩
  | bl b=>cases B;exact .inr ⟨b,by rw[show v = .bl b from r],q _ g a ext rfl⟩
  | _=>cases B
end
section
variable{X:Cx}{sc:ep}{N T:List Str}{k:Nat}{e a b c:dV}{pos p p2:d9}{f g:CO D}{fq:CO (Sk×List D)}
theorem Kn(h:g5 n i=b8 j):tf n i=b8 j:=by
 unfold g5 at h;unfold tf;split at h
 ·rename_i a;rw[GY a.1,GY a.2];exact h
 ·split at h
  ·rename_i a b;rw[MQ ⋯,GY ⋯];exact h
  ·cases h
theorem zA(C:PQ X a fq)(O:PV X b g)(R:Jw b:=by intro _ _;rfl):PV X (.Subscript a b pos) (dk fq g):=
 z9 (bp (A7.or bS) C O R) λN H Q U=>by
  obtain⟨o,n,d,rc,z,q⟩:=U;obtain⟨⟨m,u⟩,w,z⟩:=zb z;obtain⟨i,f,z⟩:=zb z;obtain⟨W,Y,f⟩:=zb f;obtain⟨j,y,z⟩:=zb z;refine⟨o,n,m,u,rc,w,λp h F e ext l G r=>⟨e,n,W,rc.ext ext,Y,λK s t B I=>?_⟩⟩;rw[qj f]at I;obtain⟨x,A,E⟩:=r.get z;have J:rb h i=b8 x:=by unfold rb;rw[r.length,Kn y];exact A
  have M:=q x s t (ext.trans B)<|E.mono B.s0;cases m with
  | L=>exact .inl ⟨p,h,i,x,rfl,jg I,B.s1.seq l,J,M⟩
  | T=>exact .inr ⟨p,h,i,x,rfl,jg I,i6 B.s1 l,J,M⟩
theorem kF{P:fy}{w:eW}{A:i4}{E:GQ}{s:d0}{t C:c8}{z:Array di}{I J:di}{lo hi:Option Int}{Q:GQ}(B:tX s.heap t z)(M:s.heap.IsSliceOf C I J .none)(O:o5 I lo)(R:o5 J hi)
 (G:HT.dk z.size 0 lo=0/\HT.dk z.size z.size hi=z.size) (h:Q (.ref t) s):wpAny (d4 P w) A (p0 (.ref t)<|.ref C) Q E s:=by
 obtain⟨os,U,W,b⟩:=id M;have Y:s.TypeIs (.ref C) "slice":=⟨os,U,W⟩;unfold p0
 try with_reducible refine rK ?_
 first | refine mE (mL ?_) | skip
 refine mE (Bp B.typeIs ⋯ ?_);refine mE (oi (name:=mV "__getitem__") B.typeIs nE
  (oI nE B.typeIs entry_tuple_getitem ?_ (AU _ _)))
 show wpAny _ _ (Builtin.Tuple.tupleItemsOf (.ref t) >>= _) _ _ s;refine mE<|rL B ?_;refine mE<|sO Y ?_;rw[GY ⋯];refine mE<|HT.k5 M O R ?_;have a:(((HT.dk z.size 0 lo:Nat):Int)==0 && (1:Int)==1 && (HT.dk z.size z.size hi - HT.dk z.size 0 lo)==z.size)=b9:=by rw[G.1,G.2];simp
 show wpAny _ _ (if (((HT.dk z.size 0 lo:Nat):Int)==0 && (1:Int)==1 && (HT.dk z.size z.size hi - HT.dk z.size 0 lo)==z.size)=b9 then _ else _) _ _ s;rw[GY a];refine mE (m:=oE _) ?_;unfold oE;refine mE<|sO B.typeIs<|mL ?_;rw[GY ⋯];exact mE<|sM<|mL ⟨_,rfl,mL h⟩
noncomputable def fe(K:mD):V->Option Int->Option Int->Hp->VK->Prop:=λx lo d H Q=>∃a b,x = .ref a/\eu K H a b/\(HT.dk b.length 0 lo=0/\HT.dk b.length b.length d=b.length->Q (.ref a) H)/\∀p,H p=cp->Q (.ref p) (upd H p<|.tup<|WL b lo d)
theorem Wb:uv X (fe X.K):=by
 intro d s m H x v U W lo f l Q I z B J M h;obtain⟨a,b,rfl,O,Y,j⟩:=h;by_cases e:HT.dk b.length 0 lo=0/\HT.dk b.length b.length f=b.length
 ·cases z
  obtain⟨g,r,R,n⟩:=I.tuple O;have i:g.toArray.size=b.length:=by rw[mT];exact r.length.symm
  refine⟨"tuple",_,nE.lookup,R.typeIs,?_⟩;exact kF R B J M (by rw[i];exact e) ⟨.ref a,H,I,rfl,Y e⟩
 ·exact ah d s m H (.ref a) v U W lo f l Q I z B J M ⟨a,b,rfl,O,e,j⟩
theorem yj(n d:Nat)(o:Option Int):Xf n d o=HT.dk n d o:=by cases o<;>rfl
theorem Yo{K:mD}{H:Hp}{t:List D}{xs:List V}(r:dy K H t xs)(lo hi:Option Int):dy K H (Y1 t lo hi) (WL xs lo hi):=by unfold Y1 WL;rw[<- yj,<- yj,r.length];exact(r.drop _).take _
theorem KB{t:List D}{lo hi:Option Int}(h:HT.dk t.length 0 lo=0/\HT.dk t.length t.length hi=t.length):Y1 t lo hi=t:=by unfold Y1;rw[yj,yj,h.1,h.2];simp
noncomputable def tB(K:mD)(f:CO (Option Int)):TO:=λg H Q=>∃d e o,RC K d H g e/\f e=b8 o/\∀b a,Ext d H a b->Q o b
theorem qV:L2.PO X cp (tB X.K yw):=λa s d H Q I ⟨b,e,o,rc,z,q⟩=>Wo a s d H Q I (by cases z;exact q H b<|Ext.refl rc.sub)
theorem jE(h:PV X e f):L2.PO X (b8 e) (tB X.K<|e4 f):=λa s p H Q I ⟨l,n,o,rc,z,q⟩=>Wn h a s p H Q I (by
 obtain⟨i,g,m⟩:=zo z;obtain⟨d,B,g⟩:=zb g;subst m;refine⟨l,n,d,rc,B,λv j b x r=>?_⟩;rw[qj g]at r;exact⟨i,jg r,q j b x⟩)
theorem XN{lo hi:Option dV}{I J:CO (Option Int)}(C:PV X a f)(U:L2.PO X lo (tB X.K I))(W:L2.PO X hi (tB X.K J)):PV X (.Subscript a (.Slice lo hi cp p2) pos) (ar f I J):=
 z9 (JR Wb C U W) λN H Q Y=>by
  obtain⟨j,g,d,rc,z,q⟩:=Y;obtain⟨M,w,z⟩:=zb z;obtain⟨l,y,z⟩:=zb z;obtain⟨u,A,z⟩:=zb z;refine⟨j,g,M,rc,w,λv F b x r=>⟨b,g,l,rc.ext x,y,λG o B=>⟨o,g,u,(rc.ext x).ext B,A,λm s x3=>?_⟩⟩⟩;have O:=x.trans<|B.trans x3;cases M with
  | tup L=>
   cases z;obtain⟨n,E,rfl,h,e⟩:=ku<|r.mono (B.trans x3).s0;have t:=e.length;refine⟨n,E,rfl,i6 x3.sub h,λi=>?_,λp R=>?_⟩
   ·rw[t]at i
    exact q _ m s O (by rw[KB i];exact j9 h e)
   ·exact q _ _ _ (O.trans<|Ext.alloc x3.sub R _)<|j9 (eu.of zE)<|(Yo e _ _).mono (zX (ji x3.sub R) _)
  | _=>cases z
theorem JI{K:mD}{H:Hp}{t:List D}{xs:List V}(r:dy K H t xs) : ∀n:Nat,dy K H (mI n t).flatten (mI n xs).flatten
 | 0=>dy.nil
 | n+1=>by rw[oh,oh,oQ,oQ];exact r.append<|JI r n
theorem bK{K:mD}{t c:String}{b:Bool}(h:(if ((sj t) == .type c)=b9 then b8 b9 else if PySem.W.kitMeta c=b9 then (fastBuiltinMro t).map (·.contains (.type c))else cp)=b8 b):oq K (.type t) (.type c)=b8 b:=h
noncomputable def uN:Ty->String
 | .int=>"int"
 | .bool=>"bool"
 | .str=>"str"
 | .tuple=>"tuple"
 | .list=>"list"
noncomputable def bL:D->String
 | .ea=>"NoneType"
 | .bl _=>"bool"
 | .int _=>"int"
 | .str _=>"str"
 | .tup _=>"tuple"
 | .lst _=>"list"
 | .hA _ _=>"dict"
 | .f7 _ _=>"dict"
theorem j4{K:mD}(T:Ty)(d:D):oq K (.type<|bL d) (.type<|uN T)=b8 (vX T d):=by cases d<;>cases T<;>(dsimp only[bL,uN,vX,VB,bU,Vy,Vx,VA];exact bK ⋯)
theorem YN{G:GW}{L:St}{C H:Hp}{s:d0}{A:i4}{E:GQ}{Q:GQ}{d:D}{x:V}{u:di}(I:Inv X G L H s)(sub:ei C H)(B:RelV x u)(r:Rep X.K C d x)(T:Ty)
 (h : ∀O,Q (.bool (vX T d)) {s with toks:=O}):wpAny (d4 X.prog X.w) A (call (.builtin "isinstance") [u,.type (uN T)]) Q E s:=by
 cases d with
 | ea=>have e:=j4 (K:=X.K) T .ea;cases (show x = .ea from r);cases (show u=oV from B);exact nh rY I.f6 nQ e (λz=>nomatch z) h
 | bl y=>have e:=j4 (K:=X.K) T<|.bl y;cases (show x = .bl y from r);cases (show u=sk y from B);exact nh rZ I.f6 nQ e (λz=>nomatch z) h
 | int i=>have e:=j4 (K:=X.K) T<|.int i;cases (show x = .int i from r);obtain⟨t,q⟩:=(show ∃t,u=rW i t from B);cases q;exact nh sr I.f6 nQ e (λz=>nomatch z) h
 | str y=>have e:=j4 (K:=X.K) T<|.str y;cases (show x = .str y from r);obtain⟨t,q⟩:=(show ∃t,u=rE y t from B);cases q;exact nh so I.f6 nQ e (λz=>nomatch z) h
 | tup l=>
  have e:=j4 (K:=X.K) T<|.tup l;obtain⟨a,b,rfl,f,m⟩:=ku r;cases (show u=nJ a from B);obtain⟨R,U,⟨o,J,M,_⟩,W⟩:=I.tuple<|i6 sub f;exact nh rN I.f6 ⟨o,J,M⟩ e (λz=>nomatch z) h
 | lst l=>
  have e:=j4 (K:=X.K) T<|.lst l;obtain⟨a,b,rfl,f,m⟩:=Jd r;cases (show u=nJ a from B);obtain⟨R,U,p,W⟩:=I.list<|sub.seq f;obtain⟨o,J,M,_⟩:=p.isList;exact nh pT I.f6 ⟨o,J,M⟩ e (λz=>nomatch z) h
 | hA g j=>
  have e:=j4 (K:=X.K) T<|.hA g j;obtain⟨a,b,rfl,⟨n,_,_,f⟩,_⟩:=(show ∃a b,x = .ref a/\tP C a g b/\dy X.K C j b from r);exact Ko I B (.dK<|sub _ _ f) e h
 | f7 g j=>
  have e:=j4 (K:=X.K) T<|.f7 g j;obtain⟨a,b,rfl,⟨_,o,F,f,m,_⟩,_⟩:=(show ∃a b,x = .ref a/\tR X.K C a g b/\dy X.K C j b from r);cases (show u=nJ a from B);obtain⟨J,_⟩:=(show gq X.prog X.w H s.heap a (uX a o)from I.d7 a _<|sub _ _ f);exact nh pv I.f6 ⟨o,J,m.1.1⟩ e (λz=>nomatch z) h
theorem Yq(T:Ty)(h:SX X sc N L k)(c:xE sc "isinstance" = b9)(z:X.mg "isinstance" = cp)(B:xE sc ty=b9)(R:X.mg ty=cp)(U:sV ty=b8 (.type (uN T)))(t:PV X a f)
 (M:eg [a,.Name ty p2] X.env=[(cq,d1 a X.env),(cq,d1 (.Name ty p2) X.env)]:=by rfl):PV X (.Call (.Name "isinstance" p) [a,.Name ty p2] [] pos) (hI T f):=by
 intro e s E H Q I ⟨i,C,d,rc,W,q⟩;obtain⟨O,m,n⟩:=zo W;subst n;refine pE<|xA I (h.gl c).1 z rO ?_ ⋯ ⋯;refine oZ ?_ (by rw[M];rfl) rfl;rw[M];show wpAny _ _ (tj ((cq,d1 a X.env)::i5 pos [(cq,d1 (.Name ty p2) X.env)])) _ _ s;refine ou<|d3 (t e s E H _ I ⟨i,C,O,rc,m,λv g b x r=>(show(λv g=>∃b,Ext i H b g/\Rep X.K b O v) v g from⟨b,x,r⟩)⟩) λu y Y=>?_;obtain⟨x,j,J,o,l,x1,w⟩:=Y;show wpAny _ _ (tj ((cq,d1 (.Name ty p2) X.env)::[])) _ _ y;refine ou<|xA J (h.gl B).1 R U ?_ (h.gl B).2.1 (h.gl B).2.2;refine rj ?_;exact YN J x1.sub o w T λA=>⟨.bl _,j,J.tok A,rfl,q _ j l x1 rfl⟩
end
section
variable{X:Cx}{sc:ep}{N L:List Str}{k:Nat}{e a b c:dV}{pos p p2:d9}{f g:CO D}{fq:CO (Sk×List D)}
theorem jD(h:SX X sc N L k)(c:xE sc "range" = b9)(z:X.mg "range" = cp)(t:PV X a f)(B:eg [a] X.env=[(cq,d1 a X.env)]:=by rfl):i1 X tg (.Call (.Name "range" p) [a] [] pos) (zT f):=QU (h.gl c).1 z t B
theorem Vp(h:SX X sc N L k)(c:xE sc "zip" = b9)(z:X.mg "zip" = cp)(t:PV X a f)(B:PV X b g)(I:eg [a,b] X.env=[(cq,d1 a X.env),(cq,d1 b X.env)]:=by rfl)(J:eg [b] X.env=[(cq,d1 b X.env)]:=by rfl) :
 i1 X (.Tuple elts x1 r6) (.Call (.Name "zip" p) [a,b] [] pos) (WY f g):=Ws (h.gl c).1 z t B I J
theorem wZ(h:SX X sc N L k)(c:xE sc "isinstance" = b9)(z:X.mg "isinstance" = cp)(B:xE sc "int" = b9)(I:X.mg "int" = cp)(t:PV X a f)
 (J:eg [a,.Name "int" p2] X.env=[(cq,d1 a X.env),(cq,d1 (.Name "int" p2) X.env)]:=by rfl):PV X (.Call (.Name "isinstance" p) [a,.Name "int" p2] [] pos) (hI .int f):=Yq .int h c z B I pV t J
theorem vp(h:SX X sc N L k)(c:xE sc "isinstance" = b9)(z:X.mg "isinstance" = cp)(B:xE sc "bool" = b9)(I:X.mg "bool" = cp)(t:PV X a f)
 (J:eg [a,.Name "bool" p2] X.env=[(cq,d1 a X.env),(cq,d1 (.Name "bool" p2) X.env)]:=by rfl):PV X (.Call (.Name "isinstance" p) [a,.Name "bool" p2] [] pos) (hI .bool f):=Yq .bool h c z B I PyProof.Rows.boot_bool t J
theorem jL(h:SX X sc N L k)(c:xE sc "isinstance" = b9)(z:X.mg "isinstance" = cp)(B:xE sc "tuple" = b9)(I:X.mg "tuple" = cp)(t:PV X a f)
 (J:eg [a,.Name "tuple" p2] X.env=[(cq,d1 a X.env),(cq,d1 (.Name "tuple" p2) X.env)]:=by rfl):PV X (.Call (.Name "isinstance" p) [a,.Name "tuple" p2] [] pos) (hI .tuple f):=Yq .tuple h c z B I pM t J
theorem JK(t:PV X a f):PV X (.UnaryOp .USub a pos) (ZL f):=
 z9 (fA W6 t) λm H Q z=>by obtain⟨h,l,d,rc,B,q⟩:=z;obtain⟨i,e,j⟩:=zo B;obtain⟨I,J,e⟩:=zb e;subst j;refine⟨h,l,I,rc,J,λv g b x r=>?_⟩;rw[qj e]at r;exact⟨i,jg r,q _ g b x rfl⟩
theorem qU(i:Nat)(h:SX X sc N L k)(c:QI sc N i x=b9)(t:PV X a f)(z:eg [a] X.env=[(cq,d1 a X.env)]:=by rfl)
 (B:uw (.Name x np) "append" X.env (d1 (.Name x np) X.env)=d1 (.Name x np) X.env:=by rfl)
 (I:((i5 cpos<|starEach [a] X.env).all (λx=> !x.1) && (ux cpos<|keywordEach [] X.env).all (λx=>x.1.isSome)
   && decide ([a].length+([]:List o6).length+(if ([]:List o6).isEmpty then 0 else 1)<30))=b9:=by rfl)
 (J:(apos.endLine==cpos.line)=b9:=by rfl) (M:p8 (.Call (.Attribute (.Name x np) "append" apos) [a] [] cpos) cp pos.line X.env=pure cq:=by rfl) :
 ih X (.Expr (.Call (.Attribute (.Name x np) "append" apos) [a] [] cpos) pos) (jk i f):=
 QQ i (YE PySem.F.plainAttrs_list PySem.F.slot_list_append PySem.F.type_list_append Kg (h.var c) (jl t j0 z) B I J z rfl) M
theorem Yw(i:Nat){st:e7}{f:CO (List D)}(h:PS X st (K2 (tO X.K f)<|kG i)):ih X st (j8 i<|wA f):=kA h λD s H I=>by obtain⟨E0,E,g,n,R,z,B,J⟩:=I;obtain⟨d,b,B⟩:=zo B;obtain⟨l,M,b⟩:=zo b;subst B b;exact⟨g,n,l,z.rc,M,λa p o j x m e O r=>J _ _ _<|(z.step<|x.show m e O z.rc.sub).o1 (XG (el.of zE)<|r.mono<|zX e _)⟩
theorem Be(i:Nat)(h:SX X sc N L k)(c:xN sc N L i y=b9)
 (z:X.calm=b9) (ok:n3 X scope fr) (B : ∀i∈T.idx,i<own.length) (hi:sR X tg iter src) (I : ∀fp C t,PG (z6 X scope (own++fr.map (·.1)) fp C t) tg<|n1 X.K T)
 (J : ∀fp C t,PV (z6 X scope (own++fr.map (·.1)) fp C t) elt f) (M : ∀x,oe iter X.env x=pure x:=by intro _;rfl) :
 PS X (.Assign [.Name y py] (.ListComp elt [⟨tg,iter,[],0⟩] scope cpos) spos) (K2 (tO X.K<|zN src T own.length (fr.map (·.2)) jq f)<|kG i):=by
 obtain⟨a,b,O⟩:=h.loc c;exact Yz h.xb a b O z ok B hi I J M
theorem XU(i:Nat)(h:SX X sc N L k)(c:QI sc N i x=b9)(hi:PV X b g)(Y:PV X e f)
 (S : ∀v,n6 (.Subscript (.Name x np) b p) X.env v=(do
   let B <- s8 [v] (d1 (.Name x np) X.env);let J <- s8 [v,B] (d1 b X.env)
   x4 p
   s8 [v,B,J] (Az B J v)
   release [v,B,J] []):=by intro _;rfl)
 (Z:y3 [.Subscript (.Name x np) b p] e pos.line X.env=pure cq:=by rfl) (hw:AE [.Subscript (.Name x np) b p] e X.env=pure cp:=by rfl)
 (t:(o9 [.Subscript (.Name x np) b p] X.env).map (·.2)=[n6 (.Subscript (.Name x np) b p) X.env]:=by rfl) :
 ih X (.Assign [.Subscript (.Name x np) b p] e pos) (Ve i g f):=
 kA (XY Y (aY (h.var c) hi Yj S) Z hw t) λD σ H P=>by obtain⟨E0,E,o,n,fl,R,z,s⟩:=P;obtain⟨d,C,z⟩:=zb z;obtain⟨A,l,z⟩:=zb z;obtain⟨Q,M,z⟩:=zb z;obtain⟨y,F,M⟩:=zb M;obtain⟨j,G,z⟩:=zo z;subst z;have l:=kZ l;refine⟨o,n,d,R.rc,C,λv T m x r=>?_⟩;have O:=R.step x;obtain⟨a,xs,t,h2,K,U⟩:=O.rc.own i A l;refine⟨_,t,m,n,y,O.rc,F,λv2 H2 u I W=>?_⟩;rw[qj M]at W;have w:=O.step I;refine⟨a,xs,Q,j,rfl,jg W,I.s1 _ _ K,by rw[U.length];exact Kn G,?_⟩;exact s _ _ u<|w.rewrite (xs:=xs) l t<|(U.mono I.s0).set j (r.mono I.s0)
theorem Yv(I:PG X tg (n1 X.K T))(J:PV X e f)(M:y3 [tg] e pos.line X.env=pure cq:=by rfl)(C:AE [tg] e X.env=pure cp:=by rfl)
 (t:(o9 [tg] X.env).map (·.2)=[n6 tg X.env]:=by rfl):ih X (.Assign [tg] e pos) (au T f):=
 kA (XY J I M C t) λD m H O=>by obtain⟨E0,E,g,j,Y,B,z,R⟩:=O;obtain⟨d,h,z⟩:=zb z;obtain⟨l,i,z⟩:=zo z;subst z;refine⟨g,j,d,B.rc,h,λv b a x r=>?_⟩;exact yU x.sub r i λU _ W=>R U b a<|W E0 E<|B.step x
end
structure e9(P:fy)(w:eW)(K:mD)(mg:GJ)(base:d6)(k:Nat)(x:Str)(n:Nat)(F:List D->Option Res):Prop where
 ex : ∃(f:c8) (fd:l8) (ps:List Str),ps.length=n/\l7 P w K mg base m5 k f fd ps (l9 K ps.length F)/\mg x=b8 (.ref f)/\pP K (.ref f)=b9/\Binds K fd ps []
structure fx(K:mD)(mg:GJ)(x:Str)(st:e7)(ps:List Str):Prop where
 ex : ∃(f:c8) (fd:l8),L2.r9 K x x st f fd/\(∀us:List di,us.length=ps.length->bindArgs fd ⟨us,[]⟩=pure (ps.zip us))/\mg x=b8 (.ref f)
noncomputable def ra(X:Cx)(t:List dV)(n:Nat)(g:CO (List D)):Prop:=o7 X t g/\∀b a,g b=b8 a->a.length=n
section
variable{X:Cx}{sc:ep}{N L:List Str}{k:Nat}{e:dV}{es:List dV}{f:CO D}{g:CO (List D)}{n:Nat}{pos p:d9}{x:Str}
theorem zl:ra X [] 0 zB:=⟨Wv,λb a h=>by cases h;rfl⟩
theorem za(t:PV X e f)(z:ra X es n g)(B:eg (e::es) X.env=(cq,d1 e X.env)::eg es X.env:=by rfl):ra X (e::es) (n+1) (zc f g):=
 ⟨YF t z.1 B,λb d h=>by obtain⟨y,i,h⟩:=zb h;obtain⟨r,a,h⟩:=zo h;subst h;rw[ot,z.2 b r a]⟩
variable{j:Nat}{F:List D->Option Res}
theorem fv(z:e9 X.prog X.w X.K X.mg X.base j x n F)(B:j<=k)(h:SX X sc N L k)(c:xE sc x=b9)(C:ra X (e::es) n g)
 (I:eg (e::es) X.env=(cq,d1 e X.env)::eg es X.env:=by rfl) (J:(i5 pos<|starEach es X.env).any (·.1)=cq:=by rfl):PV X (.Call (.Name x p) (e::es) [] pos) (zu F g):=by
 obtain⟨d,f,i,b,G,a,M,O⟩:=z.ex;subst b;exact Wi (A0:=[]) G C.1 C.2 λ{t} R=>X8 G (h.room.mono B) (h.gl c).1 a M O .nil bu R (h.gl c).2.2 I J
theorem fz(z:e9 X.prog X.w X.K X.mg X.base j x n F)(B:j<=k)(h:SX X sc N L k)(c:xE sc x=b9)(C:ra X (e::es) n g)
 (I:eg (e::es) X.env=(cq,d1 e X.env)::eg es X.env:=by rfl) (J:(i5 pos<|starEach es X.env).any (·.1)=cq:=by rfl):PO X (.Call (.Name x p) (e::es) [] pos) (yz F g):=by
 obtain⟨d,f,i,b,G,a,M,O⟩:=z.ex;subst b;exact Wq G C.1 C.2 λ{t} R=>X8 G (h.room.mono B) (h.gl c).1 a M O .nil bu R (h.gl c).2.2 I J
end
section
variable{P:fy}{w:eW}{K:mD}{mg:GJ}{base:d6}
noncomputable def YY(N t:List Str)(st:e7):Bool:=
 decide ((zL st).kind = .function) && decide ((zL st).isCoroutine=cq) && decide ((zL st).isGenerator=cq) && decide N.Nodup && decide (N.take t.length=t) &&
 t.all (λx=>decide ((zL st).names.lookup x=b8 .local) || decide ((zL st).names.lookup x=b8 .cell)) && (zL st).names.all (λy=> !(y.2==mY))
theorem JF{N t:List Str}{st:e7}(h:YY N t st=b9):tU N t (zL st):=by unfold YY at h;simp only[mR,decide_eq_true_eq,nO,nK,rm]at h;obtain⟨⟨⟨⟨⟨⟨a,b⟩,z⟩,B⟩,I⟩,J⟩,M⟩:=h;exact⟨a,b,z,B,I,J,λy O e=>by have:=M y O;rw[e]at this;exact absurd this ⋯⟩
theorem bt{X:Cx}(z:X.xe=λ_ _=>False):Ah (d4 X.prog X.w) X.A X.env X.xe:=by rw[z];exact PassesOwn.never
theorem qY{x:Str}{st:e7}{N t:List Str}{k:Nat}{F:CO Fl}(A:fx K mg x st t)(C:YY N t st=b9)
 (B : ∀X:Cx,X.prog=P->X.w=w->X.K=K->X.mg=mg->X.base=base->SX X (zL st) N N k->X.xe=(λ_ _=>False)->KZ X (qL st) F) :
 e9 P w K mg base (k+1) x t.length (jh N.length F):=by
 obtain⟨f,d,z,I,e⟩:=A.ex;have S:=JF C;refine⟨f,d,t,rfl,bY z S λb A a s H E J=>?_,e,z.kp,.all I⟩;exact B _ rfl rfl rfl rfl rfl ⟨rfl,rfl,S.nd,rfl,J,λ_ _=> .inl rfl⟩ rfl
theorem ib{h:d6}{x:Str}{st:e7}{L:List Str}{f:c8}{S:di}{W H:Option c8}{J:Array (Option di)}{kV C I t ct:di}(z:K.In h)(G:h.Ns iv mg)
 (a:pL K iv x=b8 (b8 (.ref f))) (l:K.lookup f=b8 ⟨S,W,.func<|pA x x (yR st) (qL st) (zL st) .none kV C I H t ct,J⟩)
 (c:rF K t x=b9) (O:pP K (.ref f)=b9)
 (b : ∀(kV C I:di) (H:Option c8) (t ct:di) (M:List di),M.length=L.length->bindArgs (pA x x (yR st) (qL st) (zL st) .none kV C I H t ct) ⟨M,[]⟩=pure (L.zip M)):fx K mg x st L:=
 ⟨f,_,bX l c O,b kV C I H t ct,rf z G a⟩
theorem fQ{x:Str}{st:e7}{f:c8}{C:l8}{N t:List Str}{k:Nat}{F:CO Fl}(z:L2.r9 K x x st f C)(G:YY N t st=b9)
 (B : ∀X:Cx,X.prog=P->X.w=w->X.K=K->X.mg=mg->X.base=base->SX X (zL st) N N k->X.xe=(λ_ _=>False)->KZ X (qL st) F) :
 l7 P w K mg base m5 (k+1) f C t (l9 K t.length<|jh N.length F):=by
 have S:=JF G;exact bY z S λb A a s H E I=>B _ rfl rfl rfl rfl rfl ⟨rfl,rfl,S.nd,rfl,I,λ_ _=> .inl rfl⟩ rfl
theorem dz{F:List D->Option Res}{H:Hp}{a:c8}{t:List Int}(z:el K H a (t.map V.int))(B:F [.lst (t.map D.int)]=b8 (.val<|.bl b9)) :
 l9 K 1 F [.ref a] H (λv _=>v = .bl b9) λ_ _ _=>False:=by
 refine⟨H,[.lst (t.map D.int)],.val<|.bl b9,ei.refl _,dy.cons (XG z ?_) dy.nil,rfl,B,λv d b _ r=>r⟩;clear B z
 induction t with
 | nil=>exact dy.nil
 | cons n t I=>exact dy.cons rfl I
end
end DL
namespace DL
open PySem PySem.Spec PyProof.Rows L2
open AutoSeq1 (wpAny_loadPart')
theorem yb:fillsNumberSlot (.type "tuple") "mul" = pure cq:=
 PySem.fillsNumberSlot_seq (id:="tuple.__mul__") (r:=b8 (.builtin "tuple.__rmul__")) pI.lookup ⋯ F.slot_tuple_rmul.lookup ⋯
theorem wW:seqRepeat? (.type "tuple")=pure (b8 (.builtin "tuple.__mul__")):=by unfold seqRepeat?;rw[PySem.seqSlot_of (T:="tuple") (name:="__mul__") (id:="tuple.__mul__") pI.lookup ⋯,PySem.seqSlot_of (T:="tuple") (name:="__rmul__") (id:="tuple.__rmul__") F.slot_tuple_rmul.lookup ⋯];rfl
theorem vb(a:Int)(t:Tok)(l:c8)(z:Array di)(n:Nat)(B:Option c8)(C:Array (Option di)) :
 uq (tr.«int.__rmul__» ⟨[.int a t,.ref l],[]⟩) (λ_ R s=>s.heap.get? l=b8 {cls:= .type "tuple",dict:=B,data:= .seq z n,slots:=C}/\R (.ok (.ret Value.notImplemented)) s):=
 .of_wp λb w A R s h=>by obtain⟨I,g,d,J,os⟩:=s;obtain⟨M,h⟩:=h;wp_walk;exact⟨_,rfl,h⟩
theorem vG(a:Int)(t:Tok)(l:c8)(z:Array di)(n:Nat)(I:Option c8)(H:Array (Option di))(C : ¬(decide (a < -(2 ^ 63)) || decide (a>=2 ^ 63))=b9)(G : ¬(z.isEmpty || a==1)=b9)
 (J : ¬(decide (a<=0) || z.isEmpty)=b9) (M : ¬((z.size:Int)*a>(2 ^ 63 - 1)/8)) (O : ¬Builtin.Tuple.tupleTooMany ((z.size:Int)*a)=b9) (U:((mI a.toNat z).foldl (· ++ ·) #[]).size<=ej) :
 uq (tr.«tuple.__mul__» ⟨[.ref l,.int a t],[]⟩) (λ_ R s=>s.heap.get? l=b8 {cls:= .type "tuple",dict:=I,data:= .seq z n,slots:=H}/\
  R (.ok (.ret (.ref s.heap.objs.size))) {s with heap:=s.heap.push {cls:= .type "tuple",data:= .seq ((mI a.toNat z).foldl (· ++ ·) #[])}}):=
 .of_wp λb w A R s h=>by
  obtain⟨W,g,d,Y,os⟩:=s;obtain⟨B,h⟩:=h
  wp_walk using oS B
  rw[MQ C];refine mE<|rL (s:=⟨W,g,d,Y,os⟩) ⟨_,B,rfl,n,rfl⟩ ?_;dsimp only;rw[MQ G,MQ J,MQ M,MQ O];refine mE (m:=nP _)<|nT ?_ U;exact mL ⟨_,rfl,h⟩
theorem y8(a:Int)(t:Tok)(l:c8)(z:Array di)(n:Nat)(I:Option c8)(H:Array (Option di))(C : ¬(decide (a < -(2 ^ 63)) || decide (a>=2 ^ 63))=b9)(G : ¬(z.isEmpty || a==1)=b9)
 (J:(decide (a<=0) || z.isEmpty)=b9) :
 uq (tr.«tuple.__mul__» ⟨[.ref l,.int a t],[]⟩) (λ_ R s=>s.heap.get? l=b8 {cls:= .type "tuple",dict:=I,data:= .seq z n,slots:=H}/\
  R (.ok (.ret (.ref s.heap.objs.size))) {s with heap:=s.heap.push {cls:= .type "tuple",data:= .seq #[]}}):=
 .of_wp λb w A R s h=>by
  obtain⟨M,g,d,O,os⟩:=s;obtain⟨B,h⟩:=h
  wp_walk using oS B
  rw[MQ C];refine mE<|rL (s:=⟨M,g,d,O,os⟩) ⟨_,B,rfl,n,rfl⟩ ?_;dsimp only;rw[MQ G,GY J];refine mE (m:=nP _)<|nT ?_ (oO _);exact mL ⟨_,rfl,h⟩
theorem y7(a:Int)(t:Tok)(l:c8)(B:Array di)(n:Nat)(I:Option c8)(H:Array (Option di))(C : ¬(decide (a < -(2 ^ 63)) || decide (a>=2 ^ 63))=b9)(G:(B.isEmpty || a==1)=b9) :
 uq (tr.«tuple.__mul__» ⟨[.ref l,.int a t],[]⟩) (λ_ R s=>s.heap.get? l=b8 {cls:= .type "tuple",dict:=I,data:= .seq B n,slots:=H}/\R (.ok (.ret (.ref l))) s):=
 .of_wp λb w A R s h=>by
  obtain⟨J,g,d,M,os⟩:=s;obtain⟨z,h⟩:=h
  wp_walk using oS z
  rw[MQ C];refine mE (rL (s:=⟨J,g,d,M,os⟩) ⟨_,z,rfl,n,rfl⟩ ?_);dsimp only;rw[GY G];refine mE (m:=oE _) ?_;unfold oE;refine mE (sO (T:="tuple") ⟨_,z,rfl⟩ (mL ?_));rw[GY ⋯];exact mE (sM (mL ⟨_,rfl,h⟩))
section
variable{X:Cx}
noncomputable def aE(K:mD):R2:=λx y H Q=>∃l k a,x = .ref l/\y = .int k/\eu K H l a/\ -(2 ^ 62)<=k/\k<2 ^ 62/\a.length*k.toNat<=ej/\(a=[]\/k=1->Q (.ref l) H)/\
 ∀p,H p=cp->Q (.ref p) (upd H p<|.tup (mI k.toNat a).flatten)
theorem Ww:fh X (nf .Mult) (aE X.K):=by
 intro p s σ H x y v u Q I rx ry h;obtain⟨l,k,A,rfl,rfl,P,h1,h2,Y,q1,w⟩:=h;cases rx;obtain⟨t,rfl⟩:=ry;obtain⟨z,r,S,z1⟩:=I.tuple P;obtain⟨⟨N,M,b,a⟩,B,f,n,i⟩:=id S;simp only at f i;subst f i;have C:=r.length;have O : ¬(decide (k < -(2 ^ 63)) || decide (k>=2 ^ 63))=b9:=by simp;omega
 refine wpAny_binaryOp_repeat_ref (T:="tuple") (U:="int") ⋯ ⟨_,B,rfl⟩ (λs'=>typeIs_int s' k t) yb F.fills_int_mul F.slot_int_rmul wW F.slot_int_index.lookup
  (px F.slot_int_rmul (typeIs_int s k t) F.entry_int_rmul (F.args_int_rmul_2 _ _) (vb k t l z.toArray n M a) ⟨B,rfl,⟨_,B,rfl⟩,?_⟩)
 have d : ∀m:Nat,List.foldl (λx1 R=>x1++R) #[] (mI m z.toArray)=(mI m z).flatten.toArray:=λm=>by have:=Zo z m [];rw[List.nil_append]at this;exact this
 by_cases g2:(z.toArray.isEmpty || k==1)=b9
 ·refine px pI ⟨_,B,rfl⟩ sJ (sD _ _) (y7 k t l z.toArray n M a O g2) ⟨B,⟨.ref l,H,I,rfl,q1 ?_⟩⟩
  rw[nK]at g2;rcases g2 with g | g
  ·left
   have:z=[]:=by simpa using g
   exact(r.uF).mp this
  ·right;simpa using g
 ·have W:=g2
  simp only[nK,not_or]at W;have E:z ≠ []:=by intro e;exact W.1 (by rw[e];rfl)
  have as:0<z.length:=List.length_pos_iff.mpr E;by_cases J:(decide (k<=0) || z.toArray.isEmpty)=b9
  ·have j:k.toNat=0:=by
    rw[nK]at J;rcases J with g | g
    ·have:=of_decide_eq_true g;omega
    ·exact absurd g W.1
   refine px pI ⟨_,B,rfl⟩ sJ (sD _ _) (y8 k t l z.toArray n M a O g2 J) ⟨B,?_⟩;refine⟨.ref s.heap.objs.size,_,I.laid (t':=s.toks) (o:= .tup (mI k.toNat A).flatten) (λc Z q=>mF _ q) (mN _) ?_,rfl,w _<|I.d7.fresh<|mN _⟩;rw[j];exact⟨oO _,[],.nil,n5.new _ _⟩
  ·have j : ¬k<=0:=by intro g;exact J (by rw[nK];exact .inl<|decide_eq_true g)
   have G:z.length*k.toNat<=ej:=by rw[<- C];exact Y
   have aw:((z.toArray.size:Nat):Int)*k<=(ej:Int):=by
    rw[mT];have e:((z.length*k.toNat:Nat):Int)=(z.length:Int)*k:=by rw[Int.natCast_mul,Int.toNat_of_nonneg ⋯]
    omega
   have ax:ej=16777216:=sizeLine_eq;have L:(List.foldl (λx1 R=>x1++R) #[] (mI k.toNat z.toArray)).size<=ej:=by rw[d,mT,Ki,Nat.mul_comm];exact G
   refine px pI ⟨_,B,rfl⟩ sJ (sD _ _) (vG k t l z.toArray n M a O g2 J ⋯ (by unfold Builtin.Tuple.tupleTooMany;simp only[decide_eq_true_eq];omega) L) ⟨B,?_⟩;rw[d];refine⟨.ref s.heap.objs.size,_,I.laid (t':=s.toks) (o:= .tup (mI k.toNat A).flatten) (λc Z q=>mF _ q) (mN _) ?_,rfl,w _<|I.d7.fresh<|mN _⟩;exact⟨by rw[Ki,Nat.mul_comm];exact Y,_,r.rep k.toNat,n5.new _ _⟩
theorem V7{K:mD}:h3 K (λx y H Q=>rI ts (λi j=> .int (i*j)) x y H Q\/aE K x y H Q) yS:=λl H x y m M d Q s B I z q=>by
 cases m<;>cases M<;>simp[yS]at z
 ·obtain⟨n,g⟩:=z
  subst g;exact .inl ⟨_,_,jg B,jg I,Y5 n,q _ H l (Ext.refl s) rfl⟩
 ·rename_i f j
  obtain⟨⟨O,R⟩,rfl⟩:=z;obtain⟨a,o,rfl,h,b⟩:=ku B;obtain⟨U,W⟩:=Ku R;refine .inr ⟨a,j,o,rfl,jg I,i6 s h,U,W,kD (by rw[b.length];exact O),λe=>?_,λp J=>?_⟩
  ·refine q _ H l (Ext.refl s) ?_
   rcases e with e | e
   ·have g:f=[]:=by
     have:=b.length;rw[e]at this;exact ng this.symm
    subst g;rw[show(mI j.toNat ([]:List D)).flatten=[]by simp];exact j9 h b
   ·subst e
    rw[show(mI (1:Int).toNat f).flatten=f by simp];exact j9 h b
  ·exact q _ _ _ (Ext.alloc s J _)<|j9 (eu.of zE)<|(JI b _).mono (zX (ji s J) _)
theorem qQ(t:PV X a fa)(z:PV X b fb):PV X (.BinOp a .Mult b pos) (zv yS fa fb):=vq (Bd.or Ww) V7 t z
end
end DL
namespace L2
open PySem PySem.Spec PyProof.Rows
open AutoSeq1 (wpAny_loadPart')
theorem Zj(J:IsEnum s.heap z it n old)(h:Q (.ref z) s):wpAny (d4 prog w) A (uH (.ref z)) Q E s:=by have B:s.TypeIs (.ref z) "enumerate":=⟨_,J,rfl⟩;refine wpAny_pyIter_slot B F.slot_enumerate_iter (oI F.slot_enumerate_iter B F.entry_enumerate_iter ?_ (F.args_enumerate_iter_1 _));have I:wpAny (d4 prog w) A.in1 (ret (.ref z)) (λI a=>∃v,I = .done (.ret v)/\∃T m,a.TypeIs v T/\AO (.type T) "__next__" = pure (b8 m)/\Q v a) E s:=mL ⟨_,rfl,"enumerate",_,B,F.slot_enumerate_next.lookup,h⟩;exact I
end L2
namespace DL
open PySem PySem.Spec PyProof.Rows L2
theorem Zl{K:mD}{H:Hp} : ∀{t:List D} {xs:List V} {l:List Int},dy K H t xs->Kq t=b8 l->xs=l.map V.int
 | [],xs,l,r,e=>by cases e;rw[show xs=[]from r];rfl
 | d::t,xs,l,r,e=>by
  obtain⟨x,I,rfl,z,B⟩:=(show ∃x r,xs=x::r/\Rep K H d x/\dy K H t r from r);cases d with
  | int i=>
   obtain⟨J,a,rfl⟩:=zo (show(Kq t).map (λl=>i::l)=b8 l from e);rw[Zl B a,show x = .int i from z];rfl
  | _=>cases e
theorem Zp : ∀l:List Int,(l.map V.int).all vc=b9
 | []=>rfl
 | i::l=>by simp only[nj,sg,Zp l,Bool.and_true];rfl
theorem Ks(i:Int) : ∀l:List Int,rp (.int i) (l.map V.int)=decide (i∈l)
 | []=>rfl
 | j::l=>by
  have z:=Ks i l;unfold rp at z ⊢;rw[nj,rB,z];have e:pw (.int j) (.int i)=(j==i):=rfl;rw[e];by_cases h:i=j
  ·subst h
   rw[beq_self_eq_true,Bool.true_or];exact(decide_eq_true mM).symm
  ·rw[beq_false_of_ne (nW h),Bool.false_or]
   exact decide_eq_decide.mpr ⟨λq=>mQ _ q,λq=>(mJ.mp q).resolve_left h⟩
section
variable{X:Cx}{sc:ep}{N L:List Str}{k:Nat}{a b c:dV}{pos p:d9}{f fa fb fc:CO D}
theorem Yr(Y:fh X (ij op) r)(a0:fh X (ij uc) r')(s1:h3 X.K r F)(s2:h3 X.K r' G)(S:PV X a fa)(Z:PV X b fb)(hc:PV X c fc)
 (hm:u6 [op,uc] [b,c]=cq:=by with_unfolding_all rfl):PV X (.Compare a [op,uc] [b,c] pos) (yy F G fa fb fc):=
 z9 (YD Y a0 S Z hc hm) λσ H Q C=>by
  obtain⟨f,e,d,rc,B,q⟩:=C;obtain⟨x,p,B⟩:=zb B;obtain⟨y,s,B⟩:=zb B;obtain⟨k,t,B⟩:=zb B;obtain⟨M,u,O⟩:=zb t;refine⟨f,e,x,rc,p,λT H1 l x1 E=>⟨l,e,y,rc.ext x1,s,λR g m I U=>s1 m g T R x y M _ I.sub (E.mono I.s0) U u λv3 h W x3 L=>?_⟩⟩;cases M with
  | bl k'=>
   cases O;refine⟨k,show v3 = .bl k from L,?_⟩;cases k with
   | true=>
    rw[GY rfl];rw[GY rfl]at B;obtain⟨z,w,A⟩:=zb B;exact⟨W,e,z,((rc.ext x1).ext I).ext x3,w,λv4 i n J N=>s2 n i R v4 y z d _ J.sub ((U.mono x3.s0).mono J.s0) N A λv5 j o x5 P=>q v5 j o (((x1.trans I).trans x3).trans (J.trans x5)) P⟩
   | false=>
    rw[MQ ⋯];rw[MQ ⋯]at B;cases B;exact q _ h W ((x1.trans I).trans x3) rfl
  | _=>cases O
theorem aK(C:PV X a fa){g:CO (Sk×List D)}(J:PQ X b g)(G:pa .In b=cq:=by with_unfolding_all rfl):PV X (.Compare a [.In] [b] pos) (gP fa g):=
 z9 (vP Zd C J G) λE H Q M=>by
  obtain⟨m,j,d,rc,z,q⟩:=M;obtain⟨x,o,z⟩:=zb z;obtain⟨⟨h,n⟩,s,z⟩:=zb z;obtain⟨i,O,z⟩:=zb z;obtain⟨l,R,rfl⟩:=zo z;refine⟨m,j,x,rc,o,λI w U x1 B=>⟨U,j,h,n,rc.ext x1,s,λp A e W Y f y r=>?_⟩⟩;rw[qj O]at B;have t:=Zl r R;subst t;have u:el X.K e p (l.map V.int)\/eu X.K e p (l.map V.int):=by
   cases h with
   | L=>exact .inl f
   | T=>exact .inr f
  refine⟨p,_,rfl,u,by rw[show I = .int i from B];rfl,Zp l,?_⟩;rw[show I = .int i from B,Ks];exact q _ e W (x1.trans Y) rfl
end
theorem xM : ∀{l:List Int} {C:List di},d5 (l.map V.int) C->∀i,i<C.toArray.size->∃z u,C.toArray[i]? = b8 (.int z u)/\l[i]? = b8 z
 | [],C,r,i,hi=>by cases r;exact absurd hi<|Nat.not_lt_zero _
 | z::l,u::C,.cons r t,i,hi=>by
  cases i with
  | zero=>
   obtain⟨B,rfl⟩:=r;exact⟨z,B,by simp,by simp⟩
  | succ i=>
   obtain⟨I,J,a,b⟩:=xM t i (by simpa using hi);exact⟨I,J,by simpa using a,by simpa using b⟩
section
variable{K:mD}{E0 E H0 H:Hp}{σ:St}{γ:Ctx}
open Classical in
end
end DL
namespace L2
open PySem PySem.Spec PyProof.Rows
noncomputable def fg(K:mD):V->List V->Hp->VK->Prop:=λx d H Q=>∃sep p b,x = .str sep/\d=[.ref p]/\el K H p (b.map V.str)/\Builtin.Str.tooLong (b.toArray.foldl (λa p=>a+p.length+sep.length) 0)=cq/\Q (.str<|oH sep b) H
theorem wD : ∀{G:List Str} {C:List di},d5 (G.map V.str) C->∃l:List (Str×Tok),strValues l=C/\l.map (·.1)=G
 | [],C,r=>by cases r;exact⟨[],rfl,rfl⟩
 | z::G,u::C,.cons r t=>by obtain⟨B,rfl⟩:=r;obtain⟨l,rfl,h⟩:=wD t;exact⟨(z,B)::l,rfl,by simp[h]⟩
theorem WB{X:Cx}:ur X "str.join" (fg X.K):=by intro a s i H x f v d Q I B J h;obtain⟨sep,p,g,rfl,rfl,M,z,q⟩:=h;obtain⟨t,rfl⟩:=B;obtain⟨R,rfl,rw⟩:=kr J;cases rw;obtain⟨U,r,O,W⟩:=I.list M;obtain⟨l,rfl,e⟩:=wD r;subst e;refine px F.slot_str_join (rD _ _ _) F.entry_str_join (F.args_str_join_2 _ _) (meets_str_join_list sep t p l z) ⟨O.isList,post_join l ⟨joinFit_length z,λt' k=>?_⟩⟩;refine⟨.str (oH sep (l.map (·.1))),H,(I.kept (h':=s.heap) (t':=k) λb o e=>e),⟨t',?_⟩,q⟩;show rE (Builtin.Str.glued sep (l.map (·.1))) t'=_;rw[StrLaws.glued_eq_join]
end L2
namespace DL
open PySem PySem.Spec PyProof.Rows L2
theorem xQ{K:mD}{H:Hp} : ∀{t:List D} {xs:List V} {l:List Str},dy K H t xs->yo t=b8 l->xs=l.map V.str
 | [],xs,l,r,e=>by cases e;rw[show xs=[]from r];rfl
 | d::t,xs,l,r,e=>by
  obtain⟨x,I,rfl,z,B⟩:=(show ∃x r,xs=x::r/\Rep K H d x/\dy K H t r from r);cases d with
  | str i=>
   obtain⟨J,a,rfl⟩:=zo (show(yo t).map (λl=>i::l)=b8 l from e);rw[xQ B a,show x = .str i from z];rfl
  | _=>cases e
section
variable{X:Cx}{sc:ep}{N L:List Str}{k:Nat}{o e a b:dV}{apos cpos pos p:d9}{f g:CO D}{q:CO (Sk×List D)}
theorem xh(h:zm x=b9):x.length<=1000:=of_decide_eq_true h
theorem xf(h:zm x=b9):x.length<=ej:=nc (xh h) ⋯
theorem xD(M:PV X o f)(O:PQ X e q)(R:uw o "join" X.env (d1 o X.env)=d1 o X.env:=by rfl)
 (U:((i5 cpos<|starEach [e] X.env).all (λx=> !x.1) && (ux cpos<|keywordEach [] X.env).all (λx=>x.1.isSome) && decide ([e].length+([]:List o6).length+(if ([]:List o6).isEmpty then 0 else 1)<30))=b9:=by rfl)
 (W:(apos.endLine==cpos.line)=b9:=by rfl) (J:eg [e] X.env=[(cq,d1 e X.env)]:=by rfl):PV X (.Call (.Attribute o "join" apos) [e] [] cpos) (xp f q):=
 z9 (YE rq PySem.F.slot_str_join PySem.F.type_str_join WB M (jl O j0 J) R U W J rfl) λσ H Q Y=>by
  obtain⟨h,g,d,rc,z,G⟩:=Y;obtain⟨m,p,z⟩:=zb z;obtain⟨⟨E,n⟩,s,z⟩:=zb z;cases m with
  | str sep=>
   cases E with
   | L=>
    obtain⟨l,t,z⟩:=zb z;by_cases I:l.length<=lim/\l.all zm=b9/\zm sep=b9
    ·rw[GY I]at z;cases z
     refine⟨h,g,_,rc,p,λv P b x r=>?_⟩;rw[show v = .str sep from r];refine⟨rfl,b,g,.L,n,rc.ext x,s,λa xs i j N w S K=>?_⟩;have u:=xQ K t;subst u;refine⟨sep,a,l,rfl,rfl,w,StrLaws.joinFits (B:=1000) (λy C=>xh<|nO.mp I.2.1 y C) ?_,G _ i j (x.trans N) rfl⟩;have Z:=I.1;have:lim=2500:=rfl;have A:=xh I.2.2;have:l.length*sep.length<=2500*1000:=Nat.mul_le_mul ⋯ A;omega
    ·rw[MQ I]at z;cases z
   | T=>cases z
  | _=>cases z
theorem xW(C:PV X a f)(M:PV X b g)(O:Jw b:=by intro _ _;rfl):PV X (.Subscript a b pos) (qg f g):=
 z9 (bp bT C M O) λA H Q R=>by
  obtain⟨m,l,d,rc,B,q⟩:=R;obtain⟨U,p,B⟩:=zb B;obtain⟨i,h,B⟩:=zb B;obtain⟨W,Y,h⟩:=zb h;cases U with
  | str z=>
   by_cases I:zm z=b9
   ·have B:(if zm z=b9 then (g5 z.cps.toList.length i).bind λk=>z.cps.toList[k]?.map λc=>D.str ⟨#[c]⟩else cp)=b8 d:=B
    rw[GY I]at B;obtain⟨j,s,B⟩:=zb B;obtain⟨c,t,rfl⟩:=zo B;refine⟨m,l,_,rc,p,λv w e x r=>⟨e,l,W,rc.ext x,Y,λy n o u J=>?_⟩⟩;rw[qj h]at J;refine⟨z,i,c,r,jg J,xf I,?_,q _ n o (x.trans u) rfl⟩;unfold rb;rw[Kn s];exact t
   ·have B:(if zm z=b9 then (g5 z.cps.toList.length i).bind λk=>z.cps.toList[k]?.map λc=>D.str ⟨#[c]⟩else cp)=b8 d:=B
    rw[MQ I]at B;cases B
  | _=>cases B
theorem vK(h:SX X sc N L k)(c:xE sc "len" = b9)(z:X.mg "len" = cp)(t:PV X e f)(J:eg [e] X.env=[(cq,d1 e X.env)]:=by rfl):PV X (.Call (.Name "len" p) [e] [] pos) (k6 f):=
 z9 (yi Zt (h.gl c).1 z PySem.boot_len (jl t j0 J) ⋯ ⋯ J rfl) λl H Q M=>by
  obtain⟨g,j,d,rc,B,q⟩:=M;obtain⟨O,i,B⟩:=zb B;cases O with
  | str z=>
   by_cases I:zm z=b9
   ·have B:(if zm z=b9 then b8 (D.int z.length)else cp)=b8 d:=B
    rw[GY I]at B;cases B;refine⟨g,j,_,rc,i,λv b a x r=>⟨z,by rw[show v = .str z from r],xf I,q _ b a x rfl⟩⟩
   ·have B:(if zm z=b9 then b8 (D.int z.length)else cp)=b8 d:=B
    rw[MQ I]at B;cases B
  | _=>cases B
theorem wY{t:d9}(h:SX X sc N L k)(c:xE sc "isinstance" = b9)(z:X.mg "isinstance" = cp)(B:xE sc "str" = b9)(I:X.mg "str" = cp)(C:PV X a f)
 (J:eg [a,.Name "str" t] X.env=[(cq,d1 a X.env),(cq,d1 (.Name "str" t) X.env)]:=by rfl):PV X (.Call (.Name "isinstance" p) [a,.Name "str" t] [] pos) (hI .str f):=Yq .str h c z B I ⋯ C J
end
theorem J0{z B x:Str}{I J v:V}(M:z≠B)(h:(x=z/\v=I)\/(x=B/\v=J)):QJ (xw [] [((oo z:Key),I),(oo B,J)]) (oo x)=b8 v:=by
 have O : ¬((oo z:Key)=oo B):=λe=>M<|oo.inj e;have R : ¬((oo B:Key)=oo z):=λe=>M (oo.inj e).symm;rcases h with⟨rfl,rfl⟩ | ⟨rfl,rfl⟩
 ·simp[xw,K3,QJ,O,R]
 ·simp[xw,K3,QJ,O,R]
section
variable{X:Cx}{sc:ep}{N L:List Str}{k:Nat}{st:e7}{xu:List e7}{G G':CO Xn}{F:CO Fl}
theorem SX.l6(h:SX X sc N L k)(E:GQ):SX (X.l6 E) sc N L k:=⟨h.sY,h.eN,h.nd,h.calm,h.room,h.fn⟩
end
section ap
variable(γ:Ctx)
@[simp] def Y7:=@zO.eq_1
@[simp] def QA:=@wA.eq_1
@[simp] def xI:=@zV.eq_1
@[simp] def Zz:=@zf.eq_1
@[simp] def KP:=@zk.eq_1
@[simp] theorem VI(d):zh d γ=b8 d:=rfl
@[simp] def QC:=@zv.eq_1
@[simp] def W5:=@sB.eq_1
@[simp] def gH:=@Ym.eq_1
@[simp] def cF:=@xr.eq_1
@[simp] def KR:=@zW.eq_1
@[simp] def iL:=@XF.eq_1
@[simp] def lY:=@Bg.eq_1
@[simp] def iz:=@cQ.eq_1
@[simp] def iF:=@WZ.eq_1
@[simp] theorem VH:zB γ=b8 []:=rfl
@[simp] def yV:=@zc.eq_1
@[simp] def iu:=@yZ.eq_1
@[simp] def WU:=@xT.eq_1
@[simp] def gk:=@jd.eq_1
@[simp] def vC:=@jv.eq_1
@[simp] def KQ:=@XB.eq_1
@[simp] def gi:=@lq.eq_1
@[simp] def iI:=@mn.eq_1
@[simp] def gD:=@lF.eq_1
@[simp] def Jv:=@e5.eq_1
@[simp] def k0:=@j8.eq_1
@[simp] def WT:=@yu.eq_1
@[simp] def gA:=@aA.eq_1
@[simp] def cL:=@jk.eq_1
@[simp] def KU:=@zu.eq_1
@[simp] def Y8:=@yz.eq_1
@[simp] def QB:=@zQ.eq_1
@[simp] def kj:=@zT.eq_1
@[simp] def cE:=@eS.eq_1
@[simp] def ip:=@WY.eq_1
@[simp] def KS:=@wQ.eq_1
@[simp] def qu:=@zN.eq_1
@[simp] theorem iq:jq γ=b8 b9:=rfl
@[simp] def gF:=@lG.eq_1
@[simp] def gj:=@lr.eq_1
@[simp] def cH:=@dk.eq_1
@[simp] def dO:=@Ve.eq_1
@[simp] theorem iA:yw γ=b8 cp:=rfl
@[simp] def ma:=@e4.eq_1
@[simp] def iy:=@ar.eq_1
@[simp] def iB:=@yf.eq_1
@[simp] def lZ:=@hI.eq_1
@[simp] def iC:=@mj.eq_1
@[simp] def Xh:=@zY.eq_1
@[simp] def cG:=@eT.eq_1
@[simp] def iw:=@eQ.eq_1
@[simp] def cM:=@JH.eq_1
@[simp] def iK:=@mr.eq_1
@[simp] def gw:=@XD.eq_1
@[simp] def gp:=@lx.eq_1
@[simp] def gg:=@ll.eq_1
theorem z7(F G):zG F G γ=(F γ).bind λz=>match z with
 | .next a=>G a
 | f=>b8 f:=rfl
end ap
@[simp] theorem ie(ds):jG (.tup ds)=b8 (.T,ds):=rfl
@[simp] theorem ig(ds):jG (.lst ds)=b8 (.L,ds):=rfl
@[simp] theorem xF(d):KG (b8 (.val d))=b8 d:=rfl
@[simp] theorem Jo(d):kI (b8 (.val d))=jG d:=rfl
@[simp] theorem WM(d):kI (b8 (.own d))=b8 (.L,d):=rfl
@[simp] theorem WQ(d):qt (b8 (.own d))=b8 d:=rfl
@[simp] theorem WN(d):Jp (b8 (.val d))=b8 (.ret<|.val d):=rfl
@[simp] theorem WO(d):Jp (b8 (.own d))=b8 (.ret<|.own d):=rfl
@[simp] theorem il(b):m9 (.bl b)=b8 b:=rfl
@[simp] theorem wm(b):hH (.int b)=b8 b:=rfl
@[simp] theorem cU(d):eZ (.val d)=d:=rfl
@[simp] theorem cV(d):eZ (.own d) = .lst d:=rfl
@[simp] theorem cT(d):eY (.own d)=b8 d:=rfl
@[simp] theorem dC(i j):cn (.int i) (.int j)=b8 (.int<|i - j):=rfl
@[simp] theorem Y0(i j):qf (.int i) (.int j)=b8 (.int<|i+j):=rfl
@[simp] theorem dF(i j):qR (.int i) (.int j)=if 0<j then b8 (.int<|i%j)else cp:=by show(if dH i j=b9 then _ else _)=_;simp[dH]
@[simp] theorem dG(i j):J2 (.int i) (.int j)=if 0<j/\j<1073741824 then b8 (.int<|i/j)else cp:=by
 show(if cv i j=b9 then _ else _)=_;have e:(cv i j=b9)=(0<j/\j<1073741824):=by unfold cv;rw[mR,decide_eq_true_eq,decide_eq_true_eq];apply propext;constructor<;>intro h<;>exact⟨h.1,by omega⟩
 simp only[e]
@[simp] theorem dE(i j):yS (.int i) (.int j)=if ZG i j=b9 then b8 (.int<|i*j)else cp:=rfl
@[simp] theorem dD(i j):WI (.int i) (.int j)=if cu i j=b9 then b8 (.int<|i ^ j.toNat)else cp:=rfl
@[simp] theorem fW(i j):tE (.int i) (.int j)=b8 (.bl<|decide<|i<j):=rfl
@[simp] theorem fX(i j):n9 (.int i) (.int j)=b8 (.bl<|decide<|i<=j):=rfl
@[simp] theorem fY(i j):n7 (.int i) (.int j)=b8 (.bl<|decide<|j<i):=rfl
@[simp] theorem fZ(i j):tD (.int i) (.int j)=b8 (.bl<|decide<|j<=i):=rfl
@[simp] theorem gb(i j):fk (.int i) (.int j)=b8 (.bl<|decide<|i=j):=by unfold fk;rw[GY ⟨rfl,rfl⟩];exact congrArg (λb=>b8 (D.bl b)) (by rw[rJ];simp[hF])
@[simp] theorem fV(i j):h6 (.int i) (.int j)=b8 (.bl<|!decide (i=j)):=by unfold h6;rw[GY ⟨rfl,rfl⟩];exact congrArg (λb=>b8 (D.bl !b)) (by rw[rJ];simp[hF])
@[simp] theorem ak(i is d ds γ):jB (i::is) (d::ds) γ=jB is ds (γ.set i<|.val d):=rfl
@[simp] theorem aj(ds γ):jB [] ds γ=γ:=by cases ds<;>rfl
@[simp] theorem J8(i d γ):qB (.nm i) d γ=b8 (γ.set i<|.val d):=rfl
@[simp] theorem KN(i j a b γ):qB (.tp [i,j]) (.tup [a,b]) γ=b8 ((γ.set i<|.val a).set j (.val b)):=rfl
@[simp] theorem Yk(γ:Ctx)(G:CO Fl):(b8 (Fl.next γ)).bind (λz=>match z with
 | .next γ'=>G γ'
 | f=>b8 f)=G γ:=rfl
theorem J6(i j:Int)(t : -(2 ^ 64)<j)(z:j<2 ^ 64):ZG i j=b9:=by unfold ZG;rw[nK];right;exact decide_eq_true ⋯
theorem J7(i j:Int)(t : -(2 ^ 64)<i)(z:i<2 ^ 64):ZG i j=b9:=by unfold ZG;rw[nK];left;exact decide_eq_true ⋯
theorem kY(t : -(2 ^ 62)<i)(z:i<2 ^ 62):inR i=b9:=by unfold inR;exact decide_eq_true ⋯
@[simp] theorem jN(n k:Nat):g5 n (k:Int)=if k<n then b8 k else cp:=by
 unfold g5;by_cases h:k<n
 ·rw[GY ⟨Int.natCast_nonneg k,by omega⟩,GY h];simp
 ·rw[MQ ⋯,MQ ⋯,MQ h]
theorem je:lim=2500:=rfl
@[simp] theorem dw:0<=lim:=oO _
@[simp] theorem dv:1<=lim:=by decide
@[simp] theorem du:2<=lim:=by decide
@[simp] theorem dt:3<=lim:=by decide
@[simp] theorem dr:4<=lim:=by decide
@[simp] theorem dq:5<=lim:=by decide
@[simp] theorem dn:6<=lim:=by decide
@[simp] theorem dm:7<=lim:=by decide
@[simp] theorem dj:8<=lim:=by decide
@[simp] theorem dh:0<lim:=by decide
@[simp] theorem WE(h:n<=lim):inR (n:Int)=b9:=kY ⋯ (by have:=je;omega)
@[simp] theorem Bv(n:Nat):g5 (n+1) 0=b8 0:=jN (n+1) 0 ▸ rfl
@[simp] theorem Bw(n:Nat):g5 (n+2) 1=b8 1:=by have:=jN (n+2) 1;simpa using this
@[simp] theorem Bx(n:Nat):g5 (n+3) 2=b8 2:=by have:=jN (n+3) 2;simpa using this
theorem zw(r:α->D) : ∀(l:List α),(∀x∈l,zH T k f γ [g x]=b8 [r x])->zH T k f γ (l.map g)=b8 (l.map r)
 | [],_=>rfl
 | x::l,h=>by
  have a:=h x mM;have d:=zw r l λy B=>h y<|mQ _ B;simp only[nj,zH]at a ⊢;cases e1:qB T (g x) γ with
  | none=>rw[e1]at a;simp at a
  | some z=>
   rw[e1]at a;simp only[mH]at a ⊢;cases e2:k z with
   | none=>rw[e2]at a;simp at a
   | some b=>
    rw[e2]at a;simp only[mH]at a ⊢;cases b with
    | false=>simp at a
    | true=>
     simp only[GY]at a ⊢;cases e3:f z with
     | none=>rw[e3]at a;simp at a
     | some e=>
      rw[e3]at a;simp at a;rw[d];simp[a]
theorem zx(t:qB T d γ=b8 ui)(C:k ui=b8 b9)(z:f ui=b8 e):zH T k f γ [d]=b8 [e]:=by simp[zH,t,C,z]
theorem kH(T F d t γ):kg T F (d::t) γ=(qB T d γ).bind λB=>(F B).bind λI=>match I with
 | .next z=>kg T F t z
 | .cont z=>kg T F t z
 | .brk z=>b8 (.next z)
 | .ret r=>b8 (.ret r):=rfl
theorem qc(P:Nat->Ctx->Prop) : ∀(t:List D) (k:Nat) (γ:Ctx),P k γ->(∀i d γ,t[i]? = b8 d->P (k+i) γ->∃γ',((qB T d γ).bind F=b8 (.next γ')\/(qB T d γ).bind F=b8 (.cont γ'))/\P (k+i+1) γ')->
 ∃γ',kg T F t γ=b8 (.next γ')/\P (k+t.length) γ'
 | [],k,γ,h,_=>⟨γ,rfl,h⟩
 | d::t,k,γ,h,step=>by
  obtain⟨z,e,f⟩:=step 0 d γ rfl h;obtain⟨γ',b,g⟩:=qc P t (k+1) z (by simpa using f) (λi a B j I=>by have:=step (i+1) a B (by simpa using j) (by rw[show k+(i+1)=k+1+i by omega];exact I);rw[show k+(i+1)+1=k+1+i+1 by omega]at this;exact this)
  refine⟨γ',?_,by rw[show k+(d::t).length=k+1+t.length by simp;omega];exact g⟩;rw[kH];cases eb:qB T d γ with
  | none=>rw[eb]at e;simp at e
  | some J=>
   rw[eb]at e;simp only[mH]at e ⊢;rcases e with e | e<;>rw[e]<;>exact b
def z5(n:Nat)(f:Nat->Int):List D:=(mG n).map λi=>D.int<|f i
theorem zF(n f):z5 n f=(mG n).map λi=>D.int (f i):=rfl
noncomputable def ko(h w:Nat)(f:GK):List D:=(mG h).map λi=>D.tup<|z5 w<|f i
noncomputable def vd(h w:Nat)(f:GK):D:= .tup [.int h,.int w,.tup (ko h w f)]
@[simp] theorem dA(n f):(z5 n f).length=n:=by simp[z5]
@[simp] theorem dB(h w f):(ko h w f).length=h:=by simp[ko]
@[simp] theorem fS(f)(h:i<(z5 n f).length):(z5 n f)[i] = .int (f i):=by simp[z5]
@[simp] theorem fT(f)(hi:i<(ko h w f).length):(ko h w f)[i] = .tup (z5 w<|f i):=by simp[ko]
theorem YW{h w i:Nat}(f)(hi:i<h):(ko h w f)[i]? = b8 (.tup<|z5 w<|f i):=by simp[ko,hi]
theorem YV(h : ∀i,i<n->f i=g i):z5 n f=z5 n g:=by unfold z5;apply oW;intro i a;rw[h i (nM.mp a)]
theorem jS(n:Nat):xV 0 n=z5 n λi=>(i:Int):=by simp[xV,z5]
def xP(f:Nat->Int):Nat->Int
 | 0=>0
 | n+1=>xP f n+f n
theorem ym : ∀(xs:List Int) (y:Int),Yh (xs.map D.int++[.int y])=(Yh<|xs.map D.int).map λs=>s+y
 | [],y=>by simp[Yh]
 | x::xs,y=>by simp only[nj,List.cons_append,Yh];rw[ym xs y];cases e:Yh (xs.map D.int)<;>simp[Int.add_assoc]
theorem wH(f:Nat->Int) : ∀n,Yh (z5 n f)=b8 (xP f n)
 | 0=>rfl
 | n+1=>by
  have z:=wH f n;have e : ∀m,z5 m f=((mG m).map f).map D.int:=λm=>by simp[z5]
  rw[e]at z ⊢;rw[pN,List.map_append,List.map_append,List.map_singleton,List.map_singleton,ym,z];simp[xP]
noncomputable def kK:=jh 2<|jv<|zY<|zV<|zN (zQ<|zk 1) (.nm 0) 1 [0] jq (zv qR (zf 0)<|zf 1)
noncomputable def zy:=jh 5<|zG (e5 (sB<|zv fk (yf<|zk 0)<|zh<|.int 0) (jv<|zv qR (zv yS (zv qR (zv yS (zv qf (zv yS (zv yS (zf 1)<|zf 1)<|zh<|.int 7919)<|zh<|.int 11)<|zh<|.int 48271)<|zh<|.int 2147483647)<|zh<|.int 69621)<|zh<|.int 1000000007) jd)<|zG (j8 2<|dk (zk 0)<|zv qR (zf 1)<|yf<|zk 0)<|zG (e5 (Ym (sB<|zv n7 (yf<|zk 0)<|zh<|.int 1)<|sB<|zv fk (zv qR (dk (zk 0)<|zh<|.int 0)<|zh<|.int 2)<|zh<|.int 1) (zG (j8 3<|dk (zk 0)<|zv qf (zh<|.int 1)<|zv qR (zf 1)<|zv cn (yf<|zk 0)<|zh<|.int 1)<|zG (wQ (zT<|zv J2 (zf 1)<|zv cn (yf<|zk 0)<|zh<|.int 1) (.nm 4)<|j8 3<|zv J2 (zf 3)<|zv WI (zh<|.int 10)<|zh<|.int 9)<|jv<|zv qR (zf 3)<|zv WI (zh<|.int 10)<|zh<|.int 9) jd)<|jv<|zv qR (zv yS (zv qR (zv qf (zv qf (zv yS (zv qR (zf 2)<|zv WI (zh<|.int 10)<|zh<|.int 30)<|zh<|.int 48271)<|zv yS (zv yS (zf 1)<|zf 1)<|zh<|.int 7919)<|zh<|.int 11)<|zh<|.int 2147483647)<|zh<|.int 69621)<|zh<|.int 1000000007
def jb:=jh 1<|jv<|XF (hI .int<|zf 0)<|cQ<|hI .bool<|zf 0
noncomputable def jO:=jh 2<|zG (e5 (xr (zW<|sB<|hI .tuple<|zf 0)<|sB<|zv h6 (yf<|zk 0)<|yf<|zk 1) (jv<|zh<|.bl cq) jd)<|jv<|XF (JH<|zV<|zN (zQ<|zk 0) (.nm 0) 1 [] jq (zu jb<|zc (zf 0) zB))<|zv fk (zf 0)<|zf 1
noncomputable def ju:=jh 2<|zG (e5 (xr (zW<|sB<|hI .tuple<|zf 0)<|xr (sB<|zv h6 (yf<|zk 0)<|zh<|.int 3)<|xr (zW<|sB<|zu jb<|zc (dk (zk 0)<|zh<|.int 0) zB)<|zW<|sB<|zu jb<|zc (dk (zk 0)<|zh<|.int 1) zB) (jv<|zh<|.bl cq) jd)<|zG (e5 (xr (sB<|zv h6 (ar (zf 0) yw<|e4<|zh<|.int 2)<|ar (zf 1) yw<|e4<|zh<|.int 2)<|xr (zW<|sB<|hI .tuple<|dk (zk 0)<|zh<|.int 2)<|sB<|zv h6 (yf<|zO<|dk (zk 0)<|zh<|.int 2)<|dk (zk 1)<|zh<|.int 0) (jv<|zh<|.bl cq) jd)<|jv<|JH<|zV<|zN (zT<|dk (zk 1)<|zh<|.int 0) (.nm 0) 1 [0,1] jq (zu jO<|zc (dk (zO<|dk (zk 1)<|zh<|.int 2)<|zf 0)<|zc (dk (zO<|dk (zk 2)<|zh<|.int 2)<|zf 0) zB)
noncomputable def jm:=jh 10<|zG (yu 5<|xT zB)<|zG (wQ (zT<|zf 3) (.nm 6)<|zG (yu 7<|xT zB)<|zG (wQ (zT<|zf 4) (.nm 8)<|zG (j8 9<|zu zy<|zc (zf 0)<|zc (zv qf (zv qf (zf 1)<|zv yS (zf 6)<|zf 4)<|zf 8) zB)<|jk 7<|zv yS (zv qR (zf 9)<|zf 2)<|XD<|zv n7 (zv qR (zv J2 (zf 9)<|zh<|.int 7)<|zh<|.int 3)<|zh<|.int 0)<|jk 5<|zY<|zk 7)<|jv<|yZ<|zc (zf 3)<|zc (zf 4)<|zc (zY<|zk 5) zB
section
variable(γ:Ctx)
@[simp] def iJ:=@mq.eq_1
@[simp] def gG:=@lH.eq_1
@[simp] def dX:=@gT.eq_1
end
section
variable(γ:Ctx)
@[simp] def gz:=@lC.eq_1
@[simp] def iE:=@gP.eq_1
@[simp] def iG:=@ml.eq_1
@[simp] theorem dY(F G a b c):yy F G a b c γ=(a γ).bind λx=>(b γ).bind λy=>((F x y).bind m9).bind λk=>if k=b9 then (c γ).bind λz=>G y z else b8 (.bl cq):=rfl
@[simp] def gh:=@au.eq_1
end
section
variable(γ:Ctx)
@[simp] def dW:=@gS.eq_1
@[simp] def cI:=@eU.eq_1
@[simp] def iH:=@mm.eq_1
@[simp] def gy:=@lB.eq_1
@[simp] def dN:=@gN.eq_1
end
@[simp] theorem Y4(r):we (b8 (.nest r))=b8 r:=rfl
noncomputable def xn:=jh 2 (zG (j8 1 (zv qR (zf 0) (zh (.int 6)))) (jv (xp (zh (.str "")) (zV (zN (zT (zf 1)) (.nm 0) 1 [0] jq (qg (zh (.str "rl")) (zv qR (zv J2 (zf 1) (dk (zV (xT (zc (zh (.int 6)) (zc (zh (.int 12)) (zc (zh (.int 24)) (zc (zh (.int 48)) (zc (zh (.int 96)) zB))))))) (zf 0))) (zh (.int 2)))))))))
noncomputable def km:=jh 9 (zG (j8 5 (zY (zV (zN (zT (zv qf (k6 (zf 3)) (zh (.int 1)))) (.nm 0) 1 [0,1,4] jq (zv qR (zu zy (zc (zf 1) (zc (zv qf (zf 2) (zf 0)) zB))) (zf 3)))))) (zG (yu 6 (xT zB)) (zG (wQ (zT (k6 (zf 3))) (.nm 7) (zG (j8 8 (yZ (zc (dk (zk 5) (zv qf (zf 7) (zh (.int 1)))) (zc (dk (zk 5) (zf 7)) zB)))) (zG (e5 (sB (zv fk (qg (zf 3) (zf 7)) (zh (.str "l")))) (j8 8 (yZ (zc (dk (zk 5) (zf 7)) (zc (dk (zk 5) (zv qf (zf 7) (zh (.int 1)))) zB)))) jd) (jk 6 (yZ (zc (qg (zf 3) (zf 7)) (zc (zu jm (zc (zf 0) (zc (zv qf (zv qf (zf 1) (zh (.int 10))) (zv yS (zh (.int 17)) (zf 7))) (zc (zf 2) (zc (dk (zk 8) (zh (.int 0))) (zc (dk (zk 8) (zh (.int 1))) zB)))))) zB))))))) (jv (yZ (zc (zf 2) (zc (zf 5) (zc (zY (zk 6)) zB))))))))
noncomputable def ql:=jh 4<|zG (e5 (xr (zW<|sB<|hI .tuple<|zf 0)<|xr (sB<|zv h6 (yf<|zk 0)<|zh<|.int 3)<|xr (zW<|sB<|zu jb<|zc (dk (zk 0)<|zh<|.int 0) zB)<|sB<|zv h6 (dk (zk 0)<|zh<|.int 0)<|dk (zk 1)<|zh<|.int 0) (jv<|zh<|.bl cq) jd)<|zG (e5 (xr (zW<|sB<|zu jO<|zc (dk (zk 0)<|zh<|.int 1)<|zc (dk (zk 1)<|zh<|.int 1) zB)<|xr (zW<|sB<|hI .tuple<|dk (zk 0)<|zh<|.int 2)<|sB<|zv h6 (yf<|zO<|dk (zk 0)<|zh<|.int 2)<|yf<|zO<|dk (zk 1)<|zh<|.int 2) (jv<|zh<|.bl cq) jd)<|zG (wQ (WY (dk (zk 0)<|zh<|.int 2)<|dk (zk 1)<|zh<|.int 2) (.tp [2,3])<|zG (e5 (xr (zW<|sB<|hI .tuple<|zf 2)<|xr (sB<|zv h6 (yf<|zk 2)<|zh<|.int 2)<|sB<|zv h6 (dk (zk 2)<|zh<|.int 0)<|dk (zk 3)<|zh<|.int 0) (jv<|zh<|.bl cq) jd)<|e5 (xr (zW<|sB<|hI .str<|dk (zk 2)<|zh<|.int 0)<|zW<|sB<|zu ju<|zc (dk (zk 2)<|zh<|.int 1)<|zc (dk (zk 3)<|zh<|.int 1) zB) (jv<|zh<|.bl cq) jd)<|jv<|zh<|.bl b9
section
variable(γ:Ctx)
@[simp] def j5:=@qg.eq_1
@[simp] def WV:=@k6.eq_1
@[simp] def gC:=@lD.eq_1
@[simp] def WW:=@xp.eq_1
end
noncomputable def jU:=jh 2 (jv (WZ (sB (zv fk (zf 1) (zh (.str "r")))) (zf 0) (zv qf (zf 0) (zh (.int 1)))))
noncomputable def qM:=jh 2 (jv (WZ (sB (zv fk (zf 1) (zh (.str "r")))) (zv qf (zf 0) (zh (.int 1))) (zf 0)))
noncomputable def XC(f:CO D):CO D:=λa=>(f a).map λd=> .bl (vX .list d || vX .tuple d)
def jf:=jh 1<|jv<|XF (hI .int<|zf 0)<|cQ<|hI .bool<|zf 0
noncomputable def ZC:=jh 2<|jv<|XF (zu jf<|zc (zf 1) zB)<|yy n9 tE (zh<|.int 0) (zf 1)<|zf 0
noncomputable def kL:=jh 1<|jv<|XF (zu jf<|zc (zf 0) zB)<|gP (zf 0)<|zO<|zh<|.tup [.int 2,.int 3,.int 5,.int 7]
noncomputable def q8:=jh 1<|jv<|XF (zu jf<|zc (zf 0) zB)<|yy n9 n9 (zh<|.int 0) (zf 0)<|zh<|.int 30
def jc:=jh 2<|jv<|XF (XC<|zf 0)<|zv fk (yf<|zk 0)<|zf 1
noncomputable def q9:=jh 2<|jv<|XF (zu jc<|zc (zf 1)<|zc (zf 0) zB)<|JH<|zV<|zN (zQ<|zk 1) (.nm 0) 1 [] jq (zu jf<|zc (zf 0) zB)
noncomputable def xl:=jh 4<|zG (e5 (zW<|sB<|zu kL<|zc (zf 0) zB) qP jd)<|zG (e5 (xr (zW<|sB<|zu q8<|zc (zf 1) zB)<|zW<|sB<|zu q8<|zc (zf 2) zB) qP jd)<|zG (e5 (xr (zW<|sB<|zu jc<|zc (zf 3)<|zc (zf 1) zB)<|zW<|sB<|JH<|zV<|zN (zQ<|zk 3) (.nm 0) 1 [2] jq (zu q9<|zc (zf 1)<|zc (zf 0) zB)) qP jd)<|jv<|yZ<|zc (zf 1)<|zc (zf 2)<|zc (zY<|zV<|zN (zQ<|zk 3) (.nm 0) 1 [0] jq (zu kK<|zc (zf 1)<|zc (zf 0) zB)) zB
section
variable{X:Cx}{sc:ep}{N L:List Str}{k:Nat}{a e:dV}{es:List dV}{f:CO D}{g:CO (List D)}{pos p p2:d9}
theorem Yx(I:PV X e f)(J:p8 e cp pos.line X.env=pure cq:=by rfl):ih X (.Expr e pos) (aA f):=kA (XX I J) λD j H M=>by obtain⟨E0,E,g,i,R,B,z,O⟩:=M;obtain⟨d,h,z⟩:=zo z;subst z;exact⟨g,i,d,B.rc,h,λv b a x r=>O j b a<|B.step x⟩
structure GL(K:mD)(mg:GJ)(x:Str)(d:D):Prop where
 ex : ∃u v,mg x=b8 u/\RelV v u/\∀H,Rep K H d v
theorem w4{x:Str}{d:D}(h:SX X sc N L k)(c:xE sc x=b9)(z:GL X.K X.mg x d):PV X (.Name x pos) (zh d):=by intro b s j H Q I ⟨a,i,g,rc,B,q⟩;cases B;obtain⟨u,v,e,f,J⟩:=z.ex;exact Kj I (h.gl c).1 e ⟨v,H,I,f,q v H a (Ext.refl rc.sub)<|J a⟩ (h.gl c).2.2
theorem XQ{J U:d9}{j:Nat}(h:SX X sc N L k)(c:xE sc "isinstance" = b9)(z:X.mg "isinstance" = cp)(Z:xE sc "list" = b9)(z2:X.mg "list" = cp)(c3:xE sc "tuple" = b9)(z3:X.mg "tuple" = cp)(ha:PV X a f)
 (hs:eg [a,.Tuple [.Name "list" p2,.Name "tuple" J] j U] X.env=[(cq,d1 a X.env),(cq,d1 (.Tuple [.Name "list" p2,.Name "tuple" J] j U) X.env)]:=by rfl)
 (am:eg [.Name "list" p2,.Name "tuple" J] X.env=[(cq,d1 (.Name "list" p2) X.env),(cq,d1 (.Name "tuple" J) X.env)]:=by rfl) :
 PV X (.Call (.Name "isinstance" p) [a,.Tuple [.Name "list" p2,.Name "tuple" J] j U] [] pos) (XC f):=by
 intro g s σ H Q I ⟨H0,γ,d,rc,ef,q⟩;obtain⟨Y,e1,e2⟩:=zo ef;subst e2;refine pE (xA I (h.gl c).1 z rO ?_ ⋯ ⋯);refine oZ ?_ (by rw[hs];rfl) rfl;rw[hs];show wpAny _ _ (tj ((cq,d1 a X.env)::i5 pos [(cq,d1 (.Tuple [.Name "list" p2,.Name "tuple" J] j U) X.env)])) _ _ s;refine ou (d3 (ha g s σ H (λv H'=>∃m,Ext H0 H m H'/\Rep X.K m Y v) I ⟨H0,γ,Y,rc,e1,λv H' m x r=>⟨m,x,r⟩⟩) λu l hZ=>?_);obtain⟨x,S,T,M,F,x1,O⟩:=hZ;show wpAny _ _ (tj ((cq,d1 (.Tuple [.Name "list" p2,.Name "tuple" J] j U) X.env)::[])) _ _ l;refine ou (wpAny_Tuple_spliced ?_);rw[am];show wpAny _ _ (tj ((cq,d1 (.Name "list" p2) X.env)::i5 U [(cq,d1 (.Name "tuple" J) X.env)])) _ _ l;refine ou (xA T (h.gl Z).1 z2 PyProof.Rows.boot_list ?_ (h.gl Z).2.1 (h.gl Z).2.2);show wpAny _ _ (tj ((cq,d1 (.Name "tuple" J) X.env)::[])) _ _ l;refine ou (xA T (h.gl c3).1 z3 pM ?_ (h.gl c3).2.1 (h.gl c3).2.2);refine rj ⟨by decide,?_⟩;refine rj ?_;have B:L2.Inv X g σ S {l with heap:=l.heap.push {cls:= .type "tuple",data:= .seq #[.type "list",.type "tuple"]},toks:=l.toks}:=T.kept λb u e=>mF _ e;have tp:(l.heap.push {cls:= .type "tuple",data:= .seq #[.type "list",.type "tuple"]}).get? l.heap.objs.size=b8 ⟨.type "tuple",cp,.seq [sj "list",.type "tuple"].toArray 0,#[]⟩:=mX _ rfl;have R : ∀tk,EP X g σ Q (.bool (vX .list Y || vX .tuple Y)) {l with heap:=l.heap.push {cls:= .type "tuple",data:= .seq #[.type "list",.type "tuple"]},toks:=tk}:=λtk=>⟨.bl _,S,B.tok tk,rfl,q _ S F x1 rfl⟩;have any : ∀{t:di} {b1 b2:Bool},oq X.K t (.type "list")=b8 b1->oq X.K t (.type "tuple")=b8 b2->PySem.W.kitAny X.K t [.type "list",.type "tuple"]=b8 (b1 || b2):=λ{t b1 b2} g1 g2=>by
  unfold PySem.W.kitAny;rw[g1];cases b1 with
  | true=>rfl
  | false=>
   dsimp only;unfold PySem.W.kitAny;rw[g2];cases b2<;>rfl
 cases Y with
 | ea=>cases (show x = .ea from O);cases (show u=oV from M);exact ox rY B.f6 nQ tp (any (j4 .list .ea)<|j4 .tuple .ea) (λz=>nomatch z) R
 | bl y=>cases (show x = .bl y from O);cases (show u=sk y from M);exact ox rZ B.f6 nQ tp (any (j4 .list<|.bl y)<|j4 .tuple<|.bl y) (λz=>nomatch z) R
 | int i=>cases (show x = .int i from O);obtain⟨t,qq⟩:=(show ∃t,u=rW i t from M);cases qq;exact ox sr B.f6 nQ tp (any (j4 .list<|.int i)<|j4 .tuple<|.int i) (λz=>nomatch z) R
 | str y=>cases (show x = .str y from O);obtain⟨t,qq⟩:=(show ∃t,u=rE y t from M);cases qq;exact ox so B.f6 nQ tp (any (j4 .list<|.str y)<|j4 .tuple<|.str y) (λz=>nomatch z) R
 | tup G=>
  obtain⟨a,n,rfl,A,h2⟩:=ku O;cases (show u=nJ a from M);obtain⟨as,rv,⟨o,P,hc,_⟩,hz⟩:=B.tuple<|i6 x1.sub A;exact ox rN B.f6 ⟨o,P,hc⟩ tp (any (j4 .list<|.tup G)<|j4 .tuple<|.tup G) (λz=>nomatch z) R
 | lst G=>
  obtain⟨a,n,rfl,A,h2⟩:=Jd O;cases (show u=nJ a from M);obtain⟨as,rv,p,hz⟩:=B.list<|x1.sub.seq A;obtain⟨o,P,hc,_⟩:=p.isList;exact ox pT B.f6 ⟨o,P,hc⟩ tp (any (j4 .list<|.lst G)<|j4 .tuple<|.lst G) (λz=>nomatch z) R
 | hA C E=>
  obtain⟨a,n,rfl,⟨kk,_,_,A⟩,_⟩:=(show ∃a n,x = .ref a/\tP F a C n/\dy X.K F E n from O);cases (show u=nJ a from M);obtain⟨_,_,b5,_,dd⟩:=cj B.d7<|x1.sub _ _ A;exact ox pv B.f6 dd.typeIs tp (any (j4 .list<|.hA C E)<|j4 .tuple<|.hA C E) (λz=>nomatch z) R
 | f7 C E=>
  obtain⟨a,n,rfl,⟨_,o,zs,A,h2,_⟩,_⟩:=(show ∃a n,x = .ref a/\tR X.K F a C n/\dy X.K F E n from O);cases (show u=nJ a from M);obtain⟨P,_⟩:=(show gq X.prog X.w S _ a (uX a o)from B.d7 a _<|x1.sub _ _ A);exact ox pv B.f6 ⟨o,P,h2.1.1⟩ tp (any (j4 .list<|.f7 C E)<|j4 .tuple<|.f7 C E) (λz=>nomatch z) R
end
section
variable{K:mD}{mg:GJ}{h:d6}
theorem hJ{x:Str}{n:Int}{t:Tok}(z:K.In h)(G:h.Ns iv mg)(a:pL K iv x=b8 (b8 (.int n t))):GL K mg x (.int n):=
 ⟨_,.int n,rf z G a,⟨t,rfl⟩,λ_=>(show V.int n = .int n from rfl)⟩
noncomputable def Jj:List di->Option (List Int)
 | []=>b8 []
 | .int i _::r=>(Jj r).map λl=>i::l
 | _::_=>cp
theorem kX : ∀{C:List di} {z:List Int},Jj C=b8 z->d5 (z.map V.int) C
 | [],z,e=>by cases e;exact .nil
 | u::C,z,e=>by
  cases u with
  | int i t=>
   obtain⟨l,a,b⟩:=zo e;subst b;exact .cons ⟨t,rfl⟩<|kX a
  | _=>cases e
theorem kP{H:Hp} : ∀t:List Int,dy K H (t.map D.int) (t.map V.int)
 | []=>dy.nil
 | n::t=>dy.cons (show V.int n = .int n from rfl)<|kP t
theorem fM{x:Str}{ad:c8}{B:Array di}{m:Nat}{C:Array (Option di)}(t:List Int)(I:K.In h)(G:h.Ns iv mg)(a:pL K iv x=b8 (b8 (.ref ad)))
 (l:K.lookup ad=b8 ⟨.type "tuple",cp,.seq B m,C⟩) (v:Jj B.toList=b8 t) (z:B.size<=ej):GL K mg x (.tup (t.map D.int)):=
 ⟨_,.ref ad,rf I G a,rfl,λH=>(show ∃b d,V.ref ad = .ref b/\eu K H b d/\dy K H (t.map D.int) d from⟨ad,t.map V.int,rfl,.inr ⟨_,B,m,l,rfl,rfl,z,kX v⟩,kP t⟩)⟩
end
theorem yB(h:ra X es n g):o7 X es g:=h.1
section
variable{K:mD}{E0 E H0 H:Hp}{σ:St}{γ:Ctx}
theorem dy.dropLast : ∀{t:List D} {xs:List V},dy K H t xs->dy K H t.dropLast xs.dropLast
 | [],xs,r=>by rw[r.m3];exact dy.nil
 | [d],xs,r=>by obtain⟨x,B,e,_,z⟩:=r.i9;rw[e,z.m3];exact dy.nil
 | d::d2::t,xs,r=>by obtain⟨x,B,e,I,z⟩:=r.i9;obtain⟨J,M,a,_,_⟩:=z.i9;subst e a;exact dy.cons I<|dy.dropLast z
end
end DL
namespace L2
open PySem PySem.Spec PyProof.Rows
noncomputable def uo(z:Str):It:=⟨λi _=>i<z.cps.size,λi H x a=>a=H/\∃c,z.cps[i]? = b8 c/\x = .str ⟨#[c]⟩,λi _=>z.cps.size<=i⟩
theorem YM(z:Str):strIterType z = "str_ascii_iterator"\/strIterType z = "str_iterator":=by unfold strIterType;split<;>simp
theorem Yc{P:fy}{w:eW}{K:mD}{tg:dV}(z:Str)(t:Tok)(it:c8):Turn P w K tg (uo z) [it] it (λi h=>h.IsStrIter it (strIterType z) z t i) where
 mem:=by simp
 obj:=λi h st b B=>by
  have e:b=it:=by simpa using B
  subst e;obtain⟨o,e,c,d⟩:=st;exact⟨o,e,λv q=>by rw[d]at q;cases q⟩
 keep:=λi h h' st k=>by obtain⟨o,e,r⟩:=st;exact⟨o,k it ⋯ o e,r⟩
 item:=by
  rintro X rfl rfl rfl hc i pins s σ H E I R st hg;obtain⟨U,W,f2,Y,f4,f5⟩:=R it ⋯;have hi:i<z.cps.size:=hg;have J:z.cps[i]? = b8 z.cps[i]:=by simp[hi]
  have a5 : ∀h',h'.IsStrIter it (strIterType z) z t (i+1)->oY it s.heap h'->wpAny (d4 X.prog X.w) X.A (t9 tg (.ref it)<|.str ⟨#[z.cps[i]]⟩ s.toks)
   (λ_ s2=>∃x H',Inv X pins σ H' s2/\RelV x (.str ⟨#[z.cps[i]]⟩ s.toks)/\(uo z).o4 i H x H'/\s2.heap.IsStrIter it (strIterType z) z t (i+1)/\∀b ∈ [it],H' b=cp) E {s with heap:=h',toks:=s.toks+1}:=λh' M O=>by
   have I1:Inv X pins σ H {s with heap:=h',toks:=s.toks+1}:=I.turned (λb o B e=>(O.2 b B).trans e) U W Y f4 f5;obtain⟨o,e,c,d⟩:=id M;refine YS (s:={s with heap:=h',toks:=s.toks+1}) e c d ?_ ⟨.str ⟨#[z.cps[i]]⟩,H,I1,⟨_,rfl⟩,⟨rfl,_,J,rfl⟩,M,λb B=>(R b B).1⟩;rcases YM z with q | q<;>rw[q]<;>decide
  rcases YM z with q | q
  ·rw[q]at st
   exact wpAny_pyNext_ascii_item st J λh' M O=>⟨_,rfl,a5 h' (by rw[q];exact M) O⟩
  ·rw[q]at st
   exact wpAny_pyNext_wide_item st J λh' M O=>⟨_,rfl,a5 h' (by rw[q];exact M) O⟩
 done:=by
  rintro X rfl rfl rfl hc i pins s σ H E I R st hg;obtain⟨U,W,f2,Y,f4,f5⟩:=R it ⋯;have hi:z.cps.size<=i:=hg;have J:z.cps[i]? = cp:=by simp[hi]
  have hh:=I.ok.hd hc;rcases YM z with q | q
  ·rw[q]at st
   exact wpAny_pyNext_ascii_end hh st J λh' eb=>⟨rfl,I.turned (t':=s.toks) (λb o B e=>eb b o B e) U W Y f4 f5⟩
  ·rw[q]at st
   exact wpAny_pyNext_wide_end hh st J λh' eb=>⟨rfl,I.turned (t':=s.toks) (λb o B e=>eb b o B e) U W Y f4 f5⟩
 self:=λA i s Q E st h=>by
  rcases YM z with q | q
  ·rw[q]at st;exact wpAny_pyIter_striter_ascii st h
  ·rw[q]at st;exact wpAny_pyIter_striter_wide st h
noncomputable def lS(t:TE):TI:=λb H R=>t b H λx a=>∃z,x = .str z/\R (uo z) a
theorem aV{X:Cx}{G l:dV}{C:TE}(J:PE X l C):PI X G l (lS C):=by
 intro a s g H R I h;refine d3 (J a s g H _ I h) λv d M=>?_;obtain⟨x,f,B,O,U⟩:=M;obtain⟨z,rfl,q⟩:=U;obtain⟨t,rfl⟩:=O;refine wpAny_pyIter_strU ?_;refine⟨d.heap.objs.size,[d.heap.objs.size],_,_,f,rfl,B.kept (t':=d.toks) λb o e=>mF _ e,Yc z t _,⟨_,mX _ rfl,rfl,rfl⟩,λb W=>?_,q⟩;have e:b=d.heap.objs.size:=by simpa using W
 subst e;exact B.t7 (mN _)<|B.d7.fresh<|mN _
theorem YT{X:Cx}{t:GW}{L:St}{H:Hp}{s:d0}{E:GQ}{z it:c8}{i M:Nat}{x:di}{v:V}{g:d6}{C:List dV}{x1:Nat}{G:d9}{Q:Unit->d0->Prop}
 (I:Inv X t L H s) (R : ∀b ∈ [z,it],Xj X t H b) (U:z<s.heap.objs.size) (hi:it<s.heap.objs.size) (W:IsEnumOut g z it ((i:Int)+1) x s.heap.objs.size)
 (Y:i0 g s.heap.objs.size (.int i M) x) (a5 : ∀b o,b≠z->b≠it->s.heap.get? b=b8 o->g.get? b=b8 o) (Z:RelV v x)
 (S : ∀g2,IsEnum g2 z it ((i+1:Nat):Int) x->oY z g g2->Inv X t L (upd H s.heap.objs.size<|.tup [.int i,v]) {s with heap:=g2,toks:=M+1}->H s.heap.objs.size=cp->
   (∀b ∈ [z,it],upd H s.heap.objs.size (.tup [.int i,v]) b=cp)->Q () {s with heap:=g2,toks:=M+1}) :
 wpAny (d4 X.prog X.w) X.A (t9 (.Tuple C x1 G) (.ref z)<|.ref s.heap.objs.size) Q E {s with heap:=g,toks:=M+1}:=by
 refine wpAny_letOwnedTupleGo_enum W λg2 s9 O=>?_;have a:i0 g2 s.heap.objs.size (.int i M) x:=O.extBut _ _ (pb U) Y;have f : ∀B u,B ∉ [z,it]->s.heap.get? B=b8 u->g2.get? B=b8 u:=λB u J e=>by simp only[mJ,nC,or_false,not_or]at J;exact O.extBut _ _ J.1<|a5 B u J.1 J.2 e
 refine S g2 (by have:=s9;rwa [show((i:Int)+1)=((i+1:Nat):Int)by omega]at this) O (I.AL (fp:=[z,it]) f R (mN _) ⟨by show 2<=ej;decide,[.int i M,x],.cons ⟨_,rfl⟩<|.cons Z .nil,⟨_,a,rfl,_,rfl⟩⟩) I.fresh λB J=>?_;have d:B≠s.heap.objs.size:=by
  simp only[mJ,nC,or_false]at J;rcases J with rfl | rfl
  ·exact nt U
  ·exact nt hi
 rw[zC d];exact(R B J).1
noncomputable def gK(K:mD)(a:c8):It:=
 ⟨λi H=>∃b,el K H a b/\i<b.length,
  λi H x d=>∃p u,x = .ref p/\H p=cp/\d=upd H p (.tup [.int i,u])/\(∀b,el K H a b->b[i]? = b8 u),
  λi H=>∃b,el K H a b/\b.length=i⟩
theorem QM{P:fy}{w:eW}{K:mD}{elts:List dV}{x1:Nat}{r6:d9}{z it a:c8}(a0:z≠it) :
 Turn P w K (.Tuple elts x1 r6) (gK K a) [z,it] z (λi h=>(∃M,IsEnum h z it i M)/\h.IsListIter it a i) where
 mem:=by simp
 obj:=λi h ⟨⟨M,B⟩,h1⟩ y hy=>by
  simp only[mJ,nC,or_false]at hy;rcases hy with rfl | rfl
  ·exact⟨_,B,λv q=>by cases q⟩
  ·obtain⟨o,e,c,d⟩:=h1
   exact⟨o,e,λv q=>by rw[d]at q;cases q⟩
 keep:=λi h h' ⟨⟨M,B⟩,h1⟩ k=>⟨⟨M,k z ⋯ _ B⟩,h1.at λo e=>k it ⋯ o e⟩
 item:=by
  rintro X rfl rfl rfl hc i pins s σ H E I hf ⟨⟨M,B⟩,h1⟩ ⟨xs,R,aw⟩;obtain⟨U,W,p1,z1⟩:=I.list R;have O:=p1.isList;have hx:xs[i]? = b8 xs[i]:=mO aw;have l1:=W.length;have a9:a≠it:=λe=>by obtain⟨o,e1,J,_⟩:=O;obtain⟨o2,e2,c2,_⟩:=h1;rw[e,e2]at e1;cases e1;rw[c2]at J;exact absurd J ⋯
  have b5:z≠a:=λe=>by obtain⟨o,e1,J,_⟩:=O;have ap:s.heap.get? z=b8 _:=B;rw[e,e1]at ap;cases ap;exact absurd J ⋯
  have b6:it<s.heap.objs.size:=by obtain⟨o2,e2,_⟩:=h1;exact mS e2
  have Y:=Draws.list (prog:=X.prog) (w:=X.w) (A:=X.A.in1) (show X.A.in1.handled=cp from I.ok.hd hc) it a a9 U.toArray;refine wpAny_pyNext_enum_itemD Y B ⟨h1,O⟩ (by simp;omega) a0 (by simp;exact⟨a0,b5⟩) λx g tk hP a1 a2 a3 a4 a5=>⟨_,rfl,?_⟩;obtain⟨u1,bg,bi⟩:=W.get hx;obtain rfl:u1=x:=by have:=hP;simp[bg]at this;exact this
  refine YT I hf (mS B) b6 a1 a3 a5 bi λg2 b1 b2 I1 bm hn=>⟨.ref s.heap.objs.size,_,I1,rfl,⟨_,_,rfl,bm,rfl,λc6 bn=>by rw[I.u9 bn R];exact hx⟩,⟨⟨_,b1⟩,a2.1.at λo e=>b2.extBut _ _ a0.symm e⟩,hn⟩
 done:=by
  rintro X rfl rfl rfl hc i pins s σ H E I hf ⟨⟨M,B⟩,h1⟩ ⟨xs,R,hi⟩;obtain⟨U,W,p1,z1⟩:=I.list R;have O:=p1.isList;have l1:=W.length;have a9:a≠it:=λe=>by obtain⟨o,e1,J,_⟩:=O;obtain⟨o2,e2,c2,_⟩:=h1;rw[e,e2]at e1;cases e1;rw[c2]at J;exact absurd J ⋯
  have Y:=Draws.list (prog:=X.prog) (w:=X.w) (A:=X.A.in1) (show X.A.in1.handled=cp from I.ok.hd hc) it a a9 U.toArray;have en:U.toArray.size=i:=by simp;omega
  rw[en]at Y;refine wpAny_pyNext_enum_endD Y B ⟨h1,O⟩ λg hk=>⟨rfl,?_⟩;refine I.AM (t':=s.toks) (fp:=[z,it]) (λb' u hb e=>?_) hf;simp only[mJ,nC,or_false,not_or]at hb;exact hk b' u hb.2 e
 self:=λ_ _ _ _ _ st h=>Zj st.1.choose_spec h
noncomputable def bV(K:mD)(t:TA):TI:=λf H R=>t f H λd b=>∃a,d=[.ref a]/\(∃e,el K b a e)/\R (gK K a) b
section
variable{X:Cx}{e1:dV}{ta:TA}{p pos:d9}{elts:List dV}{x1:Nat}{r6:d9}
theorem YB(M:Gl X "enumerate")(C:X.mg "enumerate" = cp)(t:PA X [e1] ta)
 (O:sV "enumerate" = b8 (.type "enumerate")) (U:eg [e1] X.env=[(cq,d1 e1 X.env)]:=by rfl) :
 PI X (.Tuple elts x1 r6) (.Call (.Name "enumerate" p) [e1] [] pos) (bV X.K ta):=by
 intro b s m H R I h;refine Call_<|xA I M C O<|oB (d3 (t pos b s m H _ I h) λr d W=>?_) (by rw[U];rfl) rfl;obtain⟨u,e,z,Y,l⟩:=W;obtain⟨a,rfl,⟨x,f⟩,q⟩:=l;obtain⟨w,rfl,i⟩:=kr Y;cases i;obtain⟨n,o,j,y⟩:=z.list f;refine call_enumerate_list j.isList λg b1 b2 b3 b4=>Zj (s:={d with heap:=g}) b1 ?_;refine⟨_,[d.heap.objs.size+1,d.heap.objs.size],_,_,e,rfl,z.kept (t':=d.toks) b4,QM<|pb<|pG _,⟨⟨_,b1⟩,b2⟩,λc B=>?_,q⟩;have J:d.heap.objs.size<=c:=by
  simp only[mJ,nC,or_false]at B;rcases B with rfl | rfl
  ·exact nZ _ _
  ·exact mN _
 exact z.t7 J<|z.d7.fresh J
end
theorem ai{X:Cx}:uv X (λx lo hi H Q=>∃z,x = .str z/\z.length<=ej/\Q (.str<|oN z lo hi) H):=by
 rintro a s e H x v Y g lo hi f Q I R ⟨o,B,J,b⟩ U W ⟨z,rfl,M,q⟩;obtain⟨t,rfl⟩:=R;have O : ∀d k,EP X a e Q (.str (oN z lo hi) d) {s with toks:=k}:=λd k=>⟨.str _,H,I.tok k,⟨_,rfl⟩,q⟩;refine⟨"str",_,F.slot_str_getitem.lookup,rD _ _ _,?_⟩;cases U<;>cases W
 ·exact pD (l:=cp) (u:=cp) (st:=cp) ⟨o,B,J,b⟩ rfl<|rV ⟨nc (sF z _ _) M,O⟩
 ·exact pD (l:=cp) (u:=b8 (_,_)) (st:=cp) ⟨o,B,J,b⟩ rfl<|rV ⟨nc (sF z _ _) M,O⟩
 ·exact pD (l:=b8 (_,_)) (u:=cp) (st:=cp) ⟨o,B,J,b⟩ rfl<|rV ⟨nc (sF z _ _) M,O⟩
 ·exact pD (l:=b8 (_,_)) (u:=b8 (_,_)) (st:=cp) ⟨o,B,J,b⟩ rfl<|rV ⟨nc (sF z _ _) M,O⟩
end L2
namespace DL
open PySem PySem.Spec PyProof.Rows L2
theorem wM(z:Str):(qO z).length=z.cps.size:=by simp[qO]
theorem Yi(z:Str){i c:Nat}(h:z.cps[i]? = b8 c):(qO z)[i]? = b8 (.str ⟨#[c]⟩):=by simp[qO,h]
theorem K9{K:mD}{t C:Hp}(z:Str):Walk K t C (uo z) (qO z):=by
 refine⟨λi b s a=>?_,λb s=>?_,λi b x e s a y=>?_⟩
 ·rw[wM]at a;exact a
 ·rw[wM];exact mN _
 ·obtain⟨rfl,c,B,rfl⟩:=y
  exact⟨_,Yi z B,λd g f=>⟨d,Ext.refl f,rfl⟩⟩
theorem QH{K:mD}{C G:Hp}{a:c8}{xs:List V}{t:List D}(h:el K G a xs)(r:dy K C t xs):Walk K C G (gK K a) (yc t):=by
 have J:=r.length;have M:(yc t).length=t.length:=by simp[yc]
 refine⟨λi b s l=>?_,λb s=>?_,λi b x g s l y=>?_⟩
 ·exact⟨xs,s.seq h,by omega⟩
 ·exact⟨xs,s.seq h,by omega⟩
 ·obtain⟨p,u,rfl,z,rfl,B⟩:=y
  obtain⟨d,j,I⟩:=r.uB<|B xs<|s.seq h;refine⟨.tup [.int i,d],?_,λf m e=>⟨upd f p<|.tup [.int i,u],Ext.alloc e z _,?_⟩⟩
  ·unfold yc
   rw[ny,List.getElem?_range ⋯,pH,j];rfl
  ·exact j9 (eu.of zE)<|dy.cons (show V.int i = .int i from rfl)<|dy.cons ((I.mono m).mono (zX (ji e z) _)) dy.nil
theorem yn : ∀l:List Str,(l.map V.str).all vc=b9
 | []=>rfl
 | i::l=>by simp only[nj,sg,yn l,Bool.and_true];rfl
section
variable{X:Cx}{sc:ep}{N L:List Str}{k:Nat}{a b e:dV}{pos p p2:d9}{f fa fb:CO D}
theorem X0{C:dV}(t:PV X a f):i1 X C a (yt f):=
 QV (aV t) λj H R J=>by
  obtain⟨h,i,e,rc,B,q⟩:=J;obtain⟨d,M,B⟩:=zb B;cases d with
  | str z=>
   by_cases I:zm z=b9
   ·have B:(if zm z=b9 then b8 (qO z)else cp)=b8 e:=B
    rw[GY I]at B;cases B;exact⟨h,i,_,rc,M,λv g b x r=>⟨z,r,q _ g b x<|K9 z⟩⟩
   ·have B:(if zm z=b9 then b8 (qO z)else cp)=b8 e:=B
    rw[MQ I]at B;cases B
  | _=>cases B
theorem X1(h:SX X sc N L k)(c:xE sc "enumerate" = b9)(z:X.mg "enumerate" = cp)(t:PV X a f)(I:eg [a] X.env=[(cq,d1 a X.env)]:=by rfl) :
 i1 X (.Tuple elts x1 r6) (.Call (.Name "enumerate" p) [a] [] pos) (yx f):=
 QV (YB (h.gl c).1 z (jl t j0 I) boot_enumerate I) λn H R M=>by
  obtain⟨g,j,l,rc,B,q⟩:=M;obtain⟨d,O,B⟩:=zb B;cases d with
  | lst m=>
   cases B;refine⟨g,j,_,rc,O,λv e b x r=>?_⟩;obtain⟨U,i,rfl,J,g2⟩:=Jd r;exact⟨U,rfl,⟨i,x.sub.seq J⟩,q _ e b x<|QH J g2⟩
  | _=>cases B
theorem Vj(t:PV X a fa){g:CO (Sk×List D)}(I:PQ X b g)(C:pa .In b=cq:=by with_unfolding_all rfl):PV X (.Compare a [.In] [b] pos) (ay fa g):=
 z9 (vP Zd t I C) λF H Q J=>by
  obtain⟨j,i,d,rc,z,q⟩:=J;obtain⟨x,n,z⟩:=zb z;obtain⟨⟨h,m⟩,o,z⟩:=zb z;cases x with
  | str w=>
   obtain⟨l,M,rfl⟩:=zo z;refine⟨j,i,_,rc,n,λO u R x1 B=>⟨R,i,h,m,rc.ext x1,o,λp E e U W f A r=>?_⟩⟩;have s:=xQ r M;subst s;have Y:el X.K e p (l.map V.str)\/eu X.K e p (l.map V.str):=by
    cases h with
    | L=>exact .inl f
    | T=>exact .inr f
   have B:O = .str w:=B;subst B;refine⟨p,_,rfl,Y,rfl,yn l,?_⟩;have:rp (.str w) (l.map V.str)=l.any λy=>y==w:=by unfold rp;rw[List.any_map];rfl
   rw[MQ mW,this];exact q _ e U (x1.trans W) rfl
  | _=>cases z
theorem kz(t:PV X a fa)(I:PV X b fb):PV X (.BinOp a .Add b pos) (qG fa fb):=
 z9 (bf QW t I) λo H Q J=>by
  obtain⟨f,e,d,rc,z,q⟩:=J;obtain⟨x,h,z⟩:=zb z;obtain⟨y,i,z⟩:=zb z;cases x with
  | str u=>
   cases y with
   | str w=>
    by_cases B:zm u=b9/\zm w=b9
    ·have z:(if zm u=b9/\zm w=b9 then b8 (D.str<|u++w)else cp)=b8 d:=z
     rw[GY B]at z;cases z;refine⟨f,e,_,rc,h,λY j M x1 O=>⟨M,e,_,rc.ext x1,i,λn g R U W=>⟨u,w,O,W,?_,q _ g R (x1.trans U) rfl⟩⟩⟩;have l:=xh B.1;have m:=xh B.2;have:2000<=ej:=by decide
     omega
    ·have z:(if zm u=b9/\zm w=b9 then b8 (D.str<|u++w)else cp)=b8 d:=z
     rw[MQ B]at z;cases z
   | _=>cases z
  | _=>cases z
theorem wX{lo hi:Option dV}{J M:CO (Option Int)}(t:PV X a f)(U:L2.PO X lo (tB X.K J))(W:L2.PO X hi (tB X.K M)):PV X (.Subscript a (.Slice lo hi cp p2) pos) (JG f J M):=
 z9 (JR ai t U W) λy H Q Y=>by
  obtain⟨g,e,d,rc,B,q⟩:=Y;obtain⟨O,m,B⟩:=zb B;obtain⟨l,n,B⟩:=zb B;obtain⟨u,o,B⟩:=zb B;refine⟨g,e,O,rc,m,λv s b x r=>⟨b,e,l,rc.ext x,n,λw i R=>⟨i,e,u,(rc.ext x).ext R,o,λh j x3=>?_⟩⟩⟩;have p:=x.trans<|R.trans x3;cases O with
  | str z=>
   by_cases I:zm z=b9
   ·have B:(if zm z=b9 then b8 (D.str<|oN z l u)else cp)=b8 d:=B
    rw[GY I]at B;cases B;exact⟨z,r,xf I,q _ h j p rfl⟩
   ·have B:(if zm z=b9 then b8 (D.str<|oN z l u)else cp)=b8 d:=B
    rw[MQ I]at B;cases B
  | _=>cases B
end
section
variable{K:mD}{mg:GJ}{h:d6}
noncomputable def ZI:List di->Option (List Str)
 | []=>b8 []
 | .str i _::r=>(ZI r).map λl=>i::l
 | _::_=>cp
theorem kM : ∀{C:List di} {z:List Str},ZI C=b8 z->d5 (z.map V.str) C
 | [],z,e=>by cases e;exact .nil
 | u::C,z,e=>by
  cases u with
  | str i t=>
   obtain⟨l,a,b⟩:=zo e;subst b;exact .cons ⟨t,rfl⟩<|kM a
  | _=>cases e
theorem qS{H:Hp} : ∀t:List Str,dy K H (t.map D.str) (t.map V.str)
 | []=>dy.nil
 | n::t=>dy.cons (show V.str n = .str n from rfl)<|qS t
theorem fL{x:Str}{ad:c8}{B:Array di}{m:Nat}{C:Array (Option di)}(t:List Str)(I:K.In h)(G:h.Ns iv mg)(a:pL K iv x=b8 (b8 (.ref ad)))
 (l:K.lookup ad=b8 ⟨.type "tuple",cp,.seq B m,C⟩) (v:ZI B.toList=b8 t) (z:B.size<=ej):GL K mg x (.tup (t.map D.str)):=
 ⟨_,.ref ad,rf I G a,rfl,λH=>(show ∃b d,V.ref ad = .ref b/\eu K H b d/\dy K H (t.map D.str) d from⟨ad,t.map V.str,rfl,.inr ⟨_,B,m,l,rfl,rfl,z,kM v⟩,qS t⟩)⟩
end
end DL
namespace DL
open PySem PySem.Spec PyProof.Rows L2
open PySem.W (KasT kas_sort kas_ask kat_run kat_snds kat_lt kat_cons kat_no kat_yes kat_nil kat_go kat_one kat_kind KatTups KatGo)
section
variable{X:Cx}{a b c:dV}{pos:d9}{fa fb fc:CO D}
theorem XR{J M:CmpOp}{r R:R2}{F G:D->D->Option D}(ho:fh X (ij J) r)(t:fh X (ij M) R)(s1:h3 X.K r F)(s2:h3 X.K R G)(ha:PV X a fa)(hb:PV X b fb)(hc:PV X c fc)
 (hm:u6 [J,M] [b,c]=cq:=by with_unfolding_all rfl):i8 X (.Compare a [J,M] [b,c] pos) (sB<|yy F G fa fb fc):=
 XT (Ys ho t ha hb hc hm) λσ H Q Z=>by
  obtain⟨h,g,kq,rc,s,q0⟩:=Z;obtain⟨d,B,T⟩:=zb s;have q : ∀v f e,Ext h H e f->Rep X.K e d v->∃k,v = .bl k/\Q k f:=λv f e x U=>by rw[yk T]at U;exact⟨kq,U,q0 f e x⟩
  obtain⟨x,C,B⟩:=zb B;obtain⟨y,E,B⟩:=zb B;obtain⟨k,L,B⟩:=zb B;obtain⟨W,N,Y⟩:=zb L;refine⟨h,g,x,rc,C,λv1 H1 as x1 r1=>⟨as,g,y,rc.ext x1,E,λl m u I j=>s1 u m v1 l x y W _ I.sub (r1.mono I.s0) j N λv3 n i x3 r3=>?_⟩⟩;cases W with
  | bl k'=>
   cases Y;refine⟨k,show v3 = .bl k from r3,?_⟩;cases k with
   | true=>
    rw[GY rfl];rw[GY rfl]at B;obtain⟨z,P,S⟩:=zb B;exact⟨i,g,z,((rc.ext x1).ext I).ext x3,P,λv4 o w O r4=>s2 w o l v4 y z d _ O.sub ((j.mono x3.s0).mono O.s0) r4 S λv5 p A x5 r5=>q v5 p A (((x1.trans I).trans x3).trans (O.trans x5)) r5⟩
   | false=>
    rw[MQ ⋯];rw[MQ ⋯]at B;cases B;exact q _ n i ((x1.trans I).trans x3) rfl
  | _=>cases Y
end
end DL
namespace DL
open PySem L2
noncomputable def cR(f:CO D)(γ:Ctx):Option (List D):=((f γ).bind hH).bind λn=>if inR n=b9/\n.toNat<=lim then b8 (xV 0 n.toNat)else cp
@[simp] def W3:=@cR.eq_1
noncomputable def eo(t z fs:List D):List D:=(t.zip<|z.zip fs).map λp=>D.tup [p.1,p.2.1,p.2.2]
noncomputable def lj(f g h:CO D)(γ:Ctx):Option (List D):=((f γ).bind jG).bind λm=>((g γ).bind jG).bind λn=>((h γ).bind jG).map λo=>eo m.2 n.2 o.2
@[simp] def gf:=@lj.eq_1
noncomputable def gO(f g:CO D)(γ:Ctx):Option (List D):=((f γ).bind jG).bind λm=>((g γ).bind jG).bind λn=>if m.2.length<=lim then b8 (K1 m.2 n.2)else cp
@[simp] def dP:=@gO.eq_1
noncomputable def Xp:List D->Option (List D×List D)
 | []=>b8 ([],[])
 | d::r=>match d with
  | .tup a=>match a with
   | [k,v]=>(Xp r).map λp=>(k::p.1,v::p.2)
   | _=>cp
  | _=>cp
noncomputable def gR(f:CO (List D))(γ:Ctx):Option D:=(f γ).bind λa=>(Xp a).bind λp=>fU p.1 p.2
@[simp] def dU:=@gR.eq_1
def fH:D->Option (List Int)
 | .tup a=>Kr a
 | _=>cp
noncomputable def bM:List D->Option (List<|List Int)
 | []=>b8 []
 | d::ds=>(fH d).bind λk=>(bM ds).map λr=>k::r
noncomputable def gQ(f:CO (List D))(γ:Ctx):Option D:=(f γ).bind λb=>(Xp b).bind λp=>(bM p.1).bind λa=>if a.Nodup/\a.length<=lim then b8 (.f7 a p.2)else cp
noncomputable def fO:List (List Int)->List D->List Int->Option D
 | k::ks,v::vs,i=>if k=i then b8 v else fO ks vs i
 | _,_,_=>cp
noncomputable def lE(t z:CO D)(γ:Ctx):Option D:=(t γ).bind λd=>(z γ).bind λk=>match d with
 | .f7 a b=>(fH k).bind λi=>fO a b i
 | _=>cp
noncomputable def fN(d k x:D):Option D:=match d with
 | .f7 a b=>(fH k).map λi=>(fO a b i).getD x
 | _=>cp
noncomputable def lA(t z B:CO D)(γ:Ctx):Option D:=(t γ).bind λd=>(z γ).bind λk=>(B γ).bind λx=>fN d k x
noncomputable def lz(f:CO D)(γ:Ctx):Option (List D):=(f γ).bind λd=>match d with
 | .f7 a _=>b8 (a.map λk=> .tup (k.map .int))
 | _=>cp
section
variable(γ:Ctx)
@[simp] def dS:=@gQ.eq_1
@[simp] def gB:=@lE.eq_1
@[simp] def gx:=@lA.eq_1
@[simp] def gu:=@lz.eq_1
end
noncomputable def hU:List (List Int)->List Int->List Int->Option Int
 | k::ks,n::ns,i=>if k=i then b8 n else hU ks ns i
 | _,_,_=>cp
noncomputable def eqT(t:List (List Int))(C:List Int)(z:List (List Int))(B:List Int):Bool:=decide (t.length=z.length) && (t.zip C).all λx=>decide<|hU z B x.1=b8 x.2
noncomputable def ia(d e:D):Option Bool:=match d with
 | .f7 a f=>match e with
  | .f7 z B=>(Kr f).bind λb=>(Kr B).map λI=>eqT a b z I
  | _=>cp
 | _=>cp
@[simp] def mC(d e:D):Option D:=(ia d e).map D.bl
@[simp] def mB(d e:D):Option D:=(ia d e).map λb=>D.bl<|!b
noncomputable def ly(f:CO D)(γ:Ctx):Option D:=(f γ).bind λd=>match d with
 | .f7 a _=>b8 (.int a.length)
 | _=>cp
@[simp] def gr:=@ly.eq_1
abbrev TT:=List (List (List Int))
open PySem.Spec PyProof.Rows
inductive Pl where
 | out | tab (k:Nat) | row (k m:Nat)
deriving DecidableEq
section
variable{K:mD}{al:List (Nat×Pl)}{E0 E H0 H n4 H':Hp}{σ Bq:St}{γ γ':Ctx}{Z:TT}{ad:Pl->c8}
open Classical in
end
open Classical in
section
variable{H:Hp}{Z:TT}{ad:Pl->c8}
end
section
variable{X:Cx}{sc:ep}{N L:List Str}{k j i n w:Nat}{st:e7}{xu:List e7}{e e2:dV}{es:List dV}{f:CO D}{g:CO (List D)}{pos p:d9}{x:Str}{al:List (Nat×Pl)}
theorem bD{E H:Hp}{c:c8}(s:ei E H)(h:H c=cp):E c=cp:=by
 cases q:E c with
 | none=>rfl
 | some o=>rw[s c o q]at h;cases h
end
section
variable{X:Cx}{sc:ep}{N L:List Str}{k j n i:Nat}{a b c e:dV}{es:List dV}{f:CO D}{g:CO (List D)}{p pos:d9}{x:Str}{st By Bz:e7}{xu:List e7}{F:List D->Option Res}
open Classical in
def p3(H:Hp)(p:c8):Hp:=λc=>if c=p then cp else H c
theorem uC{H:Hp}{p c:c8}(h:c≠p):p3 H p c=H c:=MQ h
end
mutual
def xg:D->Bool
 | .tup a=>ua a
 | .lst a=>ua a
 | .hA _ _=>cq
 | .f7 _ _=>cq
 | _=>b9
def ua:List D->Bool
 | []=>b9
 | x::xs=>xg x && ua xs
end
mutual
theorem Rep.less{K:mD}{H:Hp}{p:c8}{t:d6->Prop}(B:H p=b8 (.ext t)) : ∀{d:D} {v:V},xg d=b9->Rep K H d v->Rep K (p3 H p) d v
 | .ea,_,_,h=>h
 | .bl _,_,_,h=>h
 | .int _,_,_,h=>h
 | .str _,_,_,h=>h
 | .tup ds,v,n,h=>by
  obtain⟨a,b,f,g,i⟩:=(show ∃a b,v = .ref a/\eu K H a b/\dy K H ds b from h);refine(show ∃a b,v = .ref a/\eu K (p3 H p) a b/\dy K (p3 H p) ds b from⟨a,b,f,?_,dy.less B n i⟩);have z : ∀{u:HO},(∀t,u ≠ .ext t)->H a=b8 u->a≠p:=λI q e=>by rw[e,B]at q;exact I _ (nA q).symm
  rcases g with(hq | ⟨o',hq⟩) | hq
  ·exact .inl (.inl<|by rw[uC (z (λ_=>by simp) hq)];exact hq)
  ·exact .inl<|.inr ⟨o',by rw[uC (z (λ_=>by simp) hq)];exact hq⟩
  ·exact .inr hq
 | .lst ds,v,n,h=>by
  obtain⟨a,b,f,g,i⟩:=(show ∃a b,v = .ref a/\el K H a b/\dy K H ds b from h);refine(show ∃a b,v = .ref a/\el K (p3 H p) a b/\dy K (p3 H p) ds b from⟨a,b,f,?_,dy.less B n i⟩);have z : ∀{u:HO},(∀t,u ≠ .ext t)->H a=b8 u->a≠p:=λI q e=>by rw[e,B]at q;exact I _ (nA q).symm
  rcases g with(hq | ⟨o',hq⟩) | hq
  ·exact .inl (.inl<|by rw[uC (z (λ_=>by simp) hq)];exact hq)
  ·exact .inl<|.inr ⟨o',by rw[uC (z (λ_=>by simp) hq)];exact hq⟩
  ·exact .inr hq
 | .hA _ _,_,n,_=>nomatch n
 | .f7 _ _,_,n,_=>nomatch n
theorem dy.less{K:mD}{H:Hp}{p:c8}{C:d6->Prop}(z:H p=b8 (.ext C)) : ∀{t:List D} {xs:List V},ua t=b9->dy K H t xs->dy K (p3 H p) t xs
 | [],_,_,h=>h
 | d::t,xs,n,h=>by obtain⟨x,r,a,b,e⟩:=(show ∃x r,xs=x::r/\Rep K H d x/\dy K H t r from h);have n:(xg d && ua t)=b9:=n;rw[mR]at n;exact(show ∃x r,xs=x::r/\Rep K (p3 H p) d x/\dy K (p3 H p) t r from⟨x,r,a,Rep.less z n.1 b,dy.less z n.2 e⟩)
end
section
variable{X:Cx}{sc:ep}{N L:List Str}{k j n i:Nat}{a b c e:dV}{es:List dV}{g:CO (List D)}{p pos:d9}{x y:Str}{st:e7}{body xu:List e7}{F:List D->Option Res}
open Classical in
end
noncomputable def yv(f:CO D)(g:CO (Sk×List D)):CO D:=λb=>(f b).bind λd=>(g b).bind λa=>match d with
 | .str x=>(yo a.2).map λl=> .bl (!l.any λy=>y==x)
 | _=>cp
section
variable{X:Cx}{sc:ep}{N L:List Str}{k j n i:Nat}{a b c e:dV}{es:List dV}{g:CO (List D)}{p pos:d9}{x:Str}{st:e7}{body xu:List e7}{F:List D->Option Res}
theorem Yu{C:ExceptHandler}{J:List ExceptHandler}{t:d9}{F:CO Fl}(h:ih X.tJ st F):ih X (.Try [st] (C::J) [] [] t) F:=by
 intro a s e H D I ⟨M,O,b,d,B,R,U,W⟩;refine wpAny_Try_except ?_;refine oC (zg h a s e H D (I.l6 _) ⟨M,O,b,d,_,R,U,W⟩) (λB f z=>?_) λ_ _ z=>z.elim;have z:=z.p9;cases B with
 | next=>exact rT z
 | ret v=>exact z
 | brk=>exact z
 | cont=>exact z
end
section
variable{X:Cx}{sc:ep}{N L:List Str}{k j n i:Nat}{a b c e:dV}{es:List dV}{g:CO (List D)}{p pos:d9}{x:Str}{st:e7}{body xu:List e7}{F:List D->Option Res}
theorem vt{c:dV}{t:CO D}(C:PV X a t){I:CO (Sk×List D)}(J:PQ X c I)(G:pa .NotIn c=cq:=by with_unfolding_all rfl):i8 X (.Compare a [.NotIn] [c] pos) (sB<|yv t I):=
 XT (XS Zc C J G) λP H Q M=>by
  obtain⟨h,g,d,rc,z,q⟩:=M;obtain⟨E,O,R⟩:=zb z;obtain⟨x,m,z⟩:=zb O;obtain⟨⟨f,j⟩,n,z⟩:=zb z;cases x with
  | str w=>
   obtain⟨l,U,rfl⟩:=zo z;cases R;refine⟨h,g,_,rc,m,λW A Y x1 B=>⟨Y,g,f,j,rc.ext x1,n,λp N b i u e F r=>?_⟩⟩;have o:=xQ r U;subst o;have s:el X.K b p (l.map V.str)\/eu X.K b p (l.map V.str):=by
    cases f with
    | L=>exact .inl e
    | T=>exact .inr e
   have B:W = .str w:=B;subst B;refine⟨p,_,rfl,s,rfl,yn l,?_⟩;have:rp (.str w) (l.map V.str)=l.any λy=>y==w:=by unfold rp;rw[List.any_map];rfl
   rw[this];exact⟨_,rfl,q b i<|x1.trans u⟩
  | _=>cases z
end
def jR(i:Int):Str:=mV<|toString i
noncomputable def qe(f:CO D):CO D:=λa=>((f a).bind hH).bind λi=>if inR i=b9 then b8 (.str<|jR i)else cp
noncomputable def ZK(f g:CO D):CO D:=λa=>(f a).bind λd=>(g a).bind λe=>match d,e with
 | .str x,.str y=>b8 (.bl<|rQ x y)
 | _,_=>cp
noncomputable def bZ(d:D):Option Str:=match d with
 | .int i=>if inR i=b9 then b8 (jR i)else cp
 | .str x=>if zm x=b9 then b8 x else cp
 | _=>cp
def QO(f:CO D):CO D:=λa=>((f a).bind bZ).map .str
noncomputable def W2(d:D):Option Str:=match d with
 | .str x=>if zm x=b9 then b8 x else cp
 | _=>cp
noncomputable def wR(fs:List (CO D))(out:Str):CO D:=λa=>match fs with
 | []=>b8 (.str out)
 | f::r=>((f a).bind W2).bind λx=>wR r (out++x) a
noncomputable def xU(fs:List (CO D)):CO D:=λa=>if fs.length<=10 then wR fs pq a else cp
noncomputable def Yl(B I:Str)(t C f:CO D):CO D:=λa=>(t a).bind λx=>(C a).bind λy=>(f a).bind λd=>match d with
 | .str z=>if B=I then cp else if z=B then b8 x else if z=I then b8 y else cp
 | _=>cp
noncomputable def ZS(n:Nat)(lo hi st:Option Int):List Nat:=sliceRange (sliceBounds lo hi st n).1 (sliceBounds lo hi st n).2.1 (sliceBounds lo hi st n).2.2
noncomputable def qz{t:Type}(xs:List t)(lo hi st:Option Int):List t:=(ZS xs.length lo hi st).filterMap λi=>xs[i]?
noncomputable def XA(f:CO (Sk×List D))(l h s:CO (Option Int)):CO (List D):=λb=>(f b).bind λa=>(l b).bind λlo=>(h b).bind λd=>(s b).bind λst=>match a.1 with
 | .L=>if st=b8 0 then cp else if (qz a.2 lo d st).length<=lim then b8 (qz a.2 lo d st)else cp
 | .T=>cp
noncomputable def kN(f g:CO D):CO (List D):=λa=>(f a).bind λd=>(g a).bind λe=>match d,e with
 | .str x,.str y=>if x.length<=20000/\(y.length==0)=cq then b8 ((oM x y).map D.str)else cp
 | _,_=>cp
noncomputable def y9(f:CO D):CO D:=λa=>(f a).bind λd=>match d with
 | .str x=>if x.length<=640 then (pS x).map D.int else cp
 | _=>cp
noncomputable def XE(f g:CO D):CO D:=λa=>(f a).bind λd=>(g a).bind λe=>match d,e with
 | .str x,.str y=>b8 (.bl<|!(nF y x 0 y.length 1).isEmpty)
 | _,_=>cp
end DL
namespace L2
open PySem PySem.Spec PyProof.Rows
theorem Kf{X:Cx}:ur X "str.startswith" (λx C H Q=>∃z y,x = .str z/\C=[.str y]/\Q (.bl (rQ z y)) H):=by intro a s d H x C v b Q I B J h;obtain⟨z,y,rfl,rfl,q⟩:=h;obtain⟨t,rfl⟩:=B;obtain⟨u,rfl,M,rfl⟩:=kr J;exact PySem.SC.startswith ⟨.bl _,H,I,rfl,q⟩
theorem vh : ∀l:List (Str×Tok),d5 ((l.map (·.1)).map V.str) (strValues l)
 | []=> .nil
 | (z,t)::l=> .cons ⟨t,rfl⟩ (vh l)
theorem YJ{X:Cx}:ur X "str.split" (λx C H Q=>∃z y,x = .str z/\C=[.str y]/\(y.length==0)=cq/\z.length<=20000/\∀l,H l=cp->Q (.ref l) (upd H l (.lst ((oM z y).map V.str)))):=by
 intro a s f H x C v i Q I R U h;obtain⟨z,y,rfl,rfl,M,Y,q⟩:=h;obtain⟨t,rfl⟩:=R;obtain⟨u,rfl,B,rfl⟩:=kr U;have big:30000<=ej:=by decide
 have J : ∀(l:List (Str×Tok)) (k:Nat),l.map (·.1)=oM z y->l.length<=ej->EP X a f Q (.ref s.heap.objs.size) {s with heap:=s.heap.push {cls:= .type "list",data:= .seq (strValues l).toArray},toks:=k}:=λl k e W=>by have O:=vh l;rw[e]at O;exact⟨.ref s.heap.objs.size,_,I.An O (by rw[<- e];simpa using W),rfl,q _ (I.d7.fresh (mN _))⟩
 cases c1:(decide (z.length<y.length) || decide (Builtin.Str.strKind z<Builtin.Str.strKind y))with
 | true=>
  have b:oM z y=[z]:=GY c1;refine px sN (rD _ _ _) sL (sE _ _) (meets_str_split_cannot_occur z y t B c1) ?_;exact J [(z,t)] s.toks (by rw[b];rfl) (by simp;omega)
 | false=>
  cases c2:(nF z y 0 z.length<|z.length+1).isEmpty with
  | true=>
   have b:oM z y=[z]:=(MQ<|by rw[c1];simp).trans (GY c2);refine px sN (rD _ _ _) sL (sE _ _) (meets_str_split_not_found z y t B c1 M c2) ?_;exact J [(z,t)] s.toks (by rw[b];rfl) (by simp;omega)
  | false=>
   have b:oM z y=pJ z (nF z y 0 z.length<|z.length+1) y.length:=(MQ<|by rw[c1];simp).trans (MQ<|by rw[c2];simp);have d:(pJ z (nF z y 0 z.length<|z.length+1) y.length).length<=ej:=by have g:=StrLaws.occ_length_le z y 0 z.length<|z.length+1;rw[length_partsBetween];omega
   refine px sN (rD _ _ _) sL (sE _ _) (meets_str_split_sep z y t B c1 M c2 ⋯ d) ?_;rw[strsFrom_eq];exact J (numbered s.toks _) _ ((numbered_texts _ _).trans b.symm) (by
    have:=congrArg List.length<|numbered_texts s.toks<|pJ z (nF z y 0 z.length<|z.length+1) y.length;rw[mZ]at this;rw[this];exact d)
end L2
namespace DL
open PySem PySem.Spec PyProof.Rows L2
theorem Zi{i:Int}(h:inR i=b9):i.natAbs.log2<1920:=by
 unfold inR at h;have h:=of_decide_eq_true h;by_cases z:i.natAbs=0
 ·rw[z];decide
 ·refine(Nat.log2_lt z).mpr (mU h ?_)
  exact Nat.pow_le_pow_right ⋯ ⋯
section
variable{X:Cx}{sc:ep}{N L:List Str}{k:Nat}{a b e o:dV}{f g:CO D}{p pos:d9}
theorem qT(h:SX X sc N L k)(c:xE sc "str" = b9)(z:X.mg "str" = cp)(J:PV X e f)(I:eg [e] X.env=[(cq,d1 e X.env)]:=by rfl):PV X (.Call (.Name "str" p) [e] [] pos) (qe f):=
 z9 (x9 Zs (h.gl c).1 z PyProof.Rows.boot_str (jl J j0 I) ⋯ ⋯ I rfl) λn H Q M=>by
  obtain⟨l,m,d,rc,B,q⟩:=M;obtain⟨i,b,B⟩:=zb B;obtain⟨O,R,b⟩:=zb b;by_cases g:inR i=b9
  ·rw[GY g]at B;cases B
   refine⟨l,m,O,rc,R,λv j a x r=>?_⟩;rw[qj b]at r;exact⟨i,by rw[jg r],Zi g,q _ j a x rfl⟩
  ·rw[MQ g]at B;cases B
theorem XM{t cpos:d9}(J:PV X o f)(M:PV X e g)(O:uw o "startswith" X.env (d1 o X.env)=d1 o X.env:=by rfl)
 (R:((i5 cpos<|starEach [e] X.env).all (λx=> !x.1) && (ux cpos<|keywordEach [] X.env).all (λx=>x.1.isSome) && decide ([e].length+([]:List o6).length+(if ([]:List o6).isEmpty then 0 else 1)<30))=b9:=by rfl)
 (U:(t.endLine==cpos.line)=b9:=by rfl) (I:eg [e] X.env=[(cq,d1 e X.env)]:=by rfl):PV X (.Call (.Attribute o "startswith" t) [e] [] cpos) (ZK f g):=
 z9 (YE rq PySem.F.slot_str_startswith PySem.F.type_str_startswith Kf J (jl M j0 I) O R U I rfl) λA H Q W=>by
  obtain⟨h,b,d,rc,B,q⟩:=W;obtain⟨Y,m,B⟩:=zb B;obtain⟨l,n,B⟩:=zb B;cases Y with
  | str z=>
   cases l with
   | str y=>
    cases B;refine⟨h,b,_,rc,m,λv w a x r=>?_⟩;rw[show v = .str z from r];refine⟨rfl,a,b,_,rc.ext x,n,λs i j u p=>?_⟩;rw[show s = .str y from p];exact⟨z,y,rfl,rfl,q _ i j (x.trans u) rfl⟩
   | _=>cases B
  | _=>cases B
theorem JL{j:Int}(W:j = -1)(C:PV X a f):PV X (.FormattedValue a j cp pos) (QO f):=by
 subst W;intro m s L H Q I J;obtain⟨u,G,d,rc,Y,q⟩:=J;obtain⟨y,g,rfl⟩:=zo Y;obtain⟨M,w,g⟩:=zb g;refine FormattedValue_plain<|d3 (C m s L H (λv p=>∃h,Ext u H h p/\Rep X.K h M v) I ⟨u,G,M,rc,w,λv p h x r=>⟨h,x,r⟩⟩) λv E J=>?_;obtain⟨x,n,O,B,R,x1,U⟩:=J;cases M with
 | int i=>
  have g:(if inR i=b9 then b8 (jR i)else cp)=b8 y:=g;by_cases l:inR i=b9
  ·rw[GY l]at g;cases g
   rw[show x = .int i from U]at B;obtain⟨t,rfl⟩:=B;exact formatField_int_small (Zi l) ⟨.str _,n,(O.tok _).tok _,⟨_,rfl⟩,q _ n R x1 rfl⟩
  ·rw[MQ l]at g;cases g
 | str z=>
  have g:(if zm z=b9 then b8 z else cp)=b8 y:=g;by_cases l:zm z=b9
  ·rw[GY l]at g;cases g
   have A:x = .str _:=U;rw[A]at B;obtain⟨t,rfl⟩:=B;exact formatField_str (λt' F=>⟨.str _,n,(O.kept (h':=E.heap) (t':=F) λb o e=>e),⟨_,rfl⟩,q _ n R x1 rfl⟩)<|xf l
  ·rw[MQ l]at g;cases g
 | _=>cases g
theorem WS(x y:Str):(x++y).length=x.length+y.length:=by
 show(x++y).cps.size=x.cps.size+y.cps.size;have:=congrArg List.length (show(x++y).cps.toList=x.cps.toList++y.cps.toList from by
  show(x.cps++y.cps).toList=_;simp)
 simpa using this
noncomputable def PJ(X:Cx)(t:List dV)(fs:List (CO D)):Prop:=∀(out:Str) (m:Nat) a s e H Q,out.length<=1000*m->m+fs.length<=10->Inv X a e H s->(∃g h d,RC X.K g H e h/\wR fs out h=b8 d/\∀v f b,Ext g H b f->Rep X.K b d v->Q v f)->
 wpAny (d4 X.prog X.w) X.A (joinParts out<|evalEach t X.env) (EP X a e Q) X.xe s
theorem JP:PJ X [] []:=λout m a s g H Q z e I B=>by obtain⟨b,f,d,rc,J,q⟩:=B;cases J;exact joinParts_nilE<|joinParts_nil ⟨.str out,H,I.tok _,⟨_,rfl⟩,q _ H b (Ext.refl rc.sub) rfl⟩<|nc z<|nc (Nat.mul_le_mul_left 1000<|show m<=10 by simp at e;omega) ⋯
theorem qr{C:List dV}{fs:List (CO D)}(G:PV X e f)(S:PJ X C fs):PJ X (e::C) (f::fs):=λout m g s n H Q T A I J=>by
 obtain⟨l,i,d,rc,B,q⟩:=J;have B:((f i).bind W2).bind (λx=>wR fs (out++x) i)=b8 d:=B;obtain⟨y,b,B⟩:=zb B;obtain⟨M,U,b⟩:=zb b;have w:M = .str y/\zm y=b9:=by
  cases M with
  | str z=>
   have b:(if zm z=b9 then b8 z else cp)=b8 y:=b;by_cases j:zm z=b9
   ·rw[GY j]at b;cases b;exact⟨rfl,j⟩
   ·rw[MQ j]at b;cases b
  | _=>cases b
 obtain⟨rfl,W⟩:=w;have P:=xh W;have Y:m+1+fs.length<=10:=by simp at A;omega
 have O:(out++y).length<=1000*(m+1):=by rw[WS];omega
 refine joinParts_consE<|joinParts_cons<|d3 (G g s n H (λv h=>∃a,Ext l H a h/\Rep X.K a (.str y) v) I ⟨l,i,_,rc,U,λv h a x r=>⟨a,x,r⟩⟩) λv L J=>?_;obtain⟨x,o,p,R,u,x1,F⟩:=J;rw[show x = .str y from F]at R;obtain⟨t,rfl⟩:=R;exact⟨nc O<|nc (Nat.mul_le_mul_left 1000<|show m+1<=10 by omega) ⋯,S (out++y) (m+1) g L n o Q O Y p ⟨u,i,d,rc.ext x1,B,λv h a N E=>q v h a (x1.trans N) E⟩⟩
theorem vL{t C:dV}{G:List dV}{fs:List (CO D)}(h:PJ X (t::C::G) fs):PV X (.JoinedStr (t::C::G) pos) (xU fs):=by
 intro a s f H Q I J;obtain⟨b,e,d,rc,z,q⟩:=J;unfold xU at z;by_cases B:fs.length<=10
 ·rw[GY B]at z
  exact JoinedStr_many<|h pq 0 a s f H Q (mN _) ⋯ I ⟨b,e,d,rc,z,q⟩
 ·rw[MQ B]at z;cases z
theorem JO{t cpos:d9}(R:PV X o f)(U:PV X e g)(W:uw o "split" X.env (d1 o X.env)=d1 o X.env:=by rfl)
 (Y:((i5 cpos<|starEach [e] X.env).all (λx=> !x.1) && (ux cpos<|keywordEach [] X.env).all (λx=>x.1.isSome) && decide ([e].length+([]:List o6).length+(if ([]:List o6).isEmpty then 0 else 1)<30))=b9:=by rfl)
 (a0:(t.endLine==cpos.line)=b9:=by rfl) (O:eg [e] X.env=[(cq,d1 e X.env)]:=by rfl):PO X (.Call (.Attribute o "split" t) [e] [] cpos) (kN f g):=
 z9 (YE rq PySem.F.slot_str_split PySem.F.type_str_split YJ R (jl U j0 O) W Y a0 O rfl) λE H Q s=>by
  obtain⟨d,b,m,rc,B,q⟩:=s;obtain⟨i,n,B⟩:=zb B;obtain⟨j,p,B⟩:=zb B;cases i with
  | str z=>
   cases j with
   | str y=>
    have B:(if z.length<=20000/\(y.length==0)=cq then b8 ((oM z y).map D.str)else cp)=b8 m:=B;by_cases I:z.length<=20000/\(y.length==0)=cq
    ·rw[GY I]at B;cases B
     refine⟨d,b,_,rc,n,λv A a x r=>?_⟩;rw[show v = .str z from r];refine⟨rfl,a,b,_,rc.ext x,p,λw C h J u=>?_⟩;rw[show w = .str y from u];refine⟨z,y,rfl,rfl,I.2,I.1,λl M=>?_⟩;exact q l _ _ h ((x.trans J).trans (Ext.hide J.sub M _)) (bD (x.trans J).s1 M) (ji J.sub M) zE<|qS _
    ·rw[MQ I]at B;cases B
   | _=>cases B
  | _=>cases B
theorem KI{X:Cx}:vf X (.type "int") (λxs H Q=>∃z n,xs=[.str z]/\pS z=b8 n/\z.length<=640/\Q (.int n) H):=by intro a s e H xs d Q I r h;obtain⟨z,n,rfl,b,B,q⟩:=h;obtain⟨u,rfl,t,rfl⟩:=kr r;exact PySem.W.KIN.call_text b B ⟨.int n,H,I.tok _,⟨_,rfl⟩,q⟩
theorem ZP(h:SX X sc N L k)(c:xE sc "int" = b9)(z:X.mg "int" = cp)(O:PV X e f)(J:eg [e] X.env=[(cq,d1 e X.env)]:=by rfl):PV X (.Call (.Name "int" p) [e] [] pos) (y9 f):=
 z9 (x9 KI (h.gl c).1 z pV (jl O j0 J) ⋯ ⋯ J rfl) λm H Q R=>by
  obtain⟨g,l,d,rc,B,q⟩:=R;obtain⟨M,i,B⟩:=zb B;refine⟨g,l,M,rc,i,λv b a ext r=>?_⟩;cases M with
  | str w=>
   have B:(if w.length<=640 then (pS w).map D.int else cp)=b8 d:=B;by_cases I:w.length<=640
   ·rw[GY I]at B
    obtain⟨n,j,rfl⟩:=zo B;exact⟨w,n,by rw[show v = .str w from r],j,I,q _ b a ext rfl⟩
   ·rw[MQ I]at B;cases B
  | _=>cases B
theorem Wf(t:PV X a f)(I:PV X b g)(C:pa .In b=cq:=by with_unfolding_all rfl):PV X (.Compare a [.In] [b] pos) (XE f g):=
 z9 (vP Ka t I C) λo H Q J=>by
  obtain⟨i,h,d,rc,B,q⟩:=J;obtain⟨M,l,B⟩:=zb B;obtain⟨O,m,B⟩:=zb B;cases M with
  | str z=>
   cases O with
   | str y=>
    cases B;exact⟨i,h,_,rc,l,λv n e x r=>⟨e,h,_,rc.ext x,m,λY j R U W=>⟨z,y,r,W,q _ j R (x.trans U) rfl⟩⟩⟩
   | _=>cases B
  | _=>cases B
end
theorem ZH{xs:List V}{t:List di}(h:d5 xs t) : ∀l:List Nat,d5 (l.filterMap λi=>xs[i]?) (l.filterMap λi=>t[i]?)
 | []=> .nil
 | i::l=>by
  by_cases a:i<xs.length
  ·obtain⟨u,e,r⟩:=h.get (mO a)
   rw[nY (mO a),nY e];exact .cons r<|ZH h l
  ·have z : ¬i<t.length:=by rw[<- h.length];exact a
   rw[oA (oK ⋯),oA (oK ⋯)];exact ZH h l
theorem ZO{K:mD}{H:Hp}{t:List D}{xs:List V}(h:dy K H t xs) : ∀l:List Nat,dy K H (l.filterMap λi=>t[i]?) (l.filterMap λi=>xs[i]?)
 | []=>dy.nil
 | i::l=>by
  by_cases a:i<t.length
  ·obtain⟨u,e,r⟩:=h.get (mO a)
   rw[nY (mO a),nY e];exact dy.cons r<|ZO h l
  ·have z : ¬i<xs.length:=by rw[h.length];exact a
   rw[oA (oK ⋯),oA (oK ⋯)];exact ZO h l
noncomputable def iU(K:mD)(t:TE)(G C B:TO):TE:=λb H Q=>t b H λx e=>G b e λl f=>C b f λu I=>B b I λk z=>k≠b8 0/\∃a d,x = .ref a/\el K z a d/\(qz d l u k).length<=ej/\∀p,z p=cp->Q (.ref p) (upd z p<|.lst<|qz d l u k)
section
variable{X:Cx}{a e:dV}{p2 pos:d9}
theorem X6{lo hi:Option dV}{st:dV}{t:TE}{G C M:TO}(R:PE X e t)(U:L2.PO X lo G)(W:L2.PO X hi C)(Y:L2.PO X (b8 st) M):PE X (.Subscript e (.Slice lo hi (b8 st) p2) pos) (iU X.K t G C M):=by
 intro a s d H Q I h;refine uS (d3 (R a s d H _ I h) λv s1 E=>?_);obtain⟨x,g,n,r1,q1⟩:=E;refine wpAny_Slice (d3 (U a s1 d g _ n q1) λvl s2 ⟨l,i,o,Z,q2⟩=>d3 (W a s2 d i _ o q2) λvu s3 ⟨u,j,p,pu,q3⟩=>d3 (Y a s3 d j _ p q3) λvk z ⟨f,m,w,S,q4⟩=>?_);obtain⟨P,b,xs,rfl,N,y,q⟩:=q4;cases r1;have B:Inv X a d m {z with heap:=z.heap.push {cls:= .type "slice",data:= .fields #[vl,vu,vk]}}:=w.kept (t':=z.toks) λb ob q=>mF _ q;obtain⟨J,r,O,bd⟩:=B.list N;have F:=r.length;refine tail_any (ops:=[.ref b,.ref z.heap.objs.size]) (T:="list") O.isList.typeIs slot_list_getitem.lookup ?_ (by with_unfolding_all rfl);refine wpAny_getItem_list_slice O.isList (Heap.IsSliceOf.new ..) Z pu S P ?_ (by rw[mT];omega);have A:slicePick J.toArray l u f=(qz J l u f).toArray:=by unfold slicePick qz ZS;simp
 rw[A];have L:d5 (qz xs l u f) (qz J l u f):=by unfold qz;rw[F];exact ZH r _
 exact⟨.ref _,_,B.An (t':=z.toks) L y,rfl,q _<|B.d7.fresh<|mN _⟩
theorem Vn{lo hi:Option dV}{st:dV}{t:CO (Sk×List D)}{O R fs:CO (Option Int)}(C:PQ X a t)(Z:L2.PO X lo (tB X.K O))(G:L2.PO X hi (tB X.K R))(S:L2.PO X (b8 st) (tB X.K fs)):PO X (.Subscript a (.Slice lo hi (b8 st) p2) pos) (XA t O R fs):=
 z9 (X6 C Z G S) λσ H Q A=>by
  obtain⟨i,e,n,rc,z,q⟩:=A;obtain⟨⟨E,d⟩,o,z⟩:=zb z;obtain⟨l,p,z⟩:=zb z;obtain⟨u,s,z⟩:=zb z;obtain⟨c,w,z⟩:=zb z;cases E with
  | T=>cases z
  | L=>
   have z:(if c=b8 0 then cp else if (qz d l u c).length<=lim then b8 (qz d l u c)else cp)=b8 n:=z;by_cases J:c=b8 0
   ·rw[GY J]at z;cases z
   rw[MQ J]at z;by_cases g:(qz d l u c).length<=lim
   ·rw[GY g]at z;cases z
    refine⟨i,e,.L,d,rc,o,λb h N f x y h2 r=>⟨f,e,l,rc.ext x,p,λP j B=>⟨j,e,u,(rc.ext x).ext B,s,λH3 m x3=>⟨m,e,c,((rc.ext x).ext B).ext x3,w,λH4 U I=>?_⟩⟩⟩⟩;have W:=x.trans<|B.trans<|x3.trans I;have Y:dy X.K U (qz d l u c) (qz h l u c):=by have F:=r.mono (B.trans<|x3.trans I).s0;unfold qz;rw[r.length];exact ZO F _
    refine⟨J,b,h,rfl,(B.trans<|x3.trans I).s1.seq y,nc (by rw[Y.length];exact g) ⋯,λpp M=>?_⟩;exact q pp _ _ U (W.trans<|Ext.hide I.sub M _) (Ke W.s1 M) (ji I.sub M) zE Y
   ·rw[MQ g]at z;cases z
end
theorem hG{K:mD}{C:GJ}{h:d6}{x z:Str}{t:Tok}(B:K.In h)(G:h.Ns iv C)(a:pL K iv x=b8 (b8 (.str z t))):GL K C x (.str z):=
 ⟨_,.str z,rf B G a,⟨t,rfl⟩,λ_=>(show V.str z = .str z from rfl)⟩
section
variable{X:Cx}{sc:ep}{N L:List Str}{k:Nat}{a b e:dV}{fa fb f:CO D}
theorem Wh{I J:Str}{j1 j2:Nat}{p1 p2 G pos:d9}(h:SX X sc N L k)(ha:PV X a fa)(hb:PV X b fb)(he:PV X e f)(hs:gJ e:=by intro _ _;rfl) :
 PV X (.Subscript (.Dict [b8 (.Constant (.str I) j1 p1),b8 (.Constant (.str J) j2 p2)] [a,b] G) e pos) (Yl I J fa fb f):=
 z9 (Wu (by have:=h.uO;omega) (Wt (JN X5 ha<|JN X5 hb Wm) rfl rfl ⋯ ⋯) he hs) λσ H Q hZ=>by
  obtain⟨t,s,d,rc,B,q⟩:=hZ;obtain⟨A,T,B⟩:=zb B;obtain⟨C,Z,B⟩:=zb B;obtain⟨S,e3,B⟩:=zb B;cases S with
  | str z=>
   have B:(if I=J then cp else if z=I then b8 A else if z=J then b8 C else cp)=b8 d:=B;by_cases U:I=J
   ·rw[GY U]at B;cases B
   rw[MQ U]at B;intro p n;have r:=Ext.hide rc.sub n<|.dK [];refine⟨t,s,A,rc.ext r,T,λM H1 F x1 r1=>⟨F,s,C,(rc.ext r).ext x1,Z,λO u j W r2=>?_⟩⟩;have Y:=r.trans<|x1.trans W;have h2:u p=b8 (.dK []):=(x1.trans W).s1 _ _ zE;have K:j p=cp:=(x1.trans W).new p (ji rc.sub n) (by rw[zE];simp);refine⟨h2,[(oo I,M),(oo J,O)],rfl,by simp,?_⟩;have x3:Ext t H j (upd u p<|.dK<|xw [] [((oo I:Key),M),(oo J,O)]):=⟨Y.s0,λc o g=>by rw[zC (λw=>by rw[w,n]at g;cases g)];exact Y.s1 c o g,λc o g=>by rw[zC (λw=>by rw[w,K]at g;cases g)];exact Y.sub c o g,Y.new⟩;refine⟨j,s,_,rc.ext x3,e3,λy i x R E=>?_⟩;have P:i p=b8 (.dK<|xw [] [((oo I:Key),M),(oo J,O)]):=R.s1 _ _ zE;have g:=tu.k (k:=oo z) P;by_cases l:z=I
   ·rw[GY l]at B;cases B
    rw[J0 U (v:=M) (.inl ⟨l,rfl⟩)]at g;exact⟨p,M,rfl,by rw[show y = .str z from E];exact g,q _ i x (x3.trans R)<|(r1.mono W.s0).mono R.s0⟩
   ·rw[MQ l]at B
    by_cases m:z=J
    ·rw[GY m]at B;cases B
     rw[J0 U (v:=O) (.inr ⟨m,rfl⟩)]at g;exact⟨p,O,rfl,by rw[show y = .str z from E];exact g,q _ i x (x3.trans R)<|r2.mono R.s0⟩
    ·rw[MQ m]at B;cases B
  | _=>cases B
end
def p4(e:dV):Str:=match e with | .Name x _=>x | _=>""
noncomputable def o3(e:dV):List Str:=match e with | .Tuple a _ _=>a.map p4 | e=>[p4 e]
noncomputable def ro(N:List Str)(fs:List Nat):List (Str×Nat):=fs.map λi=>(N.getD i "",i)
theorem Kx(N:List Str)(fs:List Nat):(ro N fs).map (·.2)=fs:=by unfold ro;rw[nL];exact List.map_id fs
def Vz(e:dV):Bool:=match e with | .Name _ _=>b9 | _=>cq
theorem QZ{e:dV}(h:Vz e=b9) : ∃p,e = .Name (p4 e) p:=by
 unfold Vz at h;split at h
 ·exact⟨_,rfl⟩
 ·cases h
noncomputable def gL(t:ep)(N L:List Str)(is:List Nat)(z:List dV):Bool:=match is with
 | [i,j]=>(match z with | [a,b]=>Vz a && (xN t N L i (p4 a) && (Vz b && xN t N L j (p4 b))) | _=>cq)
 | [i,j,l]=>(match z with | [a,b,c]=>Vz a && (xN t N L i (p4 a) && (Vz b && (xN t N L j (p4 b) && (Vz c && xN t N L l (p4 c))))) | _=>cq)
 | _=>cq
noncomputable def ug(t:ep)(N L:List Str)(e:dV)(T:Tg):Bool:=match T with
 | .nm i=>Vz e && xN t N L i (p4 e)
 | .tp is=>(match e with | .Tuple a _ _=>gL t N L is a | _=>cq)
theorem VZ{X:Cx}{t:ep}{N L:List Str}{k:Nat}(h:SX X t N L k){e:dV}{T:Tg}(c:ug t N L e T=b9):PG X e (n1 X.K T):=by
 cases T with
 | nm i=>
  have c:=Bool.and_eq_true_iff.mp c;obtain⟨p,q⟩:=QZ c.1;rw[q];exact h.tL _ c.2
 | tp is=>
  unfold ug at c;dsimp only at c;split at c
  ·next b j pos=>
   unfold gL at c;split at c
   ·split at c
    ·simp only[mR]at c
     obtain⟨z,B,b1,b2⟩:=c;obtain⟨p,q⟩:=QZ z;obtain⟨a,I⟩:=QZ b1;rw[q,I];exact h.AI<|x6 (h.tL _ B)<|x6 (h.tL _ b2) X3
    ·cases c
   ·split at c
    ·simp only[mR]at c
     obtain⟨z,B,b1,b2,J,M⟩:=c;obtain⟨p,q⟩:=QZ z;obtain⟨a,I⟩:=QZ b1;obtain⟨d,O⟩:=QZ J;rw[q,I,O];exact h.AI<|x6 (h.tL _ B)<|x6 (h.tL _ b2)<|x6 (h.tL _ M) X3
    ·cases c
   ·cases c
  ·cases c
noncomputable def cB(z scope:ep)(N:List Str)(t:dV)(T:Tg)(n:Nat)(fs:List Nat):Bool:=
 Jn z scope N (ro N fs) && (eL (o3 t) scope (ro N fs) && (decide (∀i∈T.idx,i<(o3 t).length) && (decide ((o3 t).length=n) && ug (qH scope z) (o3 t++(ro N fs).map (·.1)) (o3 t) t T)))
abbrev uy(X:Cx)(scope:ep)(N:List Str)(tg:dV)(fs:List Nat):=z6 X scope (o3 tg++(ro N fs).map (·.1))
abbrev SA(X:Cx)(sc scope:ep)(N:List Str)(tg:dV)(fs:List Nat)(k:Nat)(fp:List c8)(s2:d0)(H2:Hp):Prop:=SX (uy X scope N tg fs fp s2 H2) (qH scope sc) (o3 tg++(ro N fs).map (·.1)) (o3 tg) k
section
variable{X:Cx}{sc scope:ep}{N L:List Str}{k n i:Nat}{fs:List Nat}{T:Tg}{e elt tg iter Br:dV}{es:List dV}{pos p py spos cpos:d9}{x y:Str}{f g:CO D}{fo:CO (List D)}{src gl:CO (List D)}{kk:CO Bool}
theorem cA(h:SX X sc N L k)(c:cB sc scope N tg T n fs=b9):n3 X scope (ro N fs)/\(∀i∈T.idx,i<(o3 tg).length)/\(o3 tg).length=n/\(∀fp C t,SA X sc scope N tg fs k fp C t)/\∀fp C t,PG (uy X scope N tg fs fp C t) tg (n1 X.K T):=by unfold cB at c;simp only[mR,decide_eq_true_eq]at c;obtain⟨z,B,I,J,M⟩:=c;have s : ∀fp C t,SA X sc scope N tg fs k fp C t:=λfp C t=>h.comp B;exact⟨h.AX z,I,J,s,λfp C t=>VZ (s fp C t) M⟩
theorem qp(h:SX X sc N L k)(hi:sR X tg iter src)(z : ∀fp C t,SA X sc scope N tg fs k fp C t->PV (uy X scope N tg fs fp C t) elt f)(c:cB sc scope N tg T n fs=b9:=by decide +kernel)(B : ∀x,oe iter X.env x=pure x:=by intro _;rfl) :
 PO X (.ListComp elt [⟨tg,iter,[],0⟩] scope pos) (zN src T n fs jq f):=by
 obtain⟨a,b,d,s,q⟩:=cA h c;have r:=Wp (pos:=pos) h.calm a b hi q (λfp C t=>z fp C t<|s fp C t) B;rw[d,Kx]at r;exact r
theorem aQ(h:SX X sc N L k)(hi:sR X tg iter src)(z : ∀fp C t,SA X sc scope N tg fs k fp C t->PV (uy X scope N tg fs fp C t) elt f)(ct:xN sc N L i y=b9:=by decide +kernel)(c:cB sc scope N tg T n fs=b9:=by decide +kernel)(B : ∀x,oe iter X.env x=pure x:=by intro _;rfl) :
 PS X (.Assign [.Name y py] (.ListComp elt [⟨tg,iter,[],0⟩] scope cpos) spos) (K2 (tO X.K<|zN src T n fs jq f)<|kG i):=by
 obtain⟨a,b,d,s,q⟩:=cA h c;have r:=Be (cpos:=cpos) (spos:=spos) (py:=py) i h ct h.calm a b hi q (λfp C t=>z fp C t<|s fp C t) B;rw[d,Kx]at r;exact r
theorem zq(h:SX X sc N L k)(c:QI sc N i x=b9:=by decide +kernel):PV X (.Name x pos) (zf i):=aI i<|h.var c
theorem zU(h:SX X sc N L k)(c:QI sc N i x=b9:=by decide +kernel):PQ X (.Name x pos) (zk i):=aR i<|h.var c
theorem iS(h:SX X sc N L k)(c:ug sc N L e T=b9:=by decide +kernel):PG X e (n1 X.K T):=VZ h c
theorem jM(h:SX X sc N L k)(z:PV X e f)(c:xN sc N L i x=b9:=by decide +kernel)(B:p8 e (b8 (.Name x py)) pos.line X.env=pure cq:=by rfl):ih X (.Assign [.Name x py] e pos) (j8 i f):=XW i<|h.set i c z B
theorem vv(h:SX X sc N L k)(z:PO X e fo)(c:xN sc N L i x=b9:=by decide +kernel)(B:p8 e (b8 (.Name x py)) pos.line X.env=pure cq:=by rfl):ih X (.Assign [.Name x py] e pos) (yu i fo):=JM i<|h.set i c z B
theorem xY{t:List e7}{F:CO Fl}(z:X.xe=λ_ _=>False)(h:SX X sc N L k)(hi:i1 X tg iter src)(B:KZ X t F)(c:ug sc N L tg T=b9:=by decide +kernel)(I : ∀x,oe iter X.env x=pure x:=by intro _;rfl):ih X (.For tg iter t [] pos) (wQ src T F):=Wl (bt z) h.calm hi (VZ h c) B I
variable{j:Nat}{F:List D->Option Res}
theorem zI(z:e9 X.prog X.w X.K X.mg X.base j x n F)(h:SX X sc N L k)(t:ra X (e::es) n gl)(B:j<=k:=by decide)(c:xE sc x=b9:=by decide +kernel)
 (I:eg (e::es) X.env=(cq,d1 e X.env)::eg es X.env:=by rfl) (J:(i5 pos<|starEach es X.env).any (·.1)=cq:=by rfl):PV X (.Call (.Name x p) (e::es) [] pos) (zu F gl):=fv z B h c t I J
theorem aS(z:e9 X.prog X.w X.K X.mg X.base j x n F)(h:SX X sc N L k)(t:ra X (e::es) n gl)(B:j<=k:=by decide)(c:xE sc x=b9:=by decide +kernel)
 (I:eg (e::es) X.env=(cq,d1 e X.env)::eg es X.env:=by rfl) (J:(i5 pos<|starEach es X.env).any (·.1)=cq:=by rfl):PO X (.Call (.Name x p) (e::es) [] pos) (yz F gl):=fz z B h c t I J
end
noncomputable def qm:=jh 1<|zG (e5 (xr (zW<|sB<|XC<|zf 0)<|zW<|sB<|yy n9 n9 (zh<|.int 1) (yf<|zk 0)<|zh<|.int 6) (jv<|zh<|.bl cq) jd)<|zG (e5 (zW<|sB<|JH<|zV<|zN (zQ<|zk 0) (.nm 0) 1 [] jq (XF (zu jf<|zc (zf 0) zB)<|zv tD (zf 0)<|zh<|.int 0)) (jv<|zh<|.bl cq) jd)<|jv<|zv n9 (eQ<|zk 0)<|zh<|.int 30
noncomputable def qd:=jh 1<|zG (e5 (zW<|sB<|zu qm<|zc (zf 0) zB) qP jd)<|jv<|zY<|zk 0
noncomputable def qE:=jh 6 (zG (e5 (xr (zW (sB (zu jc (zc (zf 3) (zc (zh (.int 2)) zB))))) (sB (yv (dk (zk 3) (zh (.int 0))) (zO (zh (.tup [.str "r",.str "l"])))))) qP jd) (zG (j8 4 (dk (zk 3) (zh (.int 0)))) (zG (j8 5 (zu xl (zc (zf 0) (zc (dk (zk 1) (zu qM (zc (zf 2) (zc (zf 4) zB)))) (zc (dk (zk 1) (zu jU (zc (zf 2) (zc (zf 4) zB)))) (zc (dk (zk 3) (zh (.int 1))) zB)))))) (jv (yZ (zc (zf 4) (zc (zf 5) zB)))))))
noncomputable def qk:=jh 1 (jv (xp (zh (.str "/")) (zV (zN (zQ (zO (dk (zk 0) (zh (.int 2))))) (.nm 0) 1 [] jq (xp (zh (.str "")) (zV (zN (zQ (zk 0)) (.nm 0) 1 [] jq (qe (zf 0)))))))))
noncomputable def jY:=jh 2 (zG (j8 1 (zu qk (zc (dk (zk 0) (zh (.int 1))) zB))) (jv (WZ (sB (zv fk (dk (zk 0) (zh (.int 0))) (zh (.str "r")))) (xU [zh (.str "-"),QO (zf 1),zh (.str ">")]) (xU [zh (.str "<"),QO (zf 1),zh (.str "-")]))))
noncomputable def qC:=jh 5 (zG (j8 1 (dk (zk 0) (zh (.int 0)))) (zG (yu 2 (xT (zc (xU [QO (zf 1),zh (.str ":")]) (zc (qe (dk (zO (dk (zk 0) (zh (.int 1)))) (zh (.int 0)))) zB)))) (zG (wQ (WY (dk (zk 0) (zh (.int 2))) (ar (dk (zk 0) (zh (.int 1))) (e4 (zh (.int 1))) yw)) (.tp [3,4]) (zG (jk 2 (zu jY (zc (zf 3) zB))) (jk 2 (qe (zf 4))))) (jv (xp (zh (.str " ")) (zk 2))))))
noncomputable def jI:=jh 1 (jv (ay (zf 0) (zV (zN (zQ (zO (zh (.tup [.int 2,.int 3,.int 5,.int 7])))) (.nm 0) 1 [] jq (xU [QO (zf 0),zh (.str ":")])))))
noncomputable def jH:=jh 1<|jv<|ay (zf 0)<|zV<|zN (zT<|zv qf (zh<|.int 30)<|zh<|.int 1) (.nm 0) 1 [] jq (qe<|zf 0)
noncomputable def jJ:=jh 1 (zG (e5 (sB (yv (qG (JG (zf 0) yw (e4 (zh (.int 1)))) (JG (zf 0) (e4 (ZL (zh (.int 1)))) yw)) (zO (yZ (zc (zh (.str "->")) (zc (zh (.str "<-")) zB)))))) (jv (zh (.bl cq))) jd) (jv (JH (zV (zN (yt (JG (zf 0) (e4 (zh (.int 1))) (e4 (ZL (zh (.int 1)))))) (.nm 0) 1 [] jq (XE (zf 0) (zh (.str "0123456789/"))))))))
noncomputable def jP:=jh 2<|zG (e5 (sB<|zv fk (zf 0)<|zh<|.int 0) (jv<|zu jI<|zc (zf 1) zB) jd)<|zG (e5 (sB<|zv fk (zv qR (zf 0)<|zh<|.int 2)<|zh<|.int 1) (jv<|zu jH<|zc (zf 1) zB) jd)<|jv<|zu jJ<|zc (zf 1) zB
noncomputable def qN:=jh 3<|zG (wQ (yx<|zf 0) (.tp [1,2])<|e5 (zW<|sB<|zu jP<|zc (zf 1)<|zc (zf 2) zB) qP jd)<|e5 (sB<|zv fk (zv qR (yf<|zk 0)<|zh<|.int 2)<|zh<|.int 1) qP jd
def jX:=jh 1<|XB<|zN (yt<|zf 0) (.nm 0) 1 [] jq (y9<|zf 0)
noncomputable def jx:=jh 2 (zG (e5 (Ym (sB (zv fk (zf 0) (zh (.str "")))) (sB (zv fk (zf 1) (zh (.int 0))))) (XB (xT zB)) jd) (XB (zN (zQ (zV (kN (zf 0) (zh (.str "/"))))) (.nm 0) 1 [] jq (wA (yz jX (zc (zf 0) zB))))))
noncomputable def jQ:=jh 2<|jv<|JH<|zV<|zN (zQ<|zk 1) (.nm 0) 1 [0] jq (zv tE (zf 0)<|zf 1)
noncomputable def jo:=jh 6 (zG (j8 4 (WZ (sB (ZK (zf 3) (zh (.str "-")))) (zh (.str "r")) (zh (.str "l")))) (zG (j8 5 (wA (yz jx (zc (JG (zf 3) (e4 (zh (.int 1))) (e4 (ZL (zh (.int 1))))) (zc (dk (zk 1) (zu qM (zc (zf 2) (zc (zf 4) zB)))) zB))))) (zG (e5 (zW (sB (JH (zV (zN (zQ (zk 5)) (.nm 0) 1 [0] jq (zu jQ (zc (zf 1) (zc (zf 0) zB)))))))) qP jd) (jv (zu qE (zc (zf 0) (zc (zf 1) (zc (zf 2) (zc (yZ (zc (zf 4) (zc (zf 5) zB))) zB)))))))))
noncomputable def qD:=jh 5 (zG (j8 1 (wA (kN (zf 0) (zh (.str " "))))) (zG (aA (zu qN (zc (zf 1) zB))) (zG (j8 2 (y9 (JG (dk (zk 1) (zh (.int 0))) yw (e4 (ZL (zh (.int 1))))))) (zG (j8 3 (zu qd (zc (wA (zN (zQ (zV (XA (zk 1) (e4 (zh (.int 1))) yw (e4 (zh (.int 2)))))) (.nm 0) 1 [] jq (y9 (zf 0)))) zB))) (zG (j8 4 (wA (zN (yx (wA (XA (zk 1) (e4 (zh (.int 2))) yw (e4 (zh (.int 2)))))) (.tp [0,1]) 2 [2,3] jq (zu jo (zc (zf 2) (zc (zf 3) (zc (zf 0) (zc (zf 1) zB)))))))) (jv (yZ (zc (zf 2) (zc (zf 3) (zc (zY (zk 4)) zB))))))))))
noncomputable def uD:=(yu 1 (xT (zc (qG (qe (dk (zk 0) (zh (.int 0)))) (zh (.str ":"))) (zc (qe (dk (zO (dk (zk 0) (zh (.int 1)))) (zh (.int 0)))) zB))))
noncomputable def dg:=(au (.tp [3,4])<|dk (zO<|dk (zk 0)<|zh<|.int 2)<|zf 2)
noncomputable def df:=(j8 5 (xp (zh (.str "/")) (zV (zN (zQ (zO (dk (zk 4) (zh (.int 2))))) (.nm 0) 1 [] jq (xp (zh (.str "")) (zV (zN (zQ (zk 0)) (.nm 0) 1 [] jq (qe (zf 0)))))))))
noncomputable def de:=(jk 1 (Yl "r" "l" (qG (qG (zh (.str "-")) (zf 5)) (zh (.str ">"))) (qG (qG (zh (.str "<")) (zf 5)) (zh (.str "-"))) (zf 3)))
noncomputable def dc:=(jk 1<|qe<|dk (zO<|dk (zk 0)<|zh<|.int 1)<|zv qf (zf 2)<|zh<|.int 1)
noncomputable def xo:=jh 6 (zG uD (zG (wQ (zT (yf (zO (dk (zk 0) (zh (.int 2)))))) (.nm 2) (zG dg (zG df (zG de dc)))) (jv (xp (zh (.str " ")) (zk 1)))))
def vr:=(j8 3<|zv qf (k6<|zf 2)<|zh<|.int 1)
noncomputable def wb:=(j8 4<|zv qR (zu zy<|zc (zf 0)<|zc (zh<|.int 160) zB)<|zf 3)
noncomputable def wh:=(yu 5<|zN (zT<|zf 3) (.nm 0) 1 [0] jq (zv qR (zu zy<|zc (zf 1)<|zc (zv qf (zh<|.int 161)<|zf 0) zB)<|zh<|.int 2))
noncomputable def wy:=(Ve 5 (zf 4)<|zv qf (zh<|.int 9)<|zv qR (zu zy<|zc (zf 0)<|zc (zh<|.int 170) zB)<|zh<|.int 12)
def Aq:=(yu 6<|xT zB)
noncomputable def bH:=(j8 8<|yZ<|zc (dk (zk 5)<|zv qf (zf 7)<|zh<|.int 1)<|zc (dk (zk 5)<|zf 7) zB)
noncomputable def da:=(e5 (sB (zv fk (qg (zf 2) (zf 7)) (zh (.str "l")))) (j8 8 (yZ (zc (dk (zk 5) (zf 7)) (zc (dk (zk 5) (zv qf (zf 7) (zh (.int 1)))) zB)))) jd)
noncomputable def cZ:=(jk 6<|yZ<|zc (qg (zf 2)<|zf 7)<|zc (zu jm<|zc (zf 0)<|zc (zv qf (zh<|.int 171)<|zv yS (zh<|.int 23)<|zf 7)<|zc (zf 1)<|zc (dk (zk 8)<|zh<|.int 0)<|zc (dk (zk 8)<|zh<|.int 1) zB) zB)
noncomputable def xm:=jh 9<|zG vr<|zG wb<|zG wh<|zG wy<|zG Aq<|zG (wQ (zT<|k6<|zf 2) (.nm 7)<|zG bH<|zG da cZ)<|jv<|yZ<|zc (zf 1)<|zc (zY<|zk 5)<|zc (zY<|zk 6) zB
noncomputable def VX:=(j8 1<|dk (zV<|xT<|zc (zh<|.int 2)<|zc (zh<|.int 3)<|zc (zh<|.int 5)<|zc (zh<|.int 7) zB)<|zv qR (zu zy<|zc (zf 0)<|zc (zh<|.int 0) zB)<|zh<|.int 4)
noncomputable def VW:=(j8 2<|zu xn<|zc (zu zy<|zc (zf 0)<|zc (zh<|.int 1) zB) zB)
noncomputable def VU:=(j8 3<|zu km<|zc (zf 0)<|zc (zh<|.int 2)<|zc (zf 1)<|zc (zf 2)<|zc (zh<|.int 5) zB)
noncomputable def Xo:=(e5 (sB<|zv fk (zv qR (zv J2 (zu zy<|zc (zf 0)<|zc (zh<|.int 0) zB)<|zh<|.int 4)<|zh<|.int 6)<|zh<|.int 5) (j8 3<|zu xm<|zc (zf 0)<|zc (zf 1)<|zc (zf 2) zB) jd)
def VT:=(j8 4<|zu xo<|zc (zf 3) zB)
def VS:=(j8 5<|zu qC<|zc (zf 3) zB)
noncomputable def VR:=(e5 (xr (zW<|sB<|hI .str<|zf 5)<|xr (sB<|zv h6 (zf 5)<|zf 4)<|zW<|sB<|zu ql<|zc (zu qD<|zc (zf 4) zB)<|zc (zf 3) zB) (jv<|zh<|.bl cq) jd)
noncomputable def VQ:=(jv<|zv fk (zu qC<|zc (zu qD<|zc (zf 4) zB) zB)<|zf 4)
noncomputable def yY:=jh 6<|zG VX<|zG VW<|zG VU<|zG Xo<|zG VT<|zG VS<|zG VR VQ
abbrev Al(k:Sk)(xs:List D):D:=match k with | .T=>D.tup xs | .L=>D.lst xs
@[simp] theorem ik(k xs):jG (Al k xs)=b8 (k,xs):=by cases k<;>rfl
theorem Xk(k:Sk)(f:Nat->Int)(z:0<p)(t:n<=lim) :
 kK [.int p,Al k (z5 n f)]=b8 (.val<|.tup<|z5 n λi=>f i%p):=by
 simp[kK,jh,jj,qb,t,yG];unfold z5;rw[zw (r:=λi=>D.int<|f i%p)]
 ·simp
 ·intro i a
  refine zx rfl rfl ?_;simp[z]
theorem K0(f:Nat->Int)(z:0<p)(t:n<=lim) :
 kK [.int p,.lst (z5 n f)]=b8 (.val<|.tup<|z5 n λi=>f i%p):=Xk .L f z t
def yd(t:List Int):D:= .lst (t.map D.int)
mutual
theorem u0 : ∀d:D,hF d d=b9
 | .ea=>rfl
 | .bl b=>by simp[hF]
 | .int i=>by simp[hF]
 | .str x=>by simp[hF]
 | .tup e=>by simp only[hF];exact tG e
 | .lst e=>by simp only[hF];exact tG e
 | .hA a b=>by simp only[hF];rw[tG a,tG b];rfl
 | .f7 a b=>by simp only[hF];rw[tG b];simp
theorem tG : ∀t:List D,m2 t t=b9
 | []=>rfl
 | d::t=>by simp only[m2,u0 d,tG t,Bool.and_self]
end
theorem J1 : ∀{l:List D} {n:Nat},(∀d∈l,deep d<=n)->pk l<=n
 | [],n,_=>oO n
 | d::ds,n,h=>by simp only[pk];exact Nat.max_le.mpr ⟨h d mM,J1 λe z=>h e<|mQ _ z⟩
theorem YZ(n f):deep (.tup<|z5 n f)<=1:=by
 simp only[deep];have:pk (z5 n f)<=0:=J1 λd a=>by simp[z5]at a;obtain⟨i,_,rfl⟩:=a;exact mN _
 omega
theorem Kb : ∀{l:List D},(∀d∈l,h7 d=b9)->m4 l=b9
 | [],_=>rfl
 | d::ds,h=>by simp only[m4,h d mM,Kb λe z=>h e<|mQ _ z,Bool.and_self]
theorem Kc(h:deep d<=n)(z:n<=20)(t:h7 d=b9):g8 d=b9:=by unfold g8;rw[t,Bool.and_true];exact decide_eq_true<|nc h z
theorem Wy(n f):h7 (.tup<|z5 n f)=b9:=by
 simp only[h7];exact Kb λd a=>by simp[z5]at a;obtain⟨i,_,rfl⟩:=a;rfl
theorem Wz(n f):g8 (.tup<|z5 n f)=b9:=Kc (YZ n f) ⋯<|Wy n f
theorem wa(h:g8 d=b9):fk d d=b8 (.bl b9):=by unfold fk;rw[GY ⟨h,h⟩,u0]
theorem v9{d:D}(h:g8 d=b9):h6 d d=b8 (.bl cq):=by unfold h6;rw[GY ⟨h,h⟩,u0];rfl
theorem YK(xs:List D)(n:Nat)(B:xs.length=n)(C : ∀i (h:i<n),∃z,xs[i]'(B ▸ h) = .int z)(bd:n<=63)(k:Int)(G:0<=k)(be:k<100000) :
 ∃m,zy [.lst xs,.int k]=b8 (.val<|.int m)/\0<=m/\m<1000000007:=by
 have J:ZG k k=b9:=J7 k k ⋯ ⋯;have M:ZG (k*k) 7919=b9:=J6 _ _ ⋯ ⋯;have O : ∀z,ZG z 48271=b9:=λz=>J6 _ _ ⋯ ⋯;have R : ∀z,ZG z 69621=b9:=λz=>J6 _ _ ⋯ ⋯;have I:cu 10 9=b9:=by decide
 have d:cu 10 30=b9:=by decide
 by_cases l:n=0
 ·subst l
  simp[zy,jh,jj,z7,J,M,O,R,B];omega
 ·have P:(0:Int)<n:=by omega
  have U:0<n:=by omega
  obtain⟨i,b⟩:=og (oP k<|show(n:Int)≠0 by omega);have e:i<n:=by have:=ow k P;omega
  obtain⟨A,g⟩:=C i e;have w : ¬((n:Int)=0):=by omega
  by_cases K:n=1
  ·subst K
   have W:i=0:=by clear b;omega
   subst W;clear b;simp[zy,jh,jj,z7,J,M,O,R,I,d,B,g];omega
  ·obtain⟨X,r⟩:=C 0 U
   have W:g5 n 0=b8 0:=by have:=jN n 0;rw[GY U]at this;exact this
   have o:(0:Int)<(n:Int) - 1:=by omega
   have x:(1:Int)<(n:Int):=by omega
   have p:1<n:=by omega
   have y:(n:Int) - 1<1073741824:=by omega
   obtain⟨j,N⟩:=og (oP k<|show(n:Int) - 1≠0 by omega);have f:1+j<n:=by have:=ow k o;omega
   obtain⟨Z,H⟩:=C (1+j) f;have T:g5 n (1+(j:Int))=b8 (1+j):=by have:=jN n<|1+j;rw[GY f]at this;rw[<- this];congr 1
   have L:0<=k/((n:Int) - 1)/\k/((n:Int) - 1)<=k:=⟨Int.ediv_nonneg G ⋯,Int.ediv_le_self _ G⟩;obtain⟨t,Q⟩:=og L.1;have E:inR (t:Int)=b9:=kY ⋯ ⋯;by_cases u:X%2=1
   ·simp[zy,jh,jj,z7,J,M,O,R,w,x,U,b,e,B,g,r,W,o,p,y,u,N,f,T,H,Q,E,I,d,l,jS]
    rw[zF t λi=>(i:Int)];have F : ∀(m s:Nat) (v:Int) (c:Cell),∃Y a,kg (.nm 4) (j8 3<|zv J2 (zf 3)<|zv WI (zh<|D.int 10)<|zh<|D.int 9) ((List.range' s m).map λ(i:Nat)=>D.int i) [.val (.lst xs),.val<|.int k,.val<|.int A,.val<|.int v,c] =
     b8 (.next [.val (.lst xs),.val<|.int k,.val<|.int A,.val<|.int Y,a]):=by
     intro m
     induction m with
     | zero=>intro s v c;exact⟨v,c,rfl⟩
     | succ m S=>
      intro s v c;rw[List.range'_succ,nj,kH];obtain⟨Y,a,h⟩:=S (s+1) (v/10 ^ 9)<|.val<|.int s;refine⟨Y,a,?_⟩;rw[<- h];simp[I]
    obtain⟨Y,a,h⟩:=F t 0 Z .no;rw[<- List.range_eq_range']at h;rw[h];simp[I];omega
   ·simp[zy,jh,jj,z7,J,M,O,R,w,x,U,b,e,B,g,r,W,o,p,y,u,I,d,l]
    omega
theorem bG(t:List Int)(C:t.length<=63)(k:Int)(z:0<=k)(B:k<100000) : ∃m,zy [yd t,.int k]=b8 (.val<|.int m)/\0<=m/\m<1000000007:=
 YK (t.map D.int) t.length ⋯ (λi a=>⟨t[i],by simp⟩) C k z B
noncomputable def yJ(t:List Int)(k:Int):Int:=match zy [yd t,.int k]with
 | some (.val<|.int m)=>m
 | _=>0
theorem yI{t:List Int}(C:t.length<=63){k:Int}(z:0<=k)(B:k<100000):zy [yd t,.int k]=b8 (.val<|.int<|yJ t k)/\0<=yJ t k/\yJ t k<1000000007:=by
 obtain⟨m,h,a,b⟩:=bG t C k z B;have e:yJ t k=m:=by unfold yJ;rw[h]
 rw[e];exact⟨h,a,b⟩
theorem xJ(i:Int):jb [.int i]=b8 (.val<|.bl b9):=by simp[jb,jh,jj,vX]
theorem j6{t:Type}(l:List t):vH (l.map λ_=>D.bl b9)=b8 (l.map λ_=>b9):=by
 induction l with
 | nil=>rfl
 | cons a l z=>simp[vH,eA,z]
theorem kl{t:Type}(l:List t):((l.map λ_=>b9).all id)=b9:=by
 induction l with
 | nil=>rfl
 | cons a l z=>simp[z]
theorem xC{n:Nat}(f:Nat->Int)(t:n<=lim):jO [.tup (z5 n f),.tup (z5 n f)]=b8 (.val<|.bl b9):=by
 have e:=wa<|Wz n f;simp[jO,jh,jj,z7,vX,t,qb,mI];rw[show zH (.nm 0) jq (zu jb<|zc (zf 0) zB) [Cell.no] (z5 n f)=b8 ((mG n).map λ_=>D.bl b9)from by
  rw[zF];refine zw _ _ λi a=>zx rfl rfl ?_;simp[xJ]]
 simp[j6,e]
theorem lX(a b c:D):Y1 [a,b,c] cp (b8 2)=[a,b]:=by simp[Y1,Xf]
theorem wx{h w:Nat}(f:GK)(B:h<=lim)(t:w<=lim):ju [vd h w f,vd h w f]=b8 (.val<|.bl b9):=by
 have e:=v9 (d:= .tup [.int h,.int w]) rfl;simp[ju,jh,jj,z7,vX,vd,xJ,lX,e,B,jS,qb,mI,yG];rw[zF h λi=>(i:Int)];rw[zw (r:=λ_=>D.bl b9)]
 ·simp[j6]
 ·intro i a
  have z:=nM.mp a;refine zx rfl rfl ?_;simp[z,YW f z,xC _ t]
noncomputable def vi(t:List Int)(p:Int)(k:Int):Int:=yJ t k%p*(if decide (0<yJ t k/7%3)=b9 then 1 else 0)
theorem Xs(z:0<p):0<=vi ns p k/\vi ns p k<p:=by unfold vi;have a:=oP (yJ ns k) (show p≠0 by omega);have b:=ow (yJ ns k) z;split<;>simp<;>omega
theorem xB{t:List Int}(L:t.length<=63){p:Int}(R:0<p){a h w:Nat}(Z:a<=1000)(hh:h<=100)(S:w<=100) :
 jm [yd t,.int a,.int p,.int h,.int w]=b8 (.val<|vd h w λi j=>vi t p<|a+i*w+j):=by
 have U:h<=lim:=by have:=je;omega
 have W:w<=lim:=by have:=je;omega
 have Y : ∀(i:Nat) (e:List D) (z B:Cell),i<h->∃f,kg (.nm 8) (zG (j8 9<|zu zy<|zc (zf 0)<|zc (zv qf (zv qf (zf 1)<|zv yS (zf 6)<|zf 4)<|zf 8) zB)<|jk 7<|zv yS (zv qR (zf 9)<|zf 2)<|XD<|zv n7 (zv qR (zv J2 (zf 9)<|zh<|.int 7)<|zh<|.int 3)<|zh<|.int 0)
  ((mG w).map λ(j:Nat)=>D.int j) [.val (yd t),.val<|.int a,.val<|.int p,.val<|.int h,.val<|.int w,.own e,.val<|.int i,.own [],z,B]=b8 (.next f)/\
  ∃z B,f=[.val (yd t),.val<|.int a,.val<|.int p,.val<|.int h,.val<|.int w,.own e,.val<|.int i,.own<|z5 w λj=>vi t p<|a+i*w+j,z,B]:=by
  intro i e z B n;have I:=qc (T:= .nm 8) (F:=(zG (j8 9<|zu zy<|zc (zf 0)<|zc (zv qf (zv qf (zf 1)<|zv yS (zf 6)<|zf 4)<|zf 8) zB)<|jk 7<|zv yS (zv qR (zf 9)<|zf 2)<|XD<|zv n7 (zv qR (zv J2 (zf 9)<|zh<|.int 7)<|zh<|.int 3)<|zh<|.int 0))
   (λj l=>∃z B,l=[.val (yd t),.val<|.int a,.val<|.int p,.val<|.int h,.val<|.int w,.own e,.val<|.int i,.own<|z5 j λj=>vi t p<|a+i*w+j,z,B])
   ((mG w).map λ(j:Nat)=>D.int j) 0 [.val (yd t),.val<|.int a,.val<|.int p,.val<|.int h,.val<|.int w,.own e,.val<|.int i,.own [],z,B] ⟨z,B,rfl⟩ ?_
  ·simpa using I
  ·rintro j d l g ⟨z,B,rfl⟩
   have K:j<w:=by have:=(mP.mp g).1;simpa using this
   have J:d = .int j:=by simp[K]at g;exact g.symm
   subst J;have o:i*w<=100*100:=Nat.mul_le_mul ⋯ S;have g0:(0:Int)<=(i:Int)*(w:Int):=by exact_mod_cast oO _
   have g1:(i:Int)*(w:Int)<=100*100:=by exact_mod_cast o
   obtain⟨em,N,P⟩:=yI L (k:=((a:Int)+(i:Int)*(w:Int)+(j:Int))) ⋯ ⋯;have G:ZG (i:Int) (w:Int)=b9:=J7 _ _ ⋯ ⋯;have H : ∀(x y:Int),ZG x (if 0<y then 1 else 0)=b9:=λx b=>J6 _ _ (by split<;>omega) (by split<;>omega);have r:j<lim:=by have:=je;omega
   refine⟨_,.inl ?_,.val<|.int j,.val<|.int<|yJ t<|(a:Int)+(i:Int)*(w:Int)+(j:Int),rfl⟩;have s:z5 (0+j+1) (λj=>vi t p<|a+i*w+j)=z5 j (λj=>vi t p<|a+i*w+j)++[.int (vi t p<|a+i*w+j)]:=by simp[z5,pN]
   rw[s];simp[z7,G,em,R,H,r,vi]
 have I:=qc (T:= .nm 6) (F:=zG (yu 7<|xT zB)<|zG (wQ (zT<|zf 4) (.nm 8)<|zG (j8 9<|zu zy<|zc (zf 0)<|zc (zv qf (zv qf (zf 1)<|zv yS (zf 6)<|zf 4)<|zf 8) zB)<|jk 7<|zv yS (zv qR (zf 9)<|zf 2)<|XD<|zv n7 (zv qR (zv J2 (zf 9)<|zh<|.int 7)<|zh<|.int 3)<|zh<|.int 0)<|jk 5<|zY<|zk 7)
  (λi l=>∃M O z B,l=[.val (yd t),.val<|.int a,.val<|.int p,.val<|.int h,.val<|.int w,.own<|ko i w λi j=>vi t p<|a+i*w+j,M,O,z,B])
  ((mG h).map λ(j:Nat)=>D.int j) 0 [.val (yd t),.val<|.int a,.val<|.int p,.val<|.int h,.val<|.int w,.own [],.no,.no,.no,.no] ⟨_,_,_,_,rfl⟩ (by
    rintro i d l g ⟨M,O,z,B,rfl⟩;have n:i<h:=by have:=(mP.mp g).1;simpa using this
    have J:d = .int i:=by simp[n]at g;exact g.symm
    subst J;obtain⟨f,m,u,A,rfl⟩:=Y i (ko (0+i) w λi j=>vi t p<|a+i*w+j) z B n;have C:i<lim:=by have:=je;omega
    refine⟨_,.inl ?_,.val<|.int i,.own<|z5 w λj=>vi t p<|a+i*w+j,u,A,rfl⟩;have E:ko (0+i+1) w (λi j=>vi t p<|a+i*w+j)=ko (0+i) w (λi j=>vi t p<|a+i*w+j)++[.tup (z5 w λj=>vi t p<|a+i*w+j)]:=by simp[ko,pN]
    rw[E];simp only[J8,mH,sf,se];rw[z7];simp[z7,W,jS];rw[zF w λi=>(i:Int)];rw[show(0+i)=i from by omega]at m;rw[m];simp[C])
 obtain⟨f,m,M,O,z,B,rfl⟩:=I;simp[jm,jh,jj,z7,U,jS];rw[zF h λi=>(i:Int),m];simp[vd]
theorem ZR{m:Int}(I:0<=m) : ∃p,([D.int 2,.int 3,.int 5,.int 7])[(m%4).toNat]? = b8 (.int p)/\g5 4 (m%4)=b8 (m%4).toNat/\(p=2\/p=3\/p=5\/p=7):=by
 have a:=oP m (show(4:Int)≠0 by omega);have b:=ow m (show(0:Int)<4 by omega);obtain⟨k,B⟩:=og a;rw[B];have z:k<4:=by omega
 have e:g5 4 (k:Int)=b8 k:=by rw[jN,GY z]
 rw[e]
 match k,z with
 | 0,_=>exact⟨2,rfl,rfl,by simp⟩
 | 1,_=>exact⟨3,rfl,rfl,by simp⟩
 | 2,_=>exact⟨5,rfl,rfl,by simp⟩
 | 3,_=>exact⟨7,rfl,rfl,by simp⟩
theorem vx(k:Int)(z:0<k) : ∃n:Nat,m%k=n/\(n:Int)<k:=by have a:=oP m (show k≠0 by omega);have d:=ow m z;obtain⟨n,b⟩:=og a;exact⟨n,b,by omega⟩
def eV(b:Bool):Nat:=if b then 108 else 114
def zS(c:Nat):Str:=⟨#[c]⟩
theorem kE : ∀(l:List Nat),(oH "" (l.map zS)).cps.toList=l
 | []=>rfl
 | [c]=>rfl
 | c::d::l=>by
  have z:=kE (d::l);show((zS c++("" : Str))++oH "" ((d::l).map zS)).cps.toList=_;have e : ∀a b:Str,(a++b).cps.toList=a.cps.toList++b.cps.toList:=λa b=>by show(a.cps++b.cps).toList=_;simp
  rw[e,e,z];rfl
noncomputable def ZE(m:Nat)(w:GX):Str:=oH "" ((mG m).map λk=>zS (eV (w k)))
theorem vg(m w):(ZE m w).cps.toList=(mG m).map λk=>eV (w k):=by have:=kE<|(mG m).map λk=>eV<|w k;rw[nL]at this;exact this
theorem xK(m w):(ZE m w).length=m:=by show(ZE m w).cps.size=m;rw[<- pK,vg];simp
theorem qw{m:Nat}(w)(t:m<=1000):zm (ZE m w)=b9:=decide_eq_true (by rw[xK];exact t)
theorem ye{t:Type}(g:t->Str) : ∀l:List t,yo (l.map λx=>D.str<|g x)=b8 (l.map g)
 | []=>rfl
 | a::l=>by simp[yo,ye g l]
theorem wu{cell:Int}(Y:0<=cell) : ∃m w,m<=5/\xn [.int cell]=b8 (.val<|.str<|ZE m w):=by
 obtain⟨m,M,h⟩ : ∃n:Nat,cell%6=n/\(n:Int)<6:=by have d:=oP cell (show(6:Int)≠0 by omega);have f:=ow cell (show(0:Int)<6 by omega);obtain⟨n,e⟩:=og d;exact⟨n,e,by omega⟩
 have g:=je;have I:m<=lim:=by omega
 let z:Nat->Int:=λk=>[6,12,24,48,96].getD k 6;have O:zH (.nm 0) jq (qg (zh (.str "rl")) (zv qR (zv J2 (zf 1) (dk (zV (xT (zc (zh (.int 6)) (zc (zh (.int 12)) (zc (zh (.int 24)) (zc (zh (.int 48)) (zc (zh (.int 96)) zB))))))) (zf 0))) (zh (.int 2)))) [Cell.no,Cell.val (.int cell)] ((mG m).map λ(i:Nat)=>D.int i)=b8 ((mG m).map λk=>D.str (zS (eV (decide (cell/z k%2=1))))):=by
  refine zw _ _ λk J=>zx rfl rfl ?_;have J:=nM.mp J;have B:k<5:=by omega
  have a:([D.int 6,.int 12,.int 24,.int 48,.int 96])[k]? = b8 (.int<|z k):=by
   match k,B with
   | 0,_=>rfl
   | 1,_=>rfl
   | 2,_=>rfl
   | 3,_=>rfl
   | 4,_=>rfl
  have R:0<z k/\z k<1073741824:=by
   match k,B with
   | 0,_=>exact⟨by decide,by decide⟩
   | 1,_=>exact⟨by decide,by decide⟩
   | 2,_=>exact⟨by decide,by decide⟩
   | 3,_=>exact⟨by decide,by decide⟩
   | 4,_=>exact⟨by decide,by decide⟩
  have U:zv qR (zv J2 (zf 1)<|dk (zV<|xT<|zc (zh<|.int 6)<|zc (zh<|.int 12)<|zc (zh<|.int 24)<|zc (zh<|.int 48)<|zc (zh<|.int 96) zB)<|zf 0) (zh<|.int 2) [Cell.val (.int k),Cell.val (.int cell)]=b8 (.int<|cell/z k%2):=by
   have b:g5 5 (k:Int)=b8 k:=by rw[jN,GY B]
   simp only[QC,Zz,cH,xI,WU,yV,VH,VI,List.getElem?_cons_succ,rA,xF,mH,pH,wm,ot,rH];rw[GY ⋯];simp only[mH,pH];rw[show([D.int 6,D.int 12,D.int 24,D.int 48,D.int 96]:List D).length=5 from rfl,b];simp only[mH];rw[a];simp[R]
  have q:cell/z k%2=0\/cell/z k%2=1:=by omega
  show qg _ _ [Cell.val (.int k),Cell.val (.int cell)]=_;rw[j5,U];rcases q with q | q
  ·rw[q];rfl
  ·rw[q];rfl
 refine⟨m,λk=>decide<|cell/z k%2=1,by omega,?_⟩;have all1:((mG m).map λk=>zS<|eV<|decide<|cell/z k%2=1).all zm=b9:=by
  rw[List.all_map];exact nO.mpr λk _=>by show zm (zS _)=b9;rfl
 have W:zm ("" : Str)=b9:=rfl;simp[xn,jh,jj,z7,M,I,jS,qb,yG,mI];rw[zF m λi=>(i:Int),O];simp only[pH,mH,Function.comp];rw[ye];simp only[mH];rw[GY ⟨by simpa using I,nO.mp all1,W⟩];rfl
noncomputable def e6(w:GX)(wd:GZ)(k:Nat):Nat:=if w k then wd k else wd (k+1)
noncomputable def ew(w:GX)(wd:GZ)(k:Nat):Nat:=if w k then wd (k+1)else wd k
noncomputable def xH(w:GX)(wd:GZ)(T:GV)(k:Nat):D:= .tup [.str (zS<|eV<|w k),vd (e6 w wd k) (ew w wd k) (T k)]
noncomputable def jt(m:Nat)(w:GX)(wd:GZ)(T:GV):List D:=(mG m).map (xH w wd T)
noncomputable def kO(p:Int)(m:Nat)(w:GX)(wd:GZ)(T:GV):D:= .tup [.int p,.tup<|z5 (m+1) λk=>(wd k:Int),.tup (jt m w wd T)]
@[simp] theorem cy(m w wd T):(jt m w wd T).length=m:=by simp[jt]
noncomputable def Jq:=(zG (j8 8 (yZ (zc (dk (zk 5) (zv qf (zf 7) (zh (.int 1)))) (zc (dk (zk 5) (zf 7)) zB)))) (zG (e5 (sB (zv fk (qg (zf 3) (zf 7)) (zh (.str "l")))) (j8 8 (yZ (zc (dk (zk 5) (zf 7)) (zc (dk (zk 5) (zv qf (zf 7) (zh (.int 1)))) zB)))) jd) (jk 6 (yZ (zc (qg (zf 3) (zf 7)) (zc (zu jm (zc (zf 0) (zc (zv qf (zv qf (zf 1) (zh (.int 10))) (zv yS (zh (.int 17)) (zf 7))) (zc (zf 2) (zc (dk (zk 8) (zh (.int 0))) (zc (dk (zk 8) (zh (.int 1))) zB)))))) zB))))))
theorem wI{m k:Nat}(w)(t:m<=1000)(z:k<m)(γ:Ctx)(f g:CO D)(B:f γ=b8 (.str<|ZE m w))(I:g γ=b8 (.int k)):qg f g γ=b8 (.str<|zS<|eV<|w k):=by rw[j5,B,I];simp only[mH,wm];rw[GY (qw w t),vg];simp[z,zS]
theorem VD(b:Bool):fk (.str (zS (eV b))) (.str "l")=b8 (.bl b):=by
 have e : ∀b:Bool,(zS (eV b)==(mV "l"))=b:=by decide +kernel
 have z : ∀b:Bool,g8 (.str<|zS<|eV b)=b9:=by decide +kernel
 have B:g8 (.str (mV "l"))=b9:=by decide +kernel
 unfold fk;rw[GY ⟨z b,B⟩];show b8 (D.bl (zS (eV b)==mV "l"))=_;rw[e]
theorem ZA{t:List Int}(R:t.length<=63){p:Int}(U:0<p){a0 m:Nat}{most:Int}(ha:a0<=500)(hm:m<=20)(w:GX)(W:0<most/\most<=40) :
 ∃wd T,km [yd t,.int a0,.int p,.str<|ZE m w,.int most]=b8 (.val<|kO p m w wd T)/\(∀k,(wd k:Int)<most)/\∀k i j,0<=T k i j/\T k i j<p:=by
 have hl:=je;have x:m<=lim:=by omega
 have Y:m+1<=lim:=by omega
 have Z : ∀k:Nat,∃n:Nat,yJ t ((a0:Int)+(k:Int))%most=n/\(n:Int)<most:=λk=>vx most W.1;let wd:Nat->Nat:=λk=>(yJ t ((a0:Int)+(k:Int))%most).toNat;have I : ∀k:Nat,yJ t ((a0:Int)+(k:Int))%most=(wd k:Int)/\(wd k:Int)<most:=λk=>by
  obtain⟨n,f,H⟩:=Z k;have:wd k=n:=by show(yJ t ((a0:Int)+(k:Int))%most).toNat=n;rw[f];rfl
  rw[this];exact⟨f,H⟩
 let T:Nat->Nat->Nat->Int:=λk i j=>vi t p<|(((a0+10+17*k:Nat):Int))+(i:Int)*((ew w wd k:Nat):Int)+(j:Int);refine⟨wd,T,?_,λk=>(I k).2,λk i j=>Xs U⟩;have y:zH (.nm 0) jq (zv qR (zu zy<|zc (zf 1)<|zc (zv qf (zf 2)<|zf 0) zB)<|zf 3) [Cell.no,Cell.val<|yd t,Cell.val<|.int a0,Cell.val (.int most)] ((mG<|m+1).map λ(i:Nat)=>D.int i)=b8 (z5 (m+1) λk=>(wd k:Int)):=by rw[zF];refine zw _ _ λk z=>zx rfl rfl ?_;have z:=nM.mp z;simp[(yI R (k:=(a0:Int)+(k:Int)) ⋯ ⋯).1,W.1,(I k).1]
 have tab : ∀k,k<m->jm [yd t,.int<|(a0:Int)+10+17*(k:Int),.int p,.int (e6 w wd k:Nat),.int (ew w wd k:Nat)]=b8 (.val<|vd (e6 w wd k) (ew w wd k)<|T k):=λk z=>by
  have b : ∀j,wd j<=100:=λj=>by have:=(I j).2;omega
  have L:e6 w wd k<=100:=by unfold e6;split<;>exact b _
  have N:ew w wd k<=100:=by unfold ew;split<;>exact b _
  have:=xB R U (a:=a0+10+17*k) (h:=e6 w wd k) (w:=ew w wd k) ⋯ L N;rw[show(((a0+10+17*k:Nat)):Int)=(a0:Int)+10+17*(k:Int)by omega]at this;rw[this];show _=b8 (Res.val<|vd _ _ λi j=>vi t p<|(((a0+10+17*k:Nat):Int))+(i:Int)*((ew w wd k:Nat):Int)+(j:Int));rw[show(((a0+10+17*k:Nat)):Int)=(a0:Int)+10+17*(k:Int)by omega]
 have A:=qc (T:= .nm 7) (F:=Jq)
  (λk e=>∃J M,e=[.val (yd t),.val<|.int a0,.val<|.int p,.val<|.str<|ZE m w,.val<|.int most,.val<|.tup<|z5 (m+1) λk=>(wd k:Int),.own<|jt k w wd T,J,M])
  ((mG m).map λ(i:Nat)=>D.int i) 0 [.val (yd t),.val<|.int a0,.val<|.int p,.val<|.str<|ZE m w,.val<|.int most,.val<|.tup<|z5 (m+1) λk=>(wd k:Int),.own [],.no,.no] ⟨.no,.no,rfl⟩ (by
    rintro k d e g ⟨J,M,rfl⟩;have z:k<m:=by have:=(mP.mp g).1;simpa using this
    have C:d = .int k:=by simp[z]at g;exact g.symm
    subst C;rw[sG];have l:k<lim:=by omega
    have u:g5 (m+1) ((k:Int)+1)=b8 (k+1):=by have:=jN (m+1)<|k+1;rw[GY ⋯]at this;rw[<- this];congr 1
    have o:k+1<m+1:=by omega
    have r:k<m+1:=by omega
    have s:ZG 17 (k:Int)=b9:=J7 _ _ ⋯ ⋯;have app:jt (k+1) w wd T=jt k w wd T++[xH w wd T k]:=by simp[jt,pN]
    have B:=tab k z;refine⟨_,.inl ?_,.val<|.int k,.val<|.tup [.int (e6 w wd k:Nat),.int (ew w wd k:Nat)],rfl⟩;rw[app];have O : ∀e:Ctx,e[3]? = b8 (.val<|.str<|ZE m w)->e[7]? = b8 (.val<|.int k)->qg (zf 3) (zf 7) e=b8 (.str<|zS<|eV<|w k):=λe P Q=>wI w ⋯ z e _ _ (by rw[Zz,P];rfl) (by rw[Zz,Q];rfl);simp only[J8,mH,sf,se,Jq];rw[z7];simp[-j5,u,o,r];rw[z7];rw[Jv,W5,QC,O _ rfl rfl];simp[-j5,VD];cases hw:w k with
    | true=>
     simp[-j5,e6,ew,hw]at B ⊢;simp[-j5,u,o,r];rw[O _ rfl rfl];simp[s,B,l,hw,xH,e6,ew]
    | false=>
     simp[-j5,e6,ew,hw]at B ⊢;rw[O _ rfl rfl];simp[s,B,l,hw,xH,e6,ew])
 obtain⟨γ',f,J,M,rfl⟩:=A;have K:((mG m).map λ(i:Nat)=>D.int i).length=m:=by simp
 rw[K,sG]at f;have G:km=jh 9 (zG (j8 5<|zY<|zV<|zN (zT<|zv qf (k6<|zf 3)<|zh<|.int 1) (.nm 0) 1 [0,1,4] jq (zv qR (zu zy<|zc (zf 1)<|zc (zv qf (zf 2)<|zf 0) zB)<|zf 3))<|zG (yu 6<|xT zB)<|zG (wQ (zT<|k6<|zf 3) (.nm 7) Jq)<|jv<|yZ<|zc (zf 2)<|zc (zf 5)<|zc (zY<|zk 6) zB):=rfl;have ln : ∀e:Ctx,e[3]? = b8 (.val<|.str<|ZE m w)->k6 (zf 3) e=b8 (.int m):=λe h=>by rw[WV,Zz,h];simp only[xF,mH];rw[GY (qw w ⋯),xK]
 have E:((m:Int)+1)=((m+1:Nat):Int):=by omega
 rw[G];simp only[jh,jj];rw[z7];simp only[k0,Xh,xI,qu,kj,QC,nj,sA,ot,rH,mI,List.cons_append,List.nil_append];rw[ln _ rfl];have S:inR ((m:Int)+1)=b9:=by rw[E];exact WE Y
 have X:((m:Int)+1).toNat=m+1:=by omega
 simp only[mH,wm,Y0,VI];rw[GY S,X,jS];simp[Y,qb,yG,mI];rw[zF (m+1) λi=>(i:Int),y];simp[z7,qw w (show m<=1000 by omega),xK,x,jS];rw[zF m λi=>(i:Int),f];simp[kO]
noncomputable def KM:=(zG (e5 (xr (zW<|sB<|hI .tuple<|zf 2)<|xr (sB<|zv h6 (yf<|zk 2)<|zh<|.int 2)<|sB<|zv h6 (dk (zk 2)<|zh<|.int 0)<|dk (zk 3)<|zh<|.int 0) (jv<|zh<|.bl cq) jd)<|e5 (xr (zW<|sB<|hI .str<|dk (zk 2)<|zh<|.int 0)<|zW<|sB<|zu ju<|zc (dk (zk 2)<|zh<|.int 1)<|zc (dk (zk 3)<|zh<|.int 1) zB) (jv<|zh<|.bl cq) jd)
theorem Vs(b:Bool):g8 (.str<|zS<|eV b)=b9:=by cases b<;>decide +kernel
theorem Jx{p:Int}{m:Nat}(w:GX)(wd:GZ)(T:GV)(C:m<=900)(t : ∀k,wd k<=lim):ql [kO p m w wd T,kO p m w wd T]=b8 (.val<|.bl b9):=by
 have u:=je;have s:m<=lim:=by omega
 have J:m+1<=lim:=by omega
 have M:K1 (jt m w wd T) (jt m w wd T)=(mG m).map λk=>D.tup [xH w wd T k,xH w wd T k]:=by unfold K1 jt;rw[List.zip_map'];simp
 have O:=qc (T:= .tp [2,3]) (F:=KM)
  (λk b=>∃z B,b=[.val (kO p m w wd T),.val<|kO p m w wd T,z,B])
  ((mG m).map λk=>D.tup [xH w wd T k,xH w wd T k]) 0 [.val (kO p m w wd T),.val<|kO p m w wd T,.no,.no] ⟨.no,.no,rfl⟩ (by
    rintro k d b a ⟨z,B,rfl⟩;have R:k<m:=by have:=(mP.mp a).1;simpa using this
    have U:d = .tup [xH w wd T k,xH w wd T k]:=by simp[R]at a;exact a.symm
    subst U;refine⟨_,.inl ?_,.val<|xH w wd T k,.val<|xH w wd T k,rfl⟩;have h:e6 w wd k<=lim:=by unfold e6;split<;>exact t _
    have i:ew w wd k<=lim:=by unfold ew;split<;>exact t _
    have j:=wx (T k) h i;have l:=v9<|Vs<|w k;have W:jG (xH w wd T k)=b8 (.T,[.str (zS<|eV<|w k),vd (e6 w wd k) (ew w wd k) (T k)]):=rfl;have I:vX .tuple (xH w wd T k)=b9:=rfl;simp only[KN,mH,sf,se,KM];rw[z7];have o:vX .str (.str<|zS<|eV<|w k)=b9:=rfl;simp[W,I,l,j,o])
 obtain⟨r,g,z,B,rfl⟩:=O;have Y:jG (kO p m w wd T)=b8 (.T,[.int p,.tup<|z5 (m+1) λk=>(wd k:Int),.tup (jt m w wd T)]):=rfl;have I:vX .tuple (kO p m w wd T)=b9:=rfl;have n:=xC (λk=>(wd k:Int)) J;have f:ql=jh 4 (zG (e5 (xr (zW<|sB<|hI .tuple<|zf 0)<|xr (sB<|zv h6 (yf<|zk 0)<|zh<|.int 3)<|xr (zW<|sB<|zu jb<|zc (dk (zk 0)<|zh<|.int 0) zB)<|sB<|zv h6 (dk (zk 0)<|zh<|.int 0)<|dk (zk 1)<|zh<|.int 0) (jv<|zh<|.bl cq) jd)<|zG (e5 (xr (zW<|sB<|zu jO<|zc (dk (zk 0)<|zh<|.int 1)<|zc (dk (zk 1)<|zh<|.int 1) zB)<|xr (zW<|sB<|hI .tuple<|dk (zk 0)<|zh<|.int 2)<|sB<|zv h6 (yf<|zO<|dk (zk 0)<|zh<|.int 2)<|yf<|zO<|dk (zk 1)<|zh<|.int 2) (jv<|zh<|.bl cq) jd)<|zG (wQ (WY (dk (zk 0)<|zh<|.int 2)<|dk (zk 1)<|zh<|.int 2) (.tp [2,3]) KM)<|jv<|zh<|.bl b9):=rfl;rw[f];have e:vX .tuple (.tup<|jt m w wd T)=b9:=rfl;simp[jh,jj,z7,Y,I,xJ,n,e,M,mI];rw[g];simp
theorem Y6{m k:Nat}(w wd T)(z:k<(jt m w wd T).length):(jt m w wd T)[k]=xH w wd T k:=by simp[jt]
theorem Kz(b:Bool):fk (.str (zS (eV b))) (.str "r")=b8 (.bl (!b)):=by
 have e : ∀b:Bool,(zS (eV b)==(mV "r")) = !b:=by decide +kernel
 have z:g8 (.str (mV "r"))=b9:=by decide +kernel
 unfold fk;rw[GY ⟨Vs b,z⟩];show b8 (D.bl (zS (eV b)==mV "r"))=_;rw[e]
theorem qv(i:Int):jf [.int i]=b8 (.val<|.bl b9):=by simp[jf,jh,jj,vX]
abbrev Vc:=Nat->Int
def Aa(r:Nat)(B:Nat->Vc):Vc->Prop:=λv=>∃k,k<r/\v=B k
noncomputable def Un(r:Nat)(B:Nat->Vc)(m:Nat)(W:Nat->Vc):Vc->Prop:=λv=>Aa r B v\/Aa m W v
@[simp] def cC:=@eR.eq_1
@[simp] def gn:=@lu.eq_1
def gI(m t:Nat)(w z:GX):Prop:=m=t/\∀k,k<m->w k=z k
instance (m m':Nat) (w w':GX):Decidable (gI m m' w w'):=inferInstanceAs (Decidable (m=m'/\∀k,k<m->w k=w' k))
section
variable{p p':Int}{m m':Nat}{w w':GX}{wd BA:GZ}{T T':GV}
theorem kx:jG (kO p m w wd T)=b8 (.T,[.int p,.tup<|z5 (m+1) λk=>(wd k:Int),.tup (jt m w wd T)]):=rfl
theorem Ju(k):jG (xH w wd T k)=b8 (.T,[.str (zS<|eV<|w k),vd (e6 w wd k) (ew w wd k) (T k)]):=rfl
end
section
variable{p:Int}
theorem wz(z:p=2\/p=3\/p=5\/p=7):kL [.int p]=b8 (.val<|.bl b9):=by rcases z with rfl | rfl | rfl | rfl<;>kernel_rfl
theorem k4{n:Nat}(h:n<=30):q8 [.int n]=b8 (.val<|.bl b9):=by
 have a:(0:Int)<=n:=by omega
 have b:(n:Int)<=30:=by omega
 simp[q8,jh,jj,qv,yy,a,b]
noncomputable def qK(h w:Nat)(f:GK):List D:=(mG h).map λi=>D.lst<|z5 w<|f i
@[simp] theorem cg(h w f):(qK h w f).length=h:=by simp[qK]
theorem kn{n:Nat}(l:List D)(h:l.length=n):jc [.lst l,.int n]=b8 (.val<|.bl b9):=by simp[jc,jh,jj,XC,vX,h]
theorem ZD{w:Nat}(f:Nat->Int)(t:w<=lim):q9 [.int w,.lst (z5 w f)]=b8 (.val<|.bl b9):=by
 have z:=kn (n:=w) (z5 w f) ⋯;have a:zH (.nm 0) jq (zu jf<|zc (zf 0) zB) [Cell.no] (z5 w f)=b8 ((mG w).map λ_=>D.bl b9):=by rw[zF];refine zw _ _ λj B=>zx rfl rfl ?_;simp[qv]
 simp[q9,jh,jj,z,t,qb,a,j6,kl,mI]
theorem wt{h w:Nat}(B:p=2\/p=3\/p=5\/p=7)(I:h<=30)(t:w<=30)(f:GK):xl [.int p,.int h,.int w,.lst (qK h w f)]=b8 (.val<|vd h w λi j=>f i j%p):=by
 have U:=je;have J:h<=lim:=by omega
 have z:w<=lim:=by omega
 have M:=kn (n:=h) (qK h w f) ⋯;have O:zH (.nm 0) jq (zu q9<|zc (zf 1)<|zc (zf 0) zB) [Cell.no,Cell.val (.int w)] (qK h w f)=b8 ((mG h).map λ_=>D.bl b9):=by unfold qK;refine zw _ _ λj R=>zx rfl rfl ?_;simp[ZD (f j) z]
 have g2:zH (.nm 0) jq (zu kK<|zc (zf 1)<|zc (zf 0) zB) [Cell.no,Cell.val (.int p)] (qK h w f)=b8 (ko h w λi j=>f i j%p):=by unfold qK ko;refine zw _ _ λj R=>zx rfl rfl ?_;simp[K0 (f j) (show 0<p by omega) z]
 simp[xl,jh,jj,z7,wz B,k4 I,k4 t,M,J,qb,yG,O,g2,j6,kl,mI];rfl
end
@[simp] theorem W0(r):yG (.nest r) = .no:=rfl
@[simp] theorem bF(r):yG (.own r) = .no:=rfl
@[simp] theorem bE(d):yG (.val d) = .val d:=rfl
@[simp] theorem cX:yG .no = .no:=rfl
def VG(w:GX)(k:Nat):Nat:=if w k then k+1 else k
def JZ(w:GX)(k:Nat):Nat:=if w k then k else k+1
theorem JX(w:GX)(wd:GZ)(k):e6 w wd k=wd (JZ w k):=by unfold e6 JZ;split<;>rfl
theorem Xm(w:GX)(wd:GZ)(k):ew w wd k=wd (VG w k):=by unfold ew VG;split<;>rfl
theorem ve(w:GX)(k:Nat):jU [.int k,.str (zS<|eV<|w k)]=b8 (.val<|.int (VG w k:Nat)):=by have q:=Kz<|w k;cases h:w k<;>rw[h]at q<;>simp[jU,jh,jj,VG,q,h]
theorem QD(w:GX)(k:Nat):qM [.int k,.str (zS<|eV<|w k)]=b8 (.val<|.int (JZ w k:Nat)):=by have q:=Kz<|w k;cases h:w k<;>rw[h]at q<;>simp[qM,jh,jj,JZ,q,h]
section
variable{p:Int}{m:Nat}{w:GX}{wd:GZ}{f g T:GV}
theorem vA(m:Nat)(F:Nat->D):yc ((mG m).map F)=(mG m).map λ(k:Nat)=>D.tup [.int k,F k]:=by unfold yc;rw[mZ,rl];apply oW;intro k z;have z:=nM.mp z;simp[z]
end
theorem zt(h:F γ=b8 (.next γ'))(g:G γ'=r):zG F G γ=r:=by rw[z7,h];exact g
theorem jK(h:F (jj n ds)=b8 (.ret r)):jh n F ds=b8 r:=by show(F<|jj n ds).bind _=_;rw[h];rfl
theorem Zn{T:Tg}{F:CO Fl}(P:Nat->Ctx->Prop)(n:Nat){γ:Ctx}(J:P 0 γ)(step : ∀s,s<n->∀γ,P s γ->∃B z,qB T (.int (s:Int)) γ=b8 B/\F B=b8 (.next z)/\P (s+1) z) :
 ∃γ',kg T F ((mG n).map λ(i:Nat)=>D.int (i:Int)) γ=b8 (.next γ')/\P n γ':=by
 have M : ∀(k s:Nat) (γ:Ctx),s+k=n->P s γ->∃γ',kg T F ((List.range' s k).map λ(i:Nat)=>D.int (i:Int)) γ=b8 (.next γ')/\P n γ':=by
  intro k
  induction k with
  | zero=>
   intro s γ e I;obtain rfl:s=n:=by omega
   exact⟨γ,rfl,I⟩
  | succ k O=>
   intro s γ e I;obtain⟨B,z,a,b,R⟩:=step s ⋯ γ I;obtain⟨γ',U,W⟩:=O (s+1) z ⋯ R;refine⟨γ',?_,W⟩;rw[List.range'_succ,nj,kH,a];simp only[mH,b];exact U
 have:=M n 0 γ ⋯ J;rw[<- List.range_eq_range']at this;exact this
theorem vy(P:Nat->Ctx->Prop)(n:Nat)(t:n<=lim)(I:f γ=b8 (.int (n:Int)))(J:P 0 γ)(step : ∀s,s<n->∀γ,P s γ->∃z B,qB T (.int (s:Int)) γ=b8 z/\F z=b8 (.next B)/\P (s+1) B) :
 ∃γ',wQ (zT f) T F γ=b8 (.next γ')/\P n γ':=by
 obtain⟨γ',e,M⟩:=Zn P n J step;refine⟨γ',?_,M⟩;have O:=je;have r:inR (n:Int)=b9:=kY ⋯ ⋯;rw[KS,kj,I];simp only[mH,wm,r,if_true,sC,jS];rw[zF n λi=>(i:Int)];exact e
noncomputable def vD:=jh 1 (zG (e5 (xr (zW (sB (hI .str (zf 0)))) (sB (zv tD (k6 (zf 0)) (zh (.int 6))))) (jv (zh (.bl cq))) jd) (jv (JH (zV (zN (yt (zf 0)) (.nm 0) 1 [] jq (ay (zf 0) (zO (zh (.tup [.str "r",.str "l"])))))))))
noncomputable def k3:=jh 2<|zG (e5 (xr (zW<|sB<|zu jc<|zc (zf 1)<|zc (zh<|.int 2) zB)<|xr (zW<|sB<|zu ZC<|zc (zf 0)<|zc (dk (zk 1)<|zh<|.int 0) zB)<|zW<|sB<|zu ZC<|zc (zf 0)<|zc (dk (zk 1)<|zh<|.int 1) zB) (jv<|zh<|.bl cq) jd)<|jv<|zv n9 (dk (zk 1)<|zh<|.int 0)<|dk (zk 1)<|zh<|.int 1
noncomputable def Jr(bs:List (Int×Int)):List D:=bs.map λb=>D.tup [.int b.1,.int b.2]
@[simp] theorem cx(bs):(Jr bs).length=bs.length:=by simp[Jr]
noncomputable def V3(bs:List (Int×Int)):List (Int×Int):=(aZ bs).map λi=>bs.getD i (0,0)
@[simp] def dM:=@aq.eq_1
section ap
variable(γ:Ctx)
@[simp] def dJ:=@yt.eq_1
@[simp] def dQ:=@az.eq_1
@[simp] def dR:=@yx.eq_1
@[simp] def iD:=@ay.eq_1
end ap
noncomputable def lU(b:Int×Int)(r:Int):Bool:=decide (b.1<=r) && decide (r<=b.2)
noncomputable def Vo(bs:List (Int×Int))(r:Int):List Nat:=(mG bs.length).filter λi=>lU (bs.getD i (0,0)) r
def fF(l:List Nat):List D:=l.map λ(i:Nat)=>D.int i
@[simp] theorem cY(l):(fF l).length=l.length:=by simp[fF]
section
variable{p:Int}{m:Nat}{w:GX}{wd:GZ}{T S:GV}
noncomputable def vO(w:GX)(wd:GZ)(S:GV)(k:Nat):D:= .tup [.str (zS<|eV<|w k),.lst (qK (e6 w wd k) (ew w wd k)<|S k)]
theorem Yg(h : ∀k,wd k<=4) : ∀n,xP (λk=>(wd k:Int)) n<=4*n:=by
 intro n
 induction n with
 | zero=>simp[xP]
 | succ n z=>
  have:=h n;simp only[xP];omega
theorem Xb(a b:D):jc [.tup [a,b],.int 2]=b8 (.val<|.bl b9):=by rfl
theorem YI(b:Bool)(γ:Ctx)(f:CO D)(z:f γ=b8 (.str (zS (eV b)))):yv f (zO (zh (.tup [.str "r",.str "l"]))) γ=b8 (.bl cq):=by
 show(f γ).bind _=_;rw[z];have e : ∀b:Bool,((!([("r" : Str),"l"].any λy=>y==zS (eV b))):Bool)=cq:=by decide +kernel
 show b8 (D.bl (!([("r" : Str),"l"].any λy=>y==zS (eV b))))=_;rw[e]
end
def ey(x:Str):List Nat:=x.cps.toList
theorem xS(a b:Str):ey (a++b)=ey a++ey b:=by show(a.cps++b.cps).toList=_;simp[ey]
theorem wN{a b:Str}(h:ey a=ey b):a=b:=by obtain⟨a⟩:=a;obtain⟨b⟩:=b;have h:a.toList=b.toList:=h;rw[<- Array.toArray_toList (xs:=a),h,Array.toArray_toList]
theorem jA(a:Str):a.length=(ey a).length:=by show a.cps.size=_;simp[ey]
theorem kh(a:Str):pq++a=a:=wN (by rw[xS];rfl)
noncomputable def kf(c:Nat):List (List Nat)->List Nat
 | []=>[]
 | [a]=>a
 | a::b::r=>a++c::kf c (b::r)
theorem qA(c:Nat) : ∀l:List Str,ey (oH (zS c) l)=kf c (l.map ey)
 | []=>rfl
 | [a]=>rfl
 | a::b::l=>by have z:=qA c (b::l);show ey ((a++zS c)++oH (zS c) (b::l))=_;rw[xS,xS,z];show(ey a++[c])++_=ey a++c::_;simp
theorem J3{c:Nat} : ∀{a I x B:List Nat},c∉a->c∉I->a++c::x=I++c::B->a=I/\x=B
 | [],[],x,B,_,_,h=>by injection h with _ h;exact⟨rfl,h⟩
 | [],b::I,x,B,_,h2,h=>by injection h with h _;exact absurd (by rw[h];exact mM) h2
 | b::a,[],x,B,h1,_,h=>by injection h with h _;exact absurd (by rw[<- h];exact mM) h1
 | b::a,b'::I,x,B,h1,h2,h=>by injection h with e h;obtain⟨d,f⟩:=J3 (λz=>h1<|mQ _ z) (λz=>h2<|mQ _ z) h;exact⟨by rw[e,d],f⟩
theorem Zm{c:Nat} : ∀{l z:List (List Nat)},l ≠ []->z ≠ []->(∀a∈l,c∉a)->(∀a∈z,c∉a)->kf c l=kf c z->l=z
 | [],_,h,_,_,_,_=>absurd rfl h
 | _,[],_,h,_,_,_=>absurd rfl h
 | [a],[a'],_,_,_,_,h=>by rw[show a=a' from h]
 | [a],a'::B::r',_,_,h1,_,h=>by have h:a=a'++c::kf c (B::r'):=h;exact absurd (by rw[h];simp)<|h1 a mM
 | a::b::r,[a'],_,_,_,h2,h=>by have h:a++c::kf c (b::r)=a':=h;exact absurd (by rw[<- h];simp)<|h2 a' mM
 | a::b::r,a'::B::r',_,_,h1,h2,h=>by obtain⟨d,e⟩:=J3 (h1 a mM) (h2 a' mM) h;rw[d,Zm (List.cons_ne_nil b r) (List.cons_ne_nil B r') (λx I=>h1 x<|mQ _ I) (λx I=>h2 x<|mQ _ I) e]
theorem vn{c:Nat}{l:List Str}(I:l ≠ [])(h : ∀a∈l,c∉ey a):oM (oH (zS c) l) (zS c)=l:=by
 have e:=StrLaws.join_split (oH (zS c) l)<|zS c;have d:=congrArg ey e;rw[qA,qA]at d;have J:oM (oH (zS c) l) (zS c) ≠ []:=λz=>by have:=PyProof.Rows.split_pos (oH (zS c) l)<|zS c;rw[z]at this;simp at this
 have:=Zm (by simpa using J) (by simpa using I) (λa b=>by
  obtain⟨x,B,rfl⟩:=nH.mp b;exact StrLaws.split_free _ c x B) (λa b=>by
  obtain⟨x,B,rfl⟩:=nH.mp b;exact h x B) d
 exact List.map_inj_right (λ_ _ z=>wN z) |>.mp this
theorem vF{n:Int}(z:0<=n)(h:n<10):jR n=zS (48+n.toNat):=by
 have : ∀k:Fin 10,jR ((k:Nat):Int)=zS (48+k):=by decide +kernel
 have e:=this ⟨n.toNat,by omega⟩;rw[show(((⟨n.toNat,by omega⟩:Fin 10):Nat):Int)=n by show((n.toNat:Nat):Int)=n;omega]at e;exact e
theorem XH{n:Int}(z:0<=n)(t:n<10 ^ 10):pS (jR n)=b8 n:=PySem.W.KIN.num_reads z t
theorem kB{t:Type}(xs:List t) : ∀(c a:Nat),((mG c).map (a + ·)).filterMap (λi=>xs[i]?)=(xs.drop a).take c
 | 0,a=>by simp
 | c+1,a=>by
  rw[List.range_succ_eq_map,nj,nL];have e:(mG c).map ((a + ·)∘Nat.succ)=(mG c).map (a+1 + ·):=oW λk _=>by show a+(k+1)=a+1+k;omega
  rw[e];by_cases h:a<xs.length
  ·rw[nY (b:=xs[a]) (by show xs[a+0]? = _;rw[Nat.add_zero,mO h]),kB xs c<|a+1,pX h,List.take_succ_cons]
  ·rw[oA (by show xs[a+0]? = _;rw[Nat.add_zero,oK ⋯]),kB xs c<|a+1,List.drop_eq_nil_of_le ⋯,List.drop_eq_nil_of_le ⋯]
   simp
theorem vJ{x:Str}{lo hi:Option Int}{a b:Nat}(h:oD lo hi 1 x.length=sliceRange a b 1)(I:b<=x.length):ey (oN x lo hi)=((ey x).drop a).take (b - a):=by
 have e:=sliceRange_one a b;unfold oN;split
 ·next B=>
  rw[h,e]at B;simp only[BEq.rfl,Bool.true_and,beq_iff_eq,mZ,rl]at B;have:a=0\/x.length=0:=by omega
  have J:=jA x;rcases this with z | z
  ·subst z
   rw[List.drop_zero,oF ⋯]
  ·have:ey x=[]:=ng ⋯
   rw[this];simp
 ·rw[h,e]
  show(List.filterMap _ _).toArray.toList=_;have:=kB (ey x) (b - a) a;rw[<- this];simp[ey]
section
variable{x:Str}{c d:Nat}{t:List Nat}
theorem ZJ(h:ey x=c::(t++[d])):oN x cp (b8 1)=zS c:=by
 have z:=jA x;rw[h]at z;simp at z;refine wN ?_;rw[vJ (a:=0) (b:=1) ?_ ⋯,h]
 ·rfl
 ·unfold oD
  simp;congr 1;omega
theorem QN(h:ey x=c::(t++[d])):oN x (b8 (-1)) cp=zS d:=by
 have z:=jA x;rw[h]at z;simp at z;refine wN ?_;rw[vJ (a:=t.length+1) (b:=t.length+2) ?_ ⋯,h]
 ·rw[List.drop_succ_cons,List.drop_left];rw[show t.length+2 - (t.length+1)=1 by omega];rfl
 ·unfold oD
  simp;congr 1<;>omega
theorem wL(h:ey x=c::(t++[d])):ey (oN x (b8 1)<|some (-1))=t:=by
 have z:=jA x;rw[h]at z;simp at z;rw[vJ (a:=1) (b:=t.length+1) ?_ ⋯,h]
 ·rw[List.drop_succ_cons,List.drop_zero,show t.length+1 - 1=t.length by omega,List.take_left]
 ·unfold oD
  simp;congr 1<;>omega
end
theorem yO:("/" : Str)=zS 47:=by decide +kernel
theorem yN:(" " : Str)=zS 32:=by decide +kernel
theorem vW:("-" : Str)=zS 45:=by decide +kernel
theorem Vu:(">" : Str)=zS 62:=by decide +kernel
theorem Vt:("<" : Str)=zS 60:=by decide +kernel
theorem kc:(":" : Str)=zS 58:=by decide +kernel
theorem xk{γ:Ctx}{f:CO D}{q:CO (Sk×List D)}{sep:Str}{l:List Str}(z:f γ=b8 (.str sep))(B:q γ=b8 (.L,l.map D.str))(I:l.length<=lim)(J : ∀x∈l,zm x=b9)(M:zm sep=b9):xp f q γ=b8 (.str<|oH sep l):=by
 rw[WW,z,B];have st:yo (l.map D.str)=b8 l:=by
  have:=ye (λx:Str=>x) l
  rwa [List.map_id']at this
 simp only[mH,st];rw[GY ⟨I,nO.mpr J,M⟩]
section
variable{v h:Nat}{g:Nat->Int}{f:GK}
noncomputable def y0(v:Nat)(g:Nat->Int):Str:=oH "" ((mG v).map λj=>jR (g j))
noncomputable def vj(h v:Nat)(f:GK):Str:=oH (zS 47)<|(mG h).map λi=>y0 v<|f i
theorem Zq(z : ∀j,0<=g j/\g j<10):ey (y0 v g)=(mG v).map λj=>48+(g j).toNat:=by have:=kE<|(mG v).map λj=>48+(g j).toNat;rw[nL]at this;unfold y0;rw[show((mG v).map λj=>jR<|g j)=(mG v).map (zS∘λj=>48+(g j).toNat)from oW λj _=>vF (z j).1 (z j).2];exact this
theorem yQ(z : ∀j,0<=g j/\g j<10)(B:v<=1000):zm (y0 v g)=b9:=decide_eq_true (by rw[jA,Zq z];simpa using B)
theorem Va:ey (vj h v f)=kf 47 ((mG h).map λi=>ey<|y0 v<|f i):=by unfold vj;rw[qA,nL];rfl
theorem vZ{c:Nat} : ∀{l:List (List Nat)} {x:Nat},x∈kf c l->x=c\/∃a∈l,x∈a
 | [],x,h=>by cases h
 | [a],x,h=> .inr ⟨a,mM,h⟩
 | a::b::r,x,h=>by
  rcases oz.mp (show x∈a++c::kf c (b::r)from h)with h | h
  ·exact .inr ⟨a,mM,h⟩
  ·rcases mJ.mp h with h | h
   ·exact .inl h
   ·rcases vZ h with h | ⟨y,h1,h2⟩
    ·exact .inl h
    ·exact .inr ⟨y,mQ _ h1,h2⟩
theorem v7{c n:Nat} : ∀{l:List (List Nat)},(∀a∈l,a.length<=n)->(kf c l).length<=l.length*(n+1)
 | [],_=>by simp[kf]
 | [a],h=>by have:=h a mM;simp[kf];omega
 | a::b::r,h=>by have e:=h a mM;have d:=v7 (c:=c) (l:=b::r) λx z=>h x<|mQ _ z;simp only[kf,nz,ot]at d ⊢;rw[Nat.succ_mul];omega
theorem xO(B : ∀i j,0<=f i j/\f i j<10){x:Nat}(z:x∈ey (vj h v f)):47<=x/\x<=57:=by
 rw[Va]at z;rcases vZ z with e | ⟨a,ha,z⟩
 ·omega
 ·obtain⟨i,_,rfl⟩:=nH.mp ha
  rw[Zq (B i)]at z;obtain⟨j,_,rfl⟩:=nH.mp z;have:=B i j;omega
theorem j7(z : ∀i j,0<=f i j/\f i j<10)(B:h<=20)(I:v<=20):(vj h v f).length<=420:=by
 rw[jA,Va];have:=v7 (c:=47) (n:=20) (l:=(mG h).map λi=>ey<|y0 v<|f i) λa b=>by obtain⟨i,_,rfl⟩:=nH.mp b;rw[Zq (z i)];simpa using I
 rw[mZ,rl]at this;have:=Nat.mul_le_mul_right 21 B;omega
theorem yX(z : ∀i j,0<=f i j/\f i j<10)(U:h<=20)(W:v<=20):qk [vd h v f]=b8 (.val<|.str<|vj h v f):=by
 have Y:=je;have I:v<=lim:=by omega
 have J:h<=lim:=by omega
 have M:zm "" = b9:=by decide +kernel
 have a:zm "/" = b9:=by decide +kernel
 have O : ∀i,zH (.nm 0) jq (qe<|zf 0) [.no] (z5 v<|f i)=b8 (((mG v).map λj=>jR<|f i j).map D.str):=λi=>by rw[zF,nL];refine zw _ _ λj _=>zx rfl rfl ?_;have:=z i j;have r:inR (f i j)=b9:=kY ⋯ ⋯;show(b8 (f i j)).bind _=_;rw[mH,GY r];rfl
 have row : ∀i,xp (zh (.str "")) (zV (zN (zQ (zk 0)) (.nm 0) 1 [] jq (qe (zf 0)))) [.val (.tup (z5 v (f i)))]=b8 (.str (y0 v (f i))):=λi=>by
  refine xk rfl ?_ (by simpa using I) (λx B=>?_) M
  ·simp[I,qb,mI,O]
  ·obtain⟨j,_,rfl⟩:=nH.mp B
   rw[vF (z i j).1 (z i j).2];rfl
 have b:zH (.nm 0) jq (xp (zh (.str "")) (zV (zN (zQ (zk 0)) (.nm 0) 1 [] jq (qe (zf 0))))) [.no] (ko h v f)=b8 (((mG h).map λi=>y0 v (f i)).map D.str):=by unfold ko;rw[nL];exact zw _ _ λi _=>zx rfl rfl (row i)
 have R:jG (vd h v f)=b8 (.T,[.int h,.int v,.tup (ko h v f)]):=rfl;have dl:(ko h v f).length<=lim:=by simpa[ko]using J
 have j:=xk (γ:=[.val (vd h v f)]) (f:=zh (.str "/")) (q:=zV (zN (zQ (zO (dk (zk 0) (zh (.int 2))))) (.nm 0) 1 [] jq (xp (zh (.str "")) (zV (zN (zQ (zk 0)) (.nm 0) 1 [] jq (qe (zf 0))))))) (sep:="/") (l:=(mG h).map λi=>y0 v (f i)) rfl
  (by
   simp only[xI,qu,QB,Y7,cH,KP,rA,Jo,R,mH];show(om _<|if (ko h v f).length<=lim then zH _ _ _ [.no] (ko h v f)else cp)=_;rw[GY dl,b];rfl) (by simpa using J) (λx B=>by obtain⟨i,_,rfl⟩:=nH.mp B;exact yQ (z i) ⋯) a
 show(jv _ [.val (vd h v f)]).bind _=_;rw[vC];refine(congrArg (λo=>(om (λd=>Fl.ret<|.val d) o).bind _)<|show _=b8 (D.str<|vj h v f)from ?_).trans rfl;exact j.trans (by unfold vj;rw[yO])
end
section
variable{p:Int}{m:Nat}{w:GX}{wd:GZ}{T:GV}
noncomputable def ZF(w:GX)(wd:GZ)(T:GV)(k:Nat):Str:=vj (e6 w wd k) (ew w wd k)<|T k
noncomputable def xG(w:GX)(wd:GZ)(T:GV)(k:Nat):Str:=if w k=b9 then (zS 60++ZF w wd T k)++zS 45 else (zS 45++ZF w wd T k)++zS 62
theorem K4(h : ∀k,wd k<=20)(k:Nat):e6 w wd k<=20:=by rw[JX];exact h _
theorem QF(h : ∀k,wd k<=20)(k:Nat):ew w wd k<=20:=by rw[Xm];exact h _
theorem lW(b:Bool):fk (.str (zS (eV b))) (.str "r")=b8 (.bl (!b)):=by
 have e : ∀b:Bool,(zS (eV b)==(mV "r")) = !b:=by decide +kernel
 have z : ∀b:Bool,g8 (.str<|zS<|eV b)=b9:=by decide +kernel
 have B:g8 (.str (mV "r"))=b9:=by decide +kernel
 unfold fk;rw[GY ⟨z b,B⟩];show b8 (D.bl (zS (eV b)==mV "r"))=_;rw[e]
theorem vm(z : ∀k i j,0<=T k i j/\T k i j<10)(h : ∀k,wd k<=20)(k:Nat):zm (ZF w wd T k)=b9:=decide_eq_true<|nc (j7 (z k) (K4 h k)<|QF h k) ⋯
theorem wo(B : ∀k i j,0<=T k i j/\T k i j<10)(h : ∀k,wd k<=20)(k:Nat):jY [xH w wd T k]=b8 (.val<|.str<|xG w wd T k):=by
 have t:qk [vd (e6 w wd k) (ew w wd k) (T k)]=b8 (.val (.str (ZF w wd T k))):=yX (B k) (K4 h k) (QF h k);have I:=vm (w:=w) B h k;have z:=lW (w k);have a:zm (mV "-")=b9:=by decide +kernel
 have e:zm (mV ">")=b9:=by decide +kernel
 have J:zm (mV "<")=b9:=by decide +kernel
 have b:=kh (mV "-");have d:=kh (mV "<");unfold xG;rw[<- vW,<- Vu,<- Vt];unfold jY;refine jK (zt (γ':=[.val (xH w wd T k),.val (.str (ZF w wd T k))]) ?_ ?_)
 ·simp[jj,mI,Ju,t]
 ·cases hw:w k
  ·rw[hw]at z
   simp[Ju,hw,z,xU,wR,QO,bZ,W2,I,a,e,b]
  ·rw[hw]at z
   simp[Ju,hw,z,xU,wR,QO,bZ,W2,I,a,J,d]
noncomputable def zM(p:Int)(w:GX)(wd:GZ)(T:GV):Nat->List Str
 | 0=>[jR p++zS 58,jR (wd 0:Int)]
 | s+1=>zM p w wd T s++[xG w wd T s,jR (wd (s+1):Int)]
theorem zP(s:Nat):(zM p w wd T s).length=2*s+2:=by
 induction s with
 | zero=>rfl
 | succ s z=>simp[zM,z];omega
theorem vE : ∀(s k:Nat),k<=s->(zM p w wd T s)[2*k+1]? = b8 (jR (wd k:Int))
 | 0,k,h=>by
  obtain rfl:k=0:=by omega
  rfl
 | s+1,k,h=>by
  by_cases z:k<=s
  ·rw[zM,nk (by rw[zP];omega)]
   exact vE s k z
  ·obtain rfl:k=s+1:=by omega
   rw[zM,nu (by rw[zP];omega),zP,show 2*(s+1)+1 - (2*s+2)=1 by omega];rfl
theorem yl : ∀(s k:Nat),k<s->(zM p w wd T s)[2*k+2]? = b8 (xG w wd T k)
 | 0,k,h=>by omega
 | s+1,k,h=>by
  by_cases z:k<s
  ·rw[zM,nk (by rw[zP];omega)]
   exact yl s k z
  ·obtain rfl:k=s:=by omega
   rw[zM,nu (by rw[zP];omega),zP,show 2*k+2 - (2*k+2)=0 by omega];rfl
end
section
variable{p:Int}{m:Nat}{w:GX}{wd:GZ}{T:GV}
noncomputable def jC(p:Int)(m:Nat)(w:GX)(wd:GZ)(T:GV):Str:=oH (zS 32)<|zM p w wd T m
theorem WK(g:Nat->Int):Y1 (z5 (m+1) g) (b8 1) cp=z5 m λk=>g (k+1):=by rw[zF,zF,List.range_succ_eq_map,nj,nL];unfold Y1 Xf;simp;exact oF ⋯
theorem VJ:K1 (jt m w wd T) (z5 m λk=>(wd (k+1):Int))=(mG m).map λk=>D.tup [xH w wd T k,.int (wd (k+1):Int)]:=by unfold K1 jt;rw[zF,List.zip_map',nL];rfl
theorem qx{n:Int}(z:0<=n)(h:n<=30):zm (jR n)=b9:=by
 have : ∀k:Fin 31,zm (jR ((k:Nat):Int))=b9:=by decide +kernel
 have e:=this ⟨n.toNat,by omega⟩;rw[show(((⟨n.toNat,by omega⟩:Fin 31):Nat):Int)=n by show((n.toNat:Nat):Int)=n;omega]at e;exact e
theorem Jt(z : ∀k i j,0<=T k i j/\T k i j<10)(h : ∀k,wd k<=20)(k:Nat):(xG w wd T k).length<=422:=by
 have:=j7 (z k) (K4 (w:=w) h k)<|QF (w:=w) h k;have e:(xG w wd T k).length=(ZF w wd T k).length+2:=by rw[jA,jA];unfold xG;split<;>rw[xS,xS]<;>simp[ey,zS]<;>omega
 rw[e];unfold ZF;omega
theorem xc(B:p=2\/p=3\/p=5\/p=7)(I : ∀k i j,0<=T k i j/\T k i j<10)(h : ∀k,wd k<=20) : ∀s,∀x∈zM p w wd T s,zm x=b9
 | 0,x,z=>by
  rcases mJ.mp z with rfl | z
  ·rcases B with rfl | rfl | rfl | rfl<;>decide +kernel
  ·rw[nX.mp z]
   exact qx ⋯ (by have:=h 0;omega)
 | s+1,x,z=>by
  rcases oz.mp z with z | z
  ·exact xc B I h s x z
  ·rcases mJ.mp z with rfl | z
   ·exact decide_eq_true<|nc (Jt I h s) ⋯
   ·rw[nX.mp z]
    exact qx ⋯ (by have:=h<|s+1;omega)
theorem qF{γ:Ctx}{f:CO D}{n:Int}(z:f γ=b8 (.int n))(B:0<=n)(h:n<=30):qe f γ=b8 (.str<|jR n):=by have r:inR n=b9:=kY ⋯ ⋯;show((f γ).bind hH).bind _=_;rw[z];show(b8 n).bind _=_;rw[mH,GY r]
theorem ZM(O:p=2\/p=3\/p=5\/p=7)(C:m<=5)(J : ∀k i j,0<=T k i j/\T k i j<10)(h : ∀k,wd k<=20):qC [kO p m w wd T]=b8 (.val<|.str<|jC p m w wd T):=by
 have A:=je;let R:=kO p m w wd T;let M:CO Fl:=zG (jk 2<|zu jY<|zc (zf 3) zB)<|jk 2<|qe<|zf 4;have b:WY (dk (zk 0)<|zh<|.int 2) (ar (dk (zk 0)<|zh<|.int 1) (e4<|zh<|.int 1) yw) [.val R,.val<|.int p,.own<|(zM p w wd T 0).map D.str,.no,.no]=b8 ((mG m).map λk=>D.tup [xH w wd T k,.int (wd (k+1):Int)]):=by rw[<- VJ,<- WK (λk=>(wd k:Int))];rfl
 obtain⟨γ',U,z⟩:=qc (T:= .tp [3,4]) (F:=M) (λs γ=>∃B I,γ=[.val R,.val<|.int p,.own<|(zM p w wd T s).map D.str,B,I]) ((mG m).map λk=>D.tup [xH w wd T k,.int (wd (k+1):Int)]) 0 [.val R,.val<|.int p,.own<|(zM p w wd T 0).map D.str,.no,.no] ⟨_,_,rfl⟩ (by
  intro s d γ a z;simp only[sG]at z ⊢;obtain⟨B,I,rfl⟩:=z;have W:s<m:=by have:=(mP.mp a).1;simpa using this
  have Y:d = .tup [xH w wd T s,.int (wd (s+1):Int)]:=by simp[W]at a;exact a.symm
  subst Y;refine⟨[.val R,.val<|.int p,.own<|(zM p w wd T<|s+1).map D.str,.val<|xH w wd T s,.val (.int (wd (s+1):Int))],.inl ?_,_,_,rfl⟩;show M [.val R,.val<|.int p,.own<|(zM p w wd T s).map D.str,.val<|xH w wd T s,.val (.int (wd (s+1):Int))]=_;have e:=wo (w:=w) J h s;have st:=qF (γ:=[.val R,.val<|.int p,.own<|(zM p w wd T s).map D.str++[.str (xG w wd T s)],.val<|xH w wd T s,.val (.int (wd (s+1):Int))]) (f:=zf 4) rfl ⋯ (show(wd (s+1):Int)<=30 by have:=h<|s+1;omega);have E:((zM p w wd T s).map D.str).length<lim:=by rw[mZ,zP];omega
  refine zt (γ':=[.val R,.val<|.int p,.own<|(zM p w wd T s).map D.str++[.str (xG w wd T s)],.val<|xH w wd T s,.val (.int (wd (s+1):Int))]) ?_ ?_
  ·simp[e,zP]
   omega
  ·show(b8 _).bind _=_
   rw[mH,st,mH,GY (by rw[nz,mZ,zP];simp;omega)];simp[zM])
 simp only[sG,mZ,rl]at z;obtain⟨B,I,rfl⟩:=z;have y:zm " " = b9:=by decide +kernel
 have o:=xk (γ:=[.val R,.val (.int p),.own ((zM p w wd T m).map D.str),B,I]) (f:=zh (.str " ")) (q:=zk 2) (sep:=" ") (l:=zM p w wd T m) rfl rfl (by rw[zP];omega) (xc O J h m) y;unfold qC;refine jK (zt (γ':=[.val R,.val (.int p),.no,.no,.no]) rfl (zt (γ':=[.val R,.val (.int p),.own ((zM p w wd T 0).map D.str),.no,.no]) ?_ (zt (γ':=[.val R,.val (.int p),.own ((zM p w wd T m).map D.str),B,I]) ?_ ?_)))
 ·have st:=qF (γ:=[.val R,.val<|.int p,.no,.no,.no]) (f:=dk (zO<|dk (zk 0)<|zh<|.int 1)<|zh<|.int 0) (n:=(wd 0:Int)) (by simp[R,kx]) ⋯ (by have:=h 0;omega)
  have g:xU [QO (zf 1),zh (.str ":")] [.val R,.val (.int p),.no,.no,.no]=b8 (.str (jR p++zS 58)):=by
   have u:zm (mV ":")=b9:=by decide +kernel
   have x:zm (jR p)=b9:=qx ⋯ ⋯;have r:inR p=b9:=kY ⋯ ⋯;rw[<- kc];simp[xU,wR,QO,bZ,W2,r,u,x,kh]
  have t:2<=lim:=by omega
  simp[st,g,t,zM]
 ·rw[KS,b,mH]
  exact U
 ·rw[vC]
  refine(congrArg (om _) o).trans ?_;rw[yN];rfl
end
theorem Ji{n k:Nat}{i:Int}(h:i=(k:Int))(z:k<n):g5 n i=b8 k:=by rw[h,jN,GY z]
theorem bJ:xo=jh 6 (zG uD (zG (wQ (zT (yf (zO (dk (zk 0) (zh (.int 2)))))) (.nm 2) (zG dg (zG df (zG de dc)))) (jv (xp (zh (.str " ")) (zk 1))))):=rfl
theorem Ye{h v:Nat}{f:GK}(z : ∀i j,0<=f i j/\f i j<10)(O:v<=20):zH (.nm 0) jq (xp (zh (.str "")) (zV (zN (zQ (zk 0)) (.nm 0) 1 [] jq (qe (zf 0))))) [.no] (ko h v f)=b8 (((mG h).map λi=>y0 v (f i)).map D.str):=by
 have R:=je;have B:v<=lim:=by omega
 have I:zm "" = b9:=by decide +kernel
 have J : ∀i,zH (.nm 0) jq (qe<|zf 0) [.no] (z5 v<|f i)=b8 (((mG v).map λj=>jR<|f i j).map D.str):=λi=>by rw[zF,nL];refine zw _ _ λj _=>zx rfl rfl ?_;have:=z i j;exact qF rfl ⋯ ⋯
 have row : ∀i,xp (zh (.str "")) (zV (zN (zQ (zk 0)) (.nm 0) 1 [] jq (qe (zf 0)))) [.val (.tup (z5 v (f i)))]=b8 (.str (y0 v (f i))):=λi=>by
  refine xk rfl ?_ (by simpa using B) (λx M=>?_) I
  ·simp[B,qb,mI,J]
  ·obtain⟨j,_,rfl⟩:=nH.mp M
   rw[vF (z i j).1 (z i j).2];rfl
 unfold ko;rw[nL];exact zw _ _ λi _=>zx rfl rfl<|row i
section
variable{p:Int}{m:Nat}{w:GX}{wd:GZ}{T:GV}
theorem kJ{γ:Ctx}{f g:CO D}{x y:Str}(z:f γ=b8 (.str x))(B:g γ=b8 (.str y))(I:zm x=b9)(J:zm y=b9):qG f g γ=b8 (.str<|x++y):=by show(f γ).bind _=_;rw[z];show(g γ).bind _=_;rw[B];show(if zm x=b9/\zm y=b9 then b8 (D.str<|x++y)else cp)=_;rw[GY ⟨I,J⟩]
theorem Jh(C:p=2\/p=3\/p=5\/p=7)(S:m<=5)(I : ∀k i j,0<=T k i j/\T k i j<10)(h : ∀k,wd k<=20):xo [kO p m w wd T]=b8 (.val<|.str<|jC p m w wd T):=by
 have Q:=je;let R:=kO p m w wd T;have W:zm (mV "-")=b9:=by decide +kernel
 have K:zm (mV ">")=b9:=by decide +kernel
 have L:zm (mV "<")=b9:=by decide +kernel
 obtain⟨γ',H,M,O,U,J,rfl⟩:=vy (T:= .nm 2) (F:=zG dg<|zG df<|zG de dc) (f:=yf<|zO<|dk (zk 0)<|zh<|.int 2)
  (λs γ=>∃M O U J,γ=[.val R,.own<|(zM p w wd T s).map D.str,M,O,U,J]) m ⋯ (γ:=[.val R,.own<|(zM p w wd T 0).map D.str,.no,.no,.no,.no])
  (by simp[R,kx]) ⟨_,_,_,_,rfl⟩ λs Y γ b=>by
    obtain⟨M,O,U,J,rfl⟩:=b;let B:D:= .str (zS<|eV<|w s);let a:=vd (e6 w wd s) (ew w wd s)<|T s;let z:=ZF w wd T s;have o:zm z=b9:=vm (w:=w) I h s;have d:=K4 (w:=w) h s;refine⟨_,[.val R,.own<|(zM p w wd T<|s+1).map D.str,.val<|.int s,.val B,.val a,.val (.str z)],rfl,?_,_,_,_,_,rfl⟩;refine zt (γ':=[.val R,.own<|(zM p w wd T s).map D.str,.val<|.int s,.val B,.val a,J]) ?_ (zt (γ':=[.val R,.own<|(zM p w wd T s).map D.str,.val<|.int s,.val B,.val a,.val (.str z)]) ?_ (zt (γ':=[.val R,.own<|(zM p w wd T s).map D.str++[.str (xG w wd T s)],.val<|.int s,.val B,.val a,.val (.str z)]) ?_ ?_))
    ·simp[dg,R,kx,Y]
     rw[Y6];rfl
    ·have dl:(ko (e6 w wd s) (ew w wd s)<|T s).length<=lim:=by simp[ko];omega
     have y:zm "/" = b9:=by decide +kernel
     have j:=xk (γ:=[.val R,.own ((zM p w wd T s).map D.str),.val (.int s),.val B,.val a,J]) (f:=zh (.str "/")) (q:=zV (zN (zQ (zO (dk (zk 4) (zh (.int 2))))) (.nm 0) 1 [] jq (xp (zh (.str "")) (zV (zN (zQ (zk 0)) (.nm 0) 1 [] jq (qe (zf 0))))))) (sep:="/") (l:=(mG (e6 w wd s)).map λi=>y0 (ew w wd s) (T s i)) rfl
      (by
       show(om _<|if (ko (e6 w wd s) (ew w wd s)<|T s).length<=lim then zH _ _ _ [.no] (ko (e6 w wd s) (ew w wd s)<|T s)else cp)=_;rw[GY dl,Ye (I s) (QF h s)];rfl) (by simp;omega) (λx A=>by obtain⟨i,_,rfl⟩:=nH.mp A;have:=QF (w:=w) h s;exact yQ (I s i) ⋯) y
     unfold df;rw[k0];refine(congrArg (om _) j).trans ?_;rw[yO];rfl
    ·let γ:Ctx:=[.val R,.own<|(zM p w wd T s).map D.str,.val<|.int s,.val B,.val a,.val (.str z)]
     have r:qG (qG (zh (.str "-")) (zf 5)) (zh (.str ">")) γ=b8 (.str ((("-" : Str)++z) ++ ">")):=kJ (kJ rfl rfl W o) rfl (decide_eq_true (by
      have:=j7 (I s) d<|QF (w:=w) h s;rw[jA,xS,nz,<- jA,<- jA];show 1+(ZF w wd T s).length<=1000;unfold ZF;omega)) K
     have t:qG (qG (zh (.str "<")) (zf 5)) (zh (.str "-")) γ=b8 (.str ((("<" : Str)++z) ++ "-")):=kJ (kJ rfl rfl L o) rfl (decide_eq_true (by
      have:=j7 (I s) d<|QF (w:=w) h s;rw[jA,xS,nz,<- jA,<- jA];show 1+(ZF w wd T s).length<=1000;unfold ZF;omega)) W
     have u:Yl "r" "l" (qG (qG (zh (.str "-")) (zf 5)) (zh (.str ">"))) (qG (qG (zh (.str "<")) (zf 5)) (zh (.str "-"))) (zf 3) γ=b8 (.str (xG w wd T s)):=by
      unfold Yl;rw[r,t];show(if ("r" : Str) = "l" then cp else if zS (eV (w s)) = "r" then b8 (D.str ((("-" : Str)++z) ++ ">"))else if zS (eV (w s)) = "l" then b8 (D.str ((("<" : Str)++z) ++ "-"))else cp)=_;rw[MQ ⋯];unfold xG;rw[vW,Vu,Vt];cases hw:w s
      ·rw[GY ⋯,MQ mW]
      ·rw[MQ ⋯,GY ⋯,GY rfl]
     unfold de;show(b8 ((zM p w wd T s).map D.str)).bind _=_;rw[mH];refine(congrArg (Option.bind · _) u).trans ?_;rw[mH,GY (by rw[mZ,zP];omega)];rfl
    ·have st:=qF (γ:=[.val R,.own<|(zM p w wd T s).map D.str++[.str (xG w wd T s)],.val<|.int s,.val B,.val a,.val (.str z)]) (f:=dk (zO<|dk (zk 0)<|zh<|.int 1)<|zv qf (zf 2)<|zh<|.int 1) (n:=(wd (s+1):Int)) (by
      have x1:g5 (m+1) ((s:Int)+1)=b8 (s+1):=Ji ⋯ ⋯;simp[R,kx,x1,Y]) ⋯ (by have:=h<|s+1;omega)
     unfold dc;show(b8 _).bind _=_;rw[mH,st,mH,GY (by rw[nz,mZ,zP];simp;omega)];simp[zM]
 have P:zm " " = b9:=by decide +kernel
 have E:=xk (γ:=[.val R,.own ((zM p w wd T m).map D.str),M,O,U,J]) (f:=zh (.str " ")) (q:=zk 1) (sep:=" ") (l:=zM p w wd T m) rfl rfl (by rw[zP];omega) (xc C I h m) P;rw[bJ];refine jK (zt (γ':=[.val R,.own ((zM p w wd T 0).map D.str),.no,.no,.no,.no]) ?_ (zt H ?_))
 ·have st:=qF (γ:=[.val R,.no,.no,.no,.no,.no]) (f:=dk (zO<|dk (zk 0)<|zh<|.int 1)<|zh<|.int 0) (n:=(wd 0:Int)) (by simp[R,kx]) ⋯ (by have:=h 0;omega)
  have N:zm (jR p)=b9:=qx ⋯ ⋯;have e:=kJ (γ:=[.val R,.no,.no,.no,.no,.no]) (f:=qe (dk (zk 0) (zh (.int 0)))) (g:=zh (.str ":")) (qF (by simp[R,kx]) (show 0<=p by omega) ⋯) rfl N ⋯;rw[kc]at e;have G:2<=lim:=by omega
  show uD [.val R,.no,.no,.no,.no,.no]=_;unfold uD;rw[kc];simp[st,e,G,zM]
 ·rw[vC]
  refine(congrArg (om _) E).trans ?_;rw[yN];rfl
end
def b1:=(e5 (zW<|sB<|zu vD<|zc (zf 1) zB) qP jd)
def b2:=(j8 3<|zv qf (k6<|zf 1)<|zh<|.int 1)
noncomputable def b3:=(e5 (zW<|sB<|JH<|zV<|zN (zQ<|zk 2) (.nm 0) 1 [3] jq (zu k3<|zc (zf 1)<|zc (zf 0) zB)) qP jd)
def b4:=(j8 4<|wA<|aq<|zk 2)
noncomputable def x1:CO Xn:=(zj (zW (sB (zu vD (zc (zf 1) zB)))) (et "NoRow") z0)
noncomputable def x3:CO Xn:=(zj (zW (sB (JH (zV (zN (zQ (zk 2)) (.nm 0) 1 [3] jq (zu k3 (zc (zf 1) (zc (zf 0) zB)))))))) (et "NoRow") z0)
noncomputable def x7:CO Xn:=(zj (sB (zv n7 (eQ (zk 6)) (zh (.int 30)))) (et "TooMany") z0)
noncomputable def aC(m:Nat)(bs:List (Int×Int)):List D:=(mG<|m+1).map λ(r:Nat)=>D.lst<|fF<|Vo bs r
noncomputable def VL(m:Nat)(bs:List (Int×Int)):List D:=z5 (m+1) λr=>((Vo bs r).length:Int)
section
variable{p:Int}{m:Nat}{w:GX}{bs:List (Int×Int)}
abbrev g0(p:Int)(z:Str)(bs:List (Int×Int)):Ctx:=[.val (.int p),.val (.str z),.val (.lst (Jr bs)),.no,.no,.no,.no,.no]
abbrev g2(p:Int)(z:Str)(m:Nat)(bs:List (Int×Int)):Ctx:=[.val (.int p),.val (.str z),.val (.lst (Jr bs)),.val (.int ((m+1:Nat):Int)),.no,.no,.no,.no]
abbrev g6(p:Int)(z:Str)(m:Nat)(bs:List (Int×Int)):Ctx:=[.val (.int p),.val (.str z),.val (.lst (Jr bs)),.val (.int ((m+1:Nat):Int)),.val (.lst (Jr (V3 bs))),.val (.lst (aC m (V3 bs))),.val (.tup (VL m (V3 bs))),.no]
end
@[simp] theorem W1(h w f):(qK h w f).length=h:=by simp[qK]
section
variable{p:Int}{h w q r:Nat}
def app(f:GK)(w:Nat)(v:Vc):Vc:=λi=>xP (λj=>f i j*v j) w
end
@[simp] def ec:=@gU.eq_1
section
variable{p:Int}{m:Nat}{w:GX}{wd:GZ}{T:GV}{a:Nat}
abbrev lk(p:Int)(m:Nat)(w:GX)(wd:GZ)(T:GV)(i j:Int)(a:Nat)(ds:List D)(c:Cell):Ctx:=[.val (kO p m w wd T),.val (.int i),.val (.int j),.val (vd a a λi j=>if i=j then 1 else 0),.own ds,c]
end
@[simp] def cJ:=@eX.eq_1
@[simp] theorem cK(γ:Ctx)(f):az f γ=(f γ).bind λd=>match d with
 | .str z=>if zm z=b9 then b8 (yc<|qO z)else cp
 | _=>cp:=rfl
@[simp] theorem dZ(γ:Ctx)(f g):qG f g γ=(f γ).bind λd=>(g γ).bind λe=>match d,e with
 | .str x,.str y=>if zm x=b9/\zm y=b9 then b8 (.str<|x++y)else cp
 | _,_=>cp:=rfl
def pr(a b:Nat):D:= .tup [.int a,.int b]
@[simp] theorem gY(a b):jG (pr a b)=b8 (.T,[.int (a:Int),.int (b:Int)]):=rfl
noncomputable def mk(lo:Nat)(ch:List Int)(r:Nat):Int:=if lo<=r then ch.getD (r - lo) 0 else 0
section
variable{p:Int}{m:Nat}{w:GX}{bs:List (Int×Int)}
abbrev s9(p:Int)(z:Str)(m:Nat)(bs:List (Int×Int)):Ctx:=[.val (.int p),.val (.str z),.val (.lst (Jr bs)),.val (.int ((m+1:Nat):Int))]
end
section ap
variable(γ:Ctx)
@[simp] def gE:=@qG.eq_1
@[simp] def cD:=@JG.eq_1
@[simp] theorem gm(f):ZL f γ=((f γ).bind hH).map λi=> .int (-i):=rfl
@[simp] def W4:=@cS.eq_1
end ap
theorem KD{γ:Ctx}{f:CO D}{q:Int}(z:f γ=b8 (.int q))(B:0<=q)(h:q<=30):xU [QO f,zh (.str ":")] γ=b8 (.str (jR q++zS 58)):=by
 have a:zm (mV ":")=b9:=by decide +kernel
 have b:zm (jR q)=b9:=qx B h;have r:inR q=b9:=kY ⋯ ⋯;rw[<- kc];simp[xU,wR,QO,bZ,W2,z,r,a,b,kh]
theorem Kt{γ:Ctx}{f:CO D}{q:CO (Sk×List D)}{x:Str}{l:List Str}(z:f γ=b8 (.str x))(B:q γ=b8 (.L,l.map D.str))(I:x∈l):ay f q γ=b8 (.bl b9):=by
 have st:yo (l.map D.str)=b8 l:=by
  have:=ye (λx:Str=>x) l
  rwa [List.map_id']at this
 show(f γ).bind _=_;rw[z];show(q γ).bind _=_;rw[B];show(yo<|l.map D.str).map _=_;rw[st];show b8 (D.bl<|l.any λy=>y==x)=_;rw[List.any_eq_true.mpr ⟨x,I,by simp⟩]
theorem QS{p:Int}(I:p=2\/p=3\/p=5\/p=7):jI [.str (jR p++zS 58)]=b8 (.val<|.bl b9):=by
 have J:=je;have B:4<=lim:=by omega
 have a:zN (zQ (zO (zh (.tup [.int 2,.int 3,.int 5,.int 7])))) (.nm 0) 1 [] jq (xU [QO (zf 0),zh (.str ":")]) [.val (.str (jR p++zS 58))]=b8 (([2,3,5,7].map λq:Int=>jR q++zS 58).map D.str):=by
  rw[qu];show(if 4<=lim then zH _ _ _ [.no] (([2,3,5,7]:List Int).map D.int)else cp)=_;rw[GY B,nL];refine zw _ _ λq z=>zx rfl rfl<|KD rfl ?_ ?_
  ·simp at z;omega
  ·simp at z;omega
 have:=Kt (γ:=[.val (.str (jR p++zS 58))]) (f:=zf 0) (q:=zV (zN (zQ (zO (zh (.tup [.int 2,.int 3,.int 5,.int 7])))) (.nm 0) 1 [] jq (xU [QO (zf 0),zh (.str ":")]))) rfl (by rw[xI,a];rfl) (nH.mpr ⟨p,by simp;omega,rfl⟩);unfold jI;exact jK (by rw[vC];exact congrArg (om _) this)
theorem QE{n:Int}(J:0<=n)(h:n<=30):jH [.str (jR n)]=b8 (.val<|.bl b9):=by
 have M:=je;have z:31<=lim:=by omega
 have r:inR 31=b9:=by decide
 have a:zN (zT<|zv qf (zh<|.int 30)<|zh<|.int 1) (.nm 0) 1 [] jq (qe<|zf 0) [.val (.str<|jR n)]=b8 (((mG 31).map λ(q:Nat)=>jR (q:Int)).map D.str):=by
  have B:zT (zv qf (zh<|.int 30)<|zh<|.int 1) [.val (.str<|jR n)]=b8 ((mG 31).map λ(i:Nat)=>D.int (i:Int)):=by rw[kj];simp[r,jS,zF]
  rw[qu,B,mH,GY (by simpa using z),nL];refine zw _ _ λq I=>zx rfl rfl<|qF rfl ?_ ?_
  ·omega
  ·have:=nM.mp I;omega
 have:=Kt (γ:=[.val (.str<|jR n)]) (f:=zf 0) (q:=zV<|zN (zT<|zv qf (zh<|.int 30)<|zh<|.int 1) (.nm 0) 1 [] jq (qe<|zf 0)) rfl (by rw[xI,a];rfl)<|nH.mpr ⟨n.toNat,nM.mpr ⋯,by rw[show((n.toNat:Nat):Int)=n by omega]⟩;unfold jH;exact jK (by rw[vC];exact congrArg (om _) this)
theorem yp{γ:Ctx}{f:CO D}{l h:CO (Option Int)}{x:Str}{lo hi:Option Int}(z:f γ=b8 (.str x))(B:zm x=b9)(t:l γ=b8 lo)(C:h γ=b8 hi):JG f l h γ=b8 (.str<|oN x lo hi):=by rw[cD,z,t,C];simp[B]
section
variable{p:Int}{m:Nat}{w:GX}{wd:GZ}{T:GV}
theorem J9(k:Nat):ey (xG w wd T k)=(if w k=b9 then 60 else 45)::(ey (ZF w wd T k)++[if w k=b9 then 45 else 62]):=by unfold xG;split<;>rw[xS,xS]<;>rfl
theorem Xg(z : ∀k i j,0<=T k i j/\T k i j<10)(h : ∀k,wd k<=20)(k:Nat):jJ [.str (xG w wd T k)]=b8 (.val<|.bl b9):=by
 have C:=je;have d:zm (xG w wd T k)=b9:=decide_eq_true<|nc (Jt z h k) ⋯;have I:=J9 (w:=w) (wd:=wd) (T:=T) k;let γ:Ctx:=[.val (.str<|xG w wd T k)];have J:=yp (γ:=γ) (f:=zf 0) (l:=yw) (h:=e4<|zh<|.int 1) (lo:=cp) (hi:=b8 1) rfl d rfl rfl;have M:=yp (γ:=γ) (f:=zf 0) (l:=e4<|ZL<|zh<|.int 1) (h:=yw) (lo:=b8 (-1)) (hi:=cp) rfl d rfl rfl;have O:=yp (γ:=γ) (f:=zf 0) (l:=e4<|zh<|.int 1) (h:=e4<|ZL<|zh<|.int 1) (lo:=b8 1) (hi:=b8 (-1)) rfl d rfl rfl;rw[ZJ I]at J;rw[QN I]at M;have B:=wL I;generalize oN (xG w wd T k) (b8 1) (b8 (-1))=y at O B;have U:zm y=b9:=decide_eq_true (by
  have:=j7 (z k) (K4 (w:=w) h k)<|QF (w:=w) h k;rw[jA,B,<- jA];unfold ZF;omega)
 have r:=kJ J M rfl rfl;have W:yv (qG (JG (zf 0) yw (e4 (zh (.int 1)))) (JG (zf 0) (e4 (ZL (zh (.int 1)))) yw)) (zO (yZ (zc (zh (.str "->")) (zc (zh (.str "<-")) zB)))) γ=b8 (.bl cq):=by
  show(qG _ _ γ).bind _=_;rw[r,mH];have Y:2<=lim:=by omega
  show(zO (yZ (zc (zh (.str "->")) (zc (zh (.str "<-")) zB))) γ).bind _=_;simp[Y];exact⟨[("->" : Str),"<-"],rfl,by
   have e : ∀b:Bool,zS (if b=b9 then 60 else 45)++zS (if b=b9 then 45 else 62) ∈ [("->" : Str),"<-"]:=by decide +kernel
   exact e<|w k⟩
 have m : ∀c:Nat,47<=c->c<=57->XE (zf 0) (zh (.str "0123456789/")) [.val (.str ⟨#[c]⟩)]=b8 (.bl b9):=λc x A=>by
  have e : ∀c:Fin 11,(!(nF ("0123456789/" : Str) ⟨#[47+c]⟩ 0 ("0123456789/" : Str).length 1).isEmpty)=b9:=by decide +kernel
  have:=e ⟨c - 47,by omega⟩;rw[show 47+((⟨c - 47,by omega⟩:Fin 11):Nat)=c by show 47+(c - 47)=c;omega]at this;show b8 (D.bl (!(nF ("0123456789/" : Str) ⟨#[c]⟩ 0 ("0123456789/" : Str).length 1).isEmpty))=_;rw[this]
 have p:JH (zV (zN (yt (JG (zf 0) (e4 (zh (.int 1))) (e4 (ZL (zh (.int 1)))))) (.nm 0) 1 [] jq (XE (zf 0) (zh (.str "0123456789/"))))) γ=b8 (.bl b9):=by
  have g:yt (JG (zf 0) (e4<|zh<|.int 1)<|e4<|ZL<|zh<|.int 1) γ=b8 ((ey y).map λc=>D.str ⟨#[c]⟩):=by show(JG _ _ _ γ).bind _=_;rw[O,mH];show(if zm y=b9 then b8 (qO y)else cp)=_;rw[GY U];rfl
  have ty:=j7 (z k) (K4 (w:=w) h k) (QF (w:=w) h k);have s:zH (.nm 0) jq (XE (zf 0) (zh (.str "0123456789/"))) [.no] ((ey y).map λc=>D.str ⟨#[c]⟩)=b8 ((ey y).map λ_=>D.bl b9):=zw _ _ λc R=>zx rfl rfl (by
   rw[B]at R;obtain⟨n,o⟩:=xO (z k) R;exact m c n o)
  rw[cM,xI,qu,g,mH,GY (by
   rw[mZ,B,<- jA];unfold ZF;omega)]
  show((zH _ _ _ [.no] _).map _).bind _=_;rw[s];show(vH<|(ey y).map λ_=>D.bl b9).map _=_;have u : ∀l:List Nat,vH (l.map λ_=>D.bl b9)=b8 (l.map λ_=>b9):=λl=>by
   induction l with
   | nil=>rfl
   | cons a l t=>simp[vH,t];rfl
  rw[u];simp
 unfold jJ;refine jK<|zt (γ':=γ) ?_ ?_
 ·show e5 _ _ _ γ=_
  rw[Jv,W5,W];rfl
 ·rw[vC]
  exact congrArg (om _) p
end
section
variable{p:Int}{m:Nat}{w:GX}{wd:GZ}{T:GV}
theorem Jk(I:p=2\/p=3\/p=5\/p=7)(J : ∀k i j,0<=T k i j/\T k i j<10)(h : ∀k,wd k<=20){i:Nat}{x:Str}(B:(zM p w wd T m)[i]? = b8 x):jP [.int i,.str x]=b8 (.val<|.bl b9):=by
 have f:i<2*m+2:=by have:=(mP.mp B).1;rw[zP]at this;exact this
 by_cases M:i=0
 ·subst M
  have e:(zM p w wd T m)[0]? = b8 (jR p++zS 58):=by
   have : ∀s,(zM p w wd T s)[0]? = b8 (jR p++zS 58):=λs=>by
    induction s with
    | zero=>rfl
    | succ s O=>rw[zM,nk (by rw[zP];omega)];exact O
   exact this m
  rw[e]at B;cases B;have:=QS I;simp[jP,jh,jj,z7,mI,this]
 ·by_cases d:i%2=1
  ·obtain⟨k,rfl⟩ : ∃k,i=2*k+1:=⟨i/2,by omega⟩
   rw[vE m k ⋯]at B;cases B;have:=QE (n:=(wd k:Int)) ⋯ (by have:=h k;omega);have a : ¬(((2*k+1:Nat):Int)=0):=by omega
   have b:((2*k+1:Nat):Int)%2=1:=by omega
   generalize ((2*k+1:Nat):Int)=z at a b;simp[jP,jh,jj,z7,mI,this,a,b]
  ·obtain⟨k,rfl⟩ : ∃k,i=2*k+2:=⟨i/2 - 1,by omega⟩
   rw[yl m k ⋯]at B;cases B;have:=Xg (w:=w) J h k;have a : ¬(((2*k+2:Nat):Int)=0):=by omega
   have b : ¬(((2*k+2:Nat):Int)%2=1):=by omega
   generalize ((2*k+2:Nat):Int)=z at a b;simp[jP,jh,jj,z7,mI,this,a,b]
theorem Y3(R:p=2\/p=3\/p=5\/p=7)(C:m<=5)(U : ∀k i j,0<=T k i j/\T k i j<10)(h : ∀k,wd k<=20):qN [.lst ((zM p w wd T m).map D.str)]=b8 (.val .ea):=by
 have A:=je;let W:=zM p w wd T m;have M:W.length=2*m+2:=zP m;have Y:W.map D.str=(mG<|2*m+2).map λi=>D.str (W.getD i pq):=by
  refine List.ext_getElem (by simp[M]) λi l y=>?_;have:i<W.length:=by simpa using l
  simp[oR,this]
 have g:yx (zf 0) [.val (.lst<|W.map D.str),.no,.no]=b8 ((mG<|2*m+2).map λ(i:Nat)=>D.tup [.int i,.str (W.getD i pq)]):=by show b8 (yc<|W.map D.str)=_;rw[Y,vA]
 obtain⟨x,u,J⟩:=qc (T:= .tp [1,2]) (F:=e5 (zW<|sB<|zu jP<|zc (zf 1)<|zc (zf 2) zB) qP jd) (λ_ b=>∃B I,b=[.val (.lst<|W.map D.str),B,I]) ((mG<|2*m+2).map λ(i:Nat)=>D.tup [.int i,.str (W.getD i pq)]) 0 [.val (.lst<|W.map D.str),.no,.no] ⟨_,_,rfl⟩ (by
  intro s d b a J;obtain⟨B,I,rfl⟩:=J;have r:s<2*m+2:=by have:=(mP.mp a).1;simpa using this
  have e:d = .tup [.int s,.str (W.getD s pq)]:=by simp[r]at a;exact a.symm
  subst e;refine⟨[.val (.lst<|W.map D.str),.val<|.int s,.val (.str<|W.getD s pq)],.inl ?_,_,_,rfl⟩;have t:W[s]? = b8 (W.getD s pq):=by rw[oR,mO ⋯];rfl
  have n:=Jk (m:=m) (w:=w) R U h t;show e5 _ _ _ [.val (.lst<|W.map D.str),.val<|.int s,.val (.str<|W.getD s pq)]=_;simp only[Jv,KR,W5,KU,yV,VH,Zz,rA,List.getElem?_cons_succ,xF,mH,pH,n];rfl)
 obtain⟨B,I,rfl⟩:=J;have O : ¬((((2*m+2:Nat):Int))%2=1):=by omega
 show((zG _ _ [.val (.lst<|W.map D.str),.no,.no]).bind _)=_;rw[z7];refine(congrArg (λo=>(Option.bind o _).bind _)<|show _=b8 (Fl.next [.val (.lst<|W.map D.str),B,I])from ?_).trans ?_
 ·rw[KS,g,mH];exact u
 ·rw[mH]
  show((e5 _ _ _ [.val (.lst<|W.map D.str),B,I]).bind _)=_;have f:(W.map D.str).length=2*m+2:=by rw[mZ,M]
  generalize hz:((2*m+2:Nat):Int)=z at O;simp[f,hz,O]
end
section
variable{p:Int}{m h v:Nat}{w:GX}{wd:GZ}{T:GV}{g:Nat->Int}{f:GK}
theorem vY{γ:Ctx}{q:CO D}{n:Int}(B:q γ=b8 (.str<|jR n))(z:0<=n)(t:n<=30):y9 q γ=b8 (.int n):=by
 show(q γ).bind _=_;rw[B,mH];show(if (jR n).length<=640 then (pS<|jR n).map D.int else cp)=_;have J:=of_decide_eq_true<|qx z t;have I:(jR n).length<=640:=by
  have : ∀k:Fin 31,(jR ((k:Nat):Int)).length<=640:=by decide +kernel
  have e:=this ⟨n.toNat,by omega⟩;rw[show(((⟨n.toNat,by omega⟩:Fin 31):Nat):Int)=n by show((n.toNat:Nat):Int)=n;omega]at e;exact e
 rw[GY I,XH z ⋯];rfl
theorem Xe(z : ∀j,0<=g j/\g j<10)(J:v<=20):jX [.str (y0 v g)]=b8 (.own<|z5 v g):=by
 have M:=je;have B:v<=lim:=by omega
 have I:=yQ (v:=v) z ⋯;have a:yt (zf 0) [.val (.str<|y0 v g)]=b8 ((mG v).map λj=>D.str<|jR<|g j):=by show(if zm (y0 v g)=b9 then b8 (qO<|y0 v g)else cp)=_;rw[GY I];show b8 ((ey<|y0 v g).map λc=>D.str ⟨#[c]⟩)=_;rw[Zq z,nL];congr 1;exact oW λj _=>by rw[vF (z j).1 (z j).2];rfl
 have b:zH (.nm 0) jq (y9<|zf 0) [.no] ((mG v).map λj=>D.str<|jR<|g j)=b8 (z5 v g):=by rw[zF];refine zw _ _ λj _=>zx rfl rfl ?_;have:=z j;exact vY rfl ⋯ ⋯
 unfold jX;refine jK ?_;show XB _ [.val (.str<|y0 v g)]=_;rw[KQ,qu,a,mH,GY (by simpa using B)];show(zH _ _ _ [.no] _).map _=_;rw[b];rfl
theorem wU(B : ∀i j,0<=f i j/\f i j<10)(R:h<=20)(J:v<=20):jx [.str (vj h v f),.int h]=b8 (.own<|qK h v f):=by
 have u:=je;have ok : ∀x:Str,(∀c∈ey x,c<0x110000)->g8 (.str x)=b9:=λx U=>Kc (n:=0) (by simp[deep]) ⋯ (by
  show x.cps.all (· < 0x110000)=b9;rw[<- Array.all_toList];exact nO.mpr λc I=>decide_eq_true<|U c I)
 have W:=ok (vj h v f) λc I=>by have:=xO B I;omega
 have M:g8 (.str (mV ""))=b9:=by decide +kernel
 have Y:fk (.str (vj h v f)) (.str "")=b8 (.bl (vj h v f==mV "")):=by unfold fk;rw[GY ⟨W,M⟩];rfl
 have t:=j7 B R J;by_cases O:h=0
 ·subst O
  have e:vj 0 v f=mV "":=rfl;have q:fk (.str (mV "")) (.str (mV ""))=b8 (.bl b9):=wa M;simp[jx,jh,jj,z7,mI,e,q];rfl
 ·have I : ¬((h:Int)=0):=by omega
  have r:oM (vj h v f) (zS 47)=(mG h).map λi=>y0 v (f i):=vn (by simp;omega) λa m=>by obtain⟨i,_,rfl⟩:=nH.mp m;rw[Zq (B i)];intro z;obtain⟨j,_,e⟩:=nH.mp z;omega
  let b:Ctx:=[.val (.str (vj h v f)),.val (.int h)];have p:kN (zf 0) (zh (.str "/")) b=b8 (((mG h).map λi=>y0 v (f i)).map D.str):=by show(if (vj h v f).length<=20000/\(("/" : Str).length==0)=cq then b8 ((oM (vj h v f) "/").map D.str)else cp)=_;rw[GY ⟨by omega,by decide +kernel⟩,yO,r]
  have l:zH (.nm 0) jq (wA<|yz jX<|zc (zf 0) zB) [.no] (((mG h).map λi=>y0 v<|f i).map D.str)=b8 (qK h v f):=by rw[nL];unfold qK;refine zw _ _ λi _=>zx rfl rfl ?_;have:=Xe (v:=v) (B i) J;simp[this]
  unfold jx;refine jK<|zt (γ':=b) ?_ ?_
  ·show e5 _ _ _ b=_
   have s:(Ym (sB (zv fk (zf 0) (zh (.str "")))) (sB (zv fk (zf 1) (zh (.int 0))))) b=b8 cq:=by
    have d:sB (zv fk (zf 0) (zh (.str ""))) b=b8 (vj h v f==mV ""):=by show((fk (.str (vj h v f)) (.str "")).bind m9)=_;rw[Y];rfl
    have g:sB (zv fk (zf 1)<|zh<|.int 0) b=b8 cq:=by simp[b];exact O
    show((sB _ b).bind _)=_;rw[d,mH];cases vj h v f==mV ""
    ·rfl
    ·exact g
   rw[Jv,s];rfl
  ·have o:zQ (zV (kN (zf 0) (zh (.str "/")))) b=b8 (((mG h).map λi=>y0 v (f i)).map D.str):=by
    show((kN _ _ b).map _).map _=_;rw[p];rfl
   rw[KQ,qu,o,mH,GY (by simp;omega)];show(zH _ _ _ [.no] _).map _=_;rw[l];rfl
end
section
variable{p:Int}{m:Nat}{w:GX}{wd:GZ}{T:GV}
theorem VM(t:m<=5)(B:xP (λk=>(wd k:Int)) (m+1)<=30):qd [.lst (z5 (m+1) λk=>(wd k:Int))]=b8 (.val<|.tup<|z5 (m+1) λk=>(wd k:Int)):=by
 have O:=je;have z:m+1<=lim:=by omega
 have a:zH (.nm 0) jq (XF (zu jf<|zc (zf 0) zB)<|zv tD (zf 0)<|zh<|.int 0) [Cell.no] (z5 (m+1) λk=>(wd k:Int))=b8 ((mG<|m+1).map λ_=>D.bl b9):=by rw[zF];refine zw _ _ λj R=>zx rfl rfl ?_;simp[qv]
 have I:(m:Int)+1<=6:=by omega
 have J:(1:Int)<=(m:Int)+1:=by omega
 have M:qm [.lst (z5 (m+1) λk=>(wd k:Int))]=b8 (.val<|.bl b9):=by simp[qm,jh,jj,z7,qb,mI,z,a,j6,kl,wH,B,XC,vX,I,J]
 simp[qd,jh,jj,z7,mI,M,z]
theorem cz(B:p=2\/p=3\/p=5\/p=7)(h : ∀k,wd k<=20){k:Nat}(O:k<m)(z : ∀k i j,0<=T k i j/\T k i j<p) :
 qE [.int p,.tup<|z5 (m+1) λk=>(wd k:Int),.int k,vO w wd T k]=b8 (.val<|xH w wd T k):=by
 have a:=QD w k;have b:=ve w k;have b1:JZ w k<m+1:=by unfold JZ;split<;>omega
 have b2:VG w k<m+1:=by unfold VG;split<;>omega
 have d:e6 w wd k<=30:=by have:=K4 (w:=w) h k;omega
 have e:ew w wd k<=30:=by have:=QF (w:=w) h k;omega
 have t:=wt (p:=p) B d e<|T k;rw[show(λi j=>T k i j%p)=T k from funext λi=>funext λj=>Int.emod_eq_of_lt (z k i j).1 (z k i j).2]at t;have l:=Xb (.str<|zS<|eV<|w k)<|.lst<|qK (e6 w wd k) (ew w wd k)<|T k;have I:=YI (w k) [.val (.int p),.val<|.tup<|z5 (m+1) λk=>(wd k:Int),.val<|.int k,.val<|vO w wd T k,.no,.no] (dk (zk 3)<|zh<|.int 0) rfl;have x1:g5 (m+1) (JZ w k:Int)=b8 (JZ w k):=by rw[jN,GY b1]
 have J:g5 (m+1) (VG w k:Int)=b8 (VG w k):=by rw[jN,GY b2]
 unfold qE;refine jK<|zt (γ':=[.val (.int p),.val<|.tup<|z5 (m+1) λk=>(wd k:Int),.val<|.int k,.val<|vO w wd T k,.no,.no]) ?_ (zt (γ':=[.val (.int p),.val<|.tup<|z5 (m+1) λk=>(wd k:Int),.val<|.int k,.val<|vO w wd T k,.val<|.str<|zS<|eV<|w k,.no]) rfl<|zt (γ':=[.val (.int p),.val<|.tup<|z5 (m+1) λk=>(wd k:Int),.val<|.int k,.val<|vO w wd T k,.val<|.str<|zS<|eV<|w k,.val (vd (e6 w wd k) (ew w wd k)<|T k)]) ?_ rfl)
 ·show(e5 _ _ _ [.val (.int p),.val<|.tup<|z5 (m+1) λk=>(wd k:Int),.val<|.int k,.val<|vO w wd T k,.no,.no])=_
  rw[Jv,cF];have M:(zW<|sB<|zu jc<|zc (zf 3)<|zc (zh<|.int 2) zB) [.val (.int p),.val<|.tup<|z5 (m+1) λk=>(wd k:Int),.val<|.int k,.val<|vO w wd T k,.no,.no]=b8 cq:=by simp[vO,l]
  rw[M,mH,MQ mW,W5,I];rfl
 ·rw[JX,Xm]at t
  simp[a,b,x1,J,vO,JX,Xm,b1,b2,t]
theorem wq(R:p=2\/p=3\/p=5\/p=7)(h : ∀k,wd k<=20){k:Nat}(U:k<m)(B : ∀k i j,0<=T k i j/\T k i j<p) :
 jo [.int p,.tup<|z5 (m+1) λk=>(wd k:Int),.int k,.str (xG w wd T k)]=b8 (.val<|xH w wd T k):=by
 have y:=je;have J : ∀k i j,0<=T k i j/\T k i j<10:=λk i j=>⟨(B k i j).1,by have:=(B k i j).2;omega⟩;have t:zm (xG w wd T k)=b9:=decide_eq_true (nc (Jt J h k) ⋯);have M:=J9 (w:=w) (wd:=wd) (T:=T) k;let z:D:= .tup (z5 (m+1) λk=>(wd k:Int));let A:D:= .str (xG w wd T k);have st:WZ (sB (ZK (zf 3) (zh (.str "-")))) (zh (.str "r")) (zh (.str "l")) [.val (.int p),.val z,.val (.int k),.val A,.no,.no]=b8 (.str (zS (eV (w k)))):=by
  have W:rQ (xG w wd T k) "-" = !w k:=by have e:(xG w wd T k).cps.toList[0]? = b8 (if w k=b9 then 60 else 45):=congrArg (λl:List Nat=>l[0]?) M;rw[rJ,vW];show(decide (0+(⟨#[45]⟩:Str).length<=(xG w wd T k).length) && Builtin.Str.subAt (xG w wd T k) ⟨#[45]⟩ 0)=b9↔_;rw[mR,decide_eq_true_eq,StrLaws.subAt_one,e];cases w k<;>simp
  show((b8 (D.bl (rQ (xG w wd T k) "-"))).bind m9).bind _=_;rw[W];cases w k
  ·rfl
  ·rfl
 have O:=yp (γ:=[.val (.int p),.val z,.val<|.int k,.val A,.val<|.str<|zS<|eV<|w k,.no]) (f:=zf 3) (l:=e4<|zh<|.int 1) (h:=e4<|ZL<|zh<|.int 1) (lo:=b8 1) (hi:=b8 (-1)) rfl t rfl rfl;have Y:=wN<|wL M;rw[Y]at O;have b1:JZ w k<m+1:=by unfold JZ;split<;>omega
 have x1:g5 (m+1) (JZ w k:Int)=b8 (JZ w k):=by rw[jN,GY b1]
 have n:=QD w k;have s:jx [.str (ZF w wd T k),.int (wd (JZ w k):Nat)]=b8 (.own<|qK (e6 w wd k) (ew w wd k)<|T k):=by rw[<- JX w wd k];exact wU (J k) (K4 h k)<|QF h k
 let L:D:= .lst (qK (e6 w wd k) (ew w wd k)<|T k);have u:j8 5 (wA<|yz jx<|zc (JG (zf 3) (e4<|zh<|.int 1)<|e4<|ZL<|zh<|.int 1)<|zc (dk (zk 1)<|zu qM<|zc (zf 2)<|zc (zf 4) zB) zB) [.val (.int p),.val z,.val<|.int k,.val A,.val<|.str<|zS<|eV<|w k,.no]=b8 (.next [.val (.int p),.val z,.val<|.int k,.val A,.val<|.str<|zS<|eV<|w k,.val L]):=by
  have o:dk (zk 1) (zu qM<|zc (zf 2)<|zc (zf 4) zB) [.val (.int p),.val z,.val<|.int k,.val A,.val<|.str<|zS<|eV<|w k,.no]=b8 (.int (wd (JZ w k):Nat)):=by simp[n,z,x1,b1]
  rw[k0,QA,Y8,yV,O,mH,yV,o];simp[s,L]
 have xu : ∀i,jQ [.int p,.lst (z5 (ew w wd k)<|T k i)]=b8 (.val<|.bl b9):=λi=>by
  have C:=QF (w:=w) h k;have b:ew w wd k<=lim:=by omega
  have a:zH (.nm 0) jq (zv tE (zf 0)<|zf 1) [.no,.val (.int p)] (z5 (ew w wd k)<|T k i)=b8 ((mG<|ew w wd k).map λ_=>D.bl b9):=by rw[zF];refine zw _ _ λj _=>zx rfl rfl ?_;simp[(B k i j).2]
  simp[jQ,jh,jj,mI,b,qb,a,j6,kl]
 have g:JH (zV<|zN (zQ<|zk 5) (.nm 0) 1 [0] jq (zu jQ<|zc (zf 1)<|zc (zf 0) zB)) [.val (.int p),.val z,.val<|.int k,.val A,.val<|.str<|zS<|eV<|w k,.val L]=b8 (.bl b9):=by
  have x:=K4 (w:=w) h k;have a:zH (.nm 0) jq (zu jQ<|zc (zf 1)<|zc (zf 0) zB) [.no,.val (.int p)] (qK (e6 w wd k) (ew w wd k)<|T k)=b8 ((mG<|e6 w wd k).map λ_=>D.bl b9):=by unfold qK;refine zw _ _ λi _=>zx rfl rfl ?_;simp[xu i]
  have d:e6 w wd k<=lim:=by omega
  simp[L,d,qb,mI,a,j6,kl]
 have I:=cz (w:=w) R h U B;unfold jo;refine jK<|zt (γ':=[.val (.int p),.val z,.val<|.int k,.val A,.val<|.str<|zS<|eV<|w k,.no]) ?_ (zt u<|zt (γ':=[.val (.int p),.val z,.val<|.int k,.val A,.val<|.str<|zS<|eV<|w k,.val L]) ?_ ?_)
 ·show j8 _ _ [.val (.int p),.val z,.val<|.int k,.val A,.no,.no]=_
  rw[k0,st];rfl
 ·rw[Jv,KR,W5,g];rfl
 ·have r:2<=lim:=by omega
  have I:qE [.int p,z,.int k,.tup [.str (zS<|eV<|w k),L]]=b8 (.val<|xH w wd T k):=I;simp[r,I]
end
theorem VC{t β:Type}{F:Nat->t}{g:t->Option β}{G:Nat->β} : ∀{l:List Nat},(∀k∈l,g (F k)=b8 (G k))->(l.map F).filterMap g=l.map G
 | [],_=>rfl
 | k::l,h=>by rw[nj,nY<|h k mM,VC λx z=>h x (mQ _ z)];rfl
theorem aT{m:Nat}(t:m<=5):ZS (2*m+2) (b8 1) cp (b8 2)=(mG<|m+1).map λk=>2*k+1:=by
 have : ∀m:Fin 6,ZS (2*m+2) (b8 1) cp (b8 2)=(mG<|m+1).map λk=>2*k+1:=by decide +kernel
 exact this ⟨m,by omega⟩
theorem Wr{m:Nat}(t:m<=5):ZS (2*m+2) (b8 2) cp (b8 2)=(mG m).map λk=>2*k+2:=by
 have : ∀m:Fin 6,ZS (2*m+2) (b8 2) cp (b8 2)=(mG m).map λk=>2*k+2:=by decide +kernel
 exact this ⟨m,by omega⟩
section
variable{p:Int}{m:Nat}{w:GX}{wd:GZ}{T:GV}
theorem JB{n:Int}(z:0<=n)(h:n<=30):32∉ey (jR n):=by
 have : ∀k:Fin 31,32∉ey (jR ((k:Nat):Int)):=by decide +kernel
 have e:=this ⟨n.toNat,by omega⟩;rw[show(((⟨n.toNat,by omega⟩:Fin 31):Nat):Int)=n by show((n.toNat:Nat):Int)=n;omega]at e;exact e
theorem wC(I:p=2\/p=3\/p=5\/p=7)(J : ∀k i j,0<=T k i j/\T k i j<10)(h : ∀k,wd k<=20) : ∀s,∀x∈zM p w wd T s,32∉ey x
 | 0,x,B=>by
  rcases mJ.mp B with rfl | B
  ·rcases I with rfl | rfl | rfl | rfl<;>decide +kernel
  ·rw[nX.mp B]
   exact JB ⋯ (by have:=h 0;omega)
 | s+1,x,B=>by
  rcases oz.mp B with B | B
  ·exact wC I J h s x B
  ·rcases mJ.mp B with rfl | B
   ·rw[J9]
    intro z;rcases mJ.mp z with z | z
    ·split at z<;>omega
    ·rcases oz.mp z with z | z
     ·have:=xO (J s) z;omega
     ·have:=nX.mp z
      split at this<;>omega
   ·rw[nX.mp B]
    exact JB ⋯ (by have:=h<|s+1;omega)
theorem ZN(I:p=2\/p=3\/p=5\/p=7)(t:m<=5)(M : ∀k i j,0<=T k i j/\T k i j<p)(h : ∀k,wd k<=20)(H:xP (λk=>(wd k:Int)) (m+1)<=30):qD [.str (jC p m w wd T)]=b8 (.val<|kO p m w wd T):=by
 have hl:=je;have O : ∀k i j,0<=T k i j/\T k i j<10:=λk i j=>⟨(M k i j).1,by have:=(M k i j).2;omega⟩;let W:=zM p w wd T m;let L:D:= .lst (W.map D.str);let B:D:= .tup (z5 (m+1) λk=>(wd k:Int));have R:W.length=2*m+2:=zP m;have len:(jC p m w wd T).length<=20000:=by
  rw[jA];unfold jC;rw[qA];have:=v7 (c:=32) (n:=1000) (l:=W.map ey) λa C=>by obtain⟨x,E,rfl⟩:=nH.mp C;have:=of_decide_eq_true<|xc I O h m x E;rw[jA]at this;exact this
  rw[mZ,R]at this;show(kf 32<|W.map ey).length<=20000;omega
 have sp:oM (jC p m w wd T) (zS 32)=W:=vn (λz=>by have:=zP (p:=p) (w:=w) (wd:=wd) (T:=T) m;rw[z]at this;simp at this) (wC I O h m);have Z:j8 1 (wA (kN (zf 0) (zh (.str " ")))) [.val (.str (jC p m w wd T)),.no,.no,.no,.no]=b8 (.next [.val (.str (jC p m w wd T)),.val L,.no,.no,.no]):=by
  have:kN (zf 0) (zh (.str " ")) [.val (.str (jC p m w wd T)),.no,.no,.no,.no]=b8 (W.map D.str):=by show(if (jC p m w wd T).length<=20000/\((" " : Str).length==0)=cq then b8 ((oM (jC p m w wd T) " ").map D.str)else cp)=_;rw[GY ⟨len,by decide +kernel⟩,yN,sp]
  rw[k0,QA,this];rfl
 have u:=Y3 (w:=w) I t O h;have w0:W[0]? = b8 (jR p++zS 58):=by
  have : ∀s,(zM p w wd T s)[0]? = b8 (jR p++zS 58):=λs=>by
   induction s with
   | zero=>rfl
   | succ s K=>rw[zM,nk (by rw[zP];omega)];exact K
  exact this m
 have s3:j8 2 (y9<|JG (dk (zk 1)<|zh<|.int 0) yw<|e4<|ZL<|zh<|.int 1) [.val (.str<|jC p m w wd T),.val L,.no,.no,.no]=b8 (.next [.val (.str<|jC p m w wd T),.val L,.val<|.int p,.no,.no]):=by
  have N:dk (zk 1) (zh<|.int 0) [.val (.str<|jC p m w wd T),.val L,.no,.no,.no]=b8 (.str<|jR p++zS 58):=by
   have e:(W.map D.str)[0]? = b8 (.str<|jR p++zS 58):=by rw[ny,w0];rfl
   have x0:g5 (W.map D.str).length 0=b8 0:=Ji rfl (by rw[mZ,R];omega);show((b8 (0:Int)).bind λi=>(g5 (W.map D.str).length i).bind λk=>(W.map D.str)[k]?)=_;rw[mH,x0,mH,e]
  have sh:zm (jR p++zS 58)=b9:=by rcases I with rfl | rfl | rfl | rfl<;>decide +kernel
  have r:=yp N sh (l:=yw) (h:=e4<|ZL<|zh<|.int 1) (lo:=cp) (hi:=b8 (-1)) rfl rfl;rw[show oN (jR p++zS 58) cp (b8 (-1))=jR p by rcases I with rfl | rfl | rfl | rfl<;>decide +kernel]at r;rw[k0,vY r ⋯ ⋯];rfl
 have Y : ∀(F:GZ) (G:Nat->Str) (n:Nat) (lo hi st:Option Int),ZS (2*m+2) lo hi st=(mG n).map F->(∀k,k<n->W[F k]? = b8 (G k))->qz (W.map D.str) lo hi st=(mG n).map λk=>D.str (G k):=λF G n lo hi st b d=>by unfold qz;rw[mZ,R,b];exact VC λk J=>by rw[ny,d k (nM.mp J)];rfl
 have Q:=Y (λk=>2*k+1) (λk=>jR (wd k:Int)) (m+1) (b8 1) cp (b8 2) (aT t) λk J=>vE m k ⋯;have S:=Y (λk=>2*k+2) (xG w wd T) m (b8 2) cp (b8 2) (Wr t) λk J=>yl m k J;have wg:=VM t H;have o : ∀(g:Ctx) (a:Int) (X:List D),g[1]? = b8 (.val L)->qz (W.map D.str) (b8 a) cp (b8 2)=X->X.length<=lim->XA (zk 1) (e4<|zh<|.int a) yw (e4<|zh<|.int 2) g=b8 X:=λg a X b d y=>by unfold XA;rw[KP,b];show(if (b8 (2:Int))=b8 0 then cp else if (qz (W.map D.str) (b8 a) cp<|some 2).length<=lim then b8 (qz (W.map D.str) (b8 a) cp<|some 2)else cp)=_;rw[MQ ⋯,d,GY y]
 have s4:j8 3 (zu qd<|zc (wA<|zN (zQ<|zV<|XA (zk 1) (e4<|zh<|.int 1) yw<|e4<|zh<|.int 2) (.nm 0) 1 [] jq (y9<|zf 0)) zB) [.val (.str<|jC p m w wd T),.val L,.val<|.int p,.no,.no]=b8 (.next [.val (.str<|jC p m w wd T),.val L,.val<|.int p,.val B,.no]):=by
  have x:=o [.val (.str<|jC p m w wd T),.val L,.val<|.int p,.no,.no] 1 _ rfl Q (by simp;omega);have f:zH (.nm 0) jq (y9<|zf 0) [.no] ((mG<|m+1).map λ(k:Nat)=>D.str<|jR (wd k:Int))=b8 (z5 (m+1) λk=>(wd k:Int)):=by rw[zF];refine zw _ _ λk _=>zx rfl rfl ?_;have:=h k;exact vY rfl ⋯ ⋯
  have U:zN (zQ<|zV<|XA (zk 1) (e4<|zh<|.int 1) yw<|e4<|zh<|.int 2) (.nm 0) 1 [] jq (y9<|zf 0) [.val (.str<|jC p m w wd T),.val L,.val<|.int p,.no,.no]=b8 (z5 (m+1) λk=>(wd k:Int)):=by rw[qu,QB,xI,x];show(if ((mG<|m+1).map λ(k:Nat)=>D.str<|jR (wd k:Int)).length<=lim then zH _ _ _ [.no] _ else cp)=_;rw[GY (by simp;omega),f]
  rw[k0,KU,yV,QA,U];simp[wg,B]
 have s5:j8 4 (wA<|zN (yx<|wA<|XA (zk 1) (e4<|zh<|.int 2) yw<|e4<|zh<|.int 2) (.tp [0,1]) 2 [2,3] jq (zu jo<|zc (zf 2)<|zc (zf 3)<|zc (zf 0)<|zc (zf 1) zB)) [.val (.str<|jC p m w wd T),.val L,.val<|.int p,.val B,.no]=b8 (.next [.val (.str<|jC p m w wd T),.val L,.val<|.int p,.val B,.val (.lst<|jt m w wd T)]):=by
  have x:=o [.val (.str<|jC p m w wd T),.val L,.val<|.int p,.val B,.no] 2 _ rfl S (by simp;omega);have f:zH (.tp [0,1]) jq (zu jo<|zc (zf 2)<|zc (zf 3)<|zc (zf 0)<|zc (zf 1) zB) [.no,.no,.val<|.int p,.val B] ((mG m).map λ(k:Nat)=>D.tup [.int k,.str (xG w wd T k)])=b8 (jt m w wd T):=by unfold jt;refine zw _ _ λk J=>zx rfl rfl ?_;have:=wq (w:=w) I h (nM.mp J) M;simp[B,this]
  have U:zN (yx<|wA<|XA (zk 1) (e4<|zh<|.int 2) yw<|e4<|zh<|.int 2) (.tp [0,1]) 2 [2,3] jq (zu jo<|zc (zf 2)<|zc (zf 3)<|zc (zf 0)<|zc (zf 1) zB) [.val (.str<|jC p m w wd T),.val L,.val<|.int p,.val B,.no]=b8 (jt m w wd T):=by
   have A:yx (wA<|XA (zk 1) (e4<|zh<|.int 2) yw<|e4<|zh<|.int 2) [.val (.str<|jC p m w wd T),.val L,.val<|.int p,.val B,.no]=b8 ((mG m).map λ(k:Nat)=>D.tup [.int k,.str (xG w wd T k)]):=by show((XA _ _ _ _ _).map _).bind _=_;rw[x];show b8 (yc<|(mG m).map λk=>D.str<|xG w wd T k)=_;rw[vA]
   rw[qu,A,mH,GY (by simp;omega)];exact f
  rw[k0,QA,U];rfl
 unfold qD;refine jK<|zt Z<|zt (γ':=[.val (.str<|jC p m w wd T),.val L,.no,.no,.no]) ?_ (zt s3<|zt s4<|zt s5 ?_)
 ·simp[L,W,u]
 ·have P:3<=lim:=by omega
  simp[P,B,kO]
end
theorem bI:xm=jh 9 (zG vr<|zG wb<|zG wh<|zG wy<|zG Aq<|zG (wQ (zT<|k6<|zf 2) (.nm 7)<|zG bH<|zG da cZ)<|jv<|yZ<|zc (zf 1)<|zc (zY<|zk 5)<|zc (zY<|zk 6) zB):=rfl
theorem VP:yY=jh 6 (zG VX<|zG VW<|zG VU<|zG Xo<|zG VT<|zG VS<|zG VR VQ):=rfl
theorem YU(n j:Nat)(g:Nat->Int)(v:Int):(z5 n g).set j (.int v)=z5 n λk=>if k=j then v else g k:=by
 refine List.ext_getElem ⋯ λi b d=>?_;rw[List.getElem_set];simp[zF];by_cases e:j=i
 ·subst e;simp
 ·have a : ¬i=j:=λz=>e z.symm
  simp[e,a]
theorem K7{p:Int}{w:GX}{wd:GZ}{T:GV}(I:p=2\/p=3\/p=5\/p=7)(J : ∀k i j,0<=T k i j/\T k i j<10)(h : ∀k,wd k<=20) : ∀s,∀x∈zM p w wd T s,∀c∈ey x,c<0x110000:=by
 have b : ∀k:Fin 31,∀c∈ey (jR ((k:Nat):Int)),c<0x110000:=by decide +kernel
 have a : ∀n:Nat,n<=20->∀c∈ey (jR (n:Int)),c<0x110000:=λn d=>b ⟨n,by omega⟩;intro s
 induction s with
 | zero=>
  intro x B;rcases mJ.mp B with rfl | B
  ·rcases I with rfl | rfl | rfl | rfl<;>decide +kernel
  ·rw[nX.mp B]
   exact a _<|h 0
 | succ s M=>
  intro x B;rcases oz.mp B with B | B
  ·exact M x B
  ·rcases mJ.mp B with rfl | B
   ·rw[J9]
    intro c z;rcases mJ.mp z with z | z
    ·split at z<;>omega
    ·rcases oz.mp z with z | z
     ·have:=xO (J s) z;omega
     ·have:=nX.mp z
      split at this<;>omega
   ·rw[nX.mp B]
    exact a _<|h<|s+1
section
variable{p:Int}{m:Nat}{w:GX}{ns:List Int}
theorem VN(R:ns.length<=63)(t:0<p)(hm:m<=5) : ∃wd T,xm [yd ns,.int p,.str (ZE m w)]=b8 (.val<|kO p m w wd T)/\(∀k,wd k<=20)/\xP (λk=>(wd k:Int)) (m+1)<=30/\∀k i j,0<=T k i j/\T k i j<p:=by
 have hl:=je;have bi:m<=lim:=by omega
 have s:m+1<=lim:=by omega
 obtain⟨H,a0,_⟩:=yI R (k:=160) ⋯ ⋯;obtain⟨K,a7,_⟩:=yI R (k:=170) ⋯ ⋯;obtain⟨B,u,bm⟩:=vx (m:=yJ ns 160) ((m:Int)+1) ⋯;let g:Nat->Int:=λk=>yJ ns (161+(k:Int))%2;have W : ∀k,0<=g k/\g k<2:=λk=>⟨oP _ ⋯,ow _ ⋯⟩;let wd:Nat->Nat:=λk=>if k=B then (9+yJ ns 170%12).toNat else (g k).toNat;have N : ∀k,(if k=B then 9+yJ ns 170%12 else g k)=(wd k:Int):=λk=>by show _=(((if k=B then (9+yJ ns 170%12).toNat else (g k).toNat):Nat):Int);have:=W k;split<;>omega
 have U : ∀k,wd k<=20:=λk=>by have:=W k;show(if k=B then (9+yJ ns 170%12).toNat else (g k).toNat)<=20;split<;>omega
 have sm : ∀n,xP (λk=>(wd k:Int)) n<=n+(if B<n then 20 else 0):=by
  intro n
  induction n with
  | zero=>simp[xP]
  | succ n Y=>
   simp only[xP];have Q:=W n;have S:=U n;by_cases e:n=B
   ·subst e
    rw[MQ ⋯]at Y;rw[GY ⋯];omega
   ·have:wd n<=1:=by
     show(if n=B then (9+yJ ns 170%12).toNat else (g n).toNat)<=1;rw[MQ e];omega
    by_cases c:B<n
    ·rw[GY c]at Y
     rw[GY ⋯];omega
    ·rw[MQ c]at Y
     rw[MQ ⋯];omega
 let T:Nat->Nat->Nat->Int:=λk i j=>vi ns p<|(((171+23*k:Nat):Int))+(i:Int)*((ew w wd k:Nat):Int)+(j:Int);refine⟨wd,T,?_,U,by have:=sm<|m+1;split at this<;>omega,λk i j=>Xs t⟩;have tab : ∀k,k<m->jm [yd ns,.int<|171+23*(k:Int),.int p,.int (e6 w wd k:Nat),.int (ew w wd k:Nat)]=b8 (.val<|vd (e6 w wd k) (ew w wd k)<|T k):=λk M=>by have Q:=K4 (w:=w) U k;have S:=QF (w:=w) U k;have:=xB R t (a:=171+23*k) (h:=e6 w wd k) (w:=ew w wd k) ⋯ ⋯ ⋯;rw[show(((171+23*k:Nat)):Int)=171+23*(k:Int)by omega]at this;rw[this];show _=b8 (Res.val<|vd _ _ λi j=>vi ns p<|(((171+23*k:Nat):Int))+(i:Int)*((ew w wd k:Nat):Int)+(j:Int));rw[show(((171+23*k:Nat)):Int)=171+23*(k:Int)by omega]
 let z:Cell->Cell->Cell->Cell->Ctx:=λC E O I=>[.val (yd ns),.val<|.int p,.val<|.str<|ZE m w,.val<|.int<|(m:Int)+1,.val<|.int (B:Int),C,E,O,I];let V:=z5 (m+1) λk=>(wd k:Int);obtain⟨γ',Z,O,I,rfl⟩:=vy (T:= .nm 7) (F:=zG bH<|zG da cZ) (f:=k6<|zf 2)
  (λk γ=>∃O I,γ=z (.own V) (.own<|jt k w wd T) O I) m ⋯ (γ:=z (.own V) (.own []) .no .no)
  (by simp[z,xK,qw w (show m<=1000 by omega)]) ⟨_,_,rfl⟩ λk M γ b=>by
    obtain⟨O,I,rfl⟩:=b;have x:k<lim:=by omega
    have o:g5 (m+1) ((k:Int)+1)=b8 (k+1):=Ji ⋯ ⋯;have d:k+1<m+1:=by omega
    have l:k<m+1:=by omega
    have G:ZG 23 (k:Int)=b9:=J7 _ _ ⋯ ⋯;have app:jt (k+1) w wd T=jt k w wd T++[xH w wd T k]:=by simp[jt,pN]
    have tk:=tab k M;have r : ∀I:Cell,qg (zf 2) (zf 7) (z (.own V) (.own<|jt k w wd T) (.val<|.int k) I)=b8 (.str<|zS<|eV<|w k):=λI=>wI w ⋯ M _ _ _ rfl rfl;refine⟨_,z (.own V) (.own<|jt (k+1) w wd T) (.val<|.int k)<|.val<|.tup [.int (e6 w wd k:Nat),.int (ew w wd k:Nat)],rfl,?_,_,_,rfl⟩;refine zt (γ':=z (.own V) (.own<|jt k w wd T) (.val<|.int k)<|.val<|.tup [.int (wd (k+1):Int),.int (wd k:Int)]) ?_ (zt (γ':=z (.own V) (.own<|jt k w wd T) (.val<|.int k)<|.val<|.tup [.int (e6 w wd k:Nat),.int (ew w wd k:Nat)]) ?_ ?_)
    ·show bH (z (.own V) (.own<|jt k w wd T) (.val<|.int k) I)=_
     have J:2<=lim:=by omega
     simp[bH,z,V,o,d,l,J]
    ·unfold da
     rw[Jv,W5,QC,r];have J:2<=lim:=by omega
     simp[-j5,VD];cases hw:w k with
     | true=>simp[z,V,o,d,l,J,e6,ew,hw]
     | false=>simp[z,e6,ew,hw]
    ·unfold cZ
     have J:2<=lim:=by omega
     rw[app];have y:qg (zf 2) (zf 7) [.val (yd ns),.val<|.int p,.val<|.str<|ZE m w,.val<|.int<|(m:Int)+1,.val<|.int (B:Int),.own V,.own<|jt k w wd T,.val<|.int k,.val (.tup [.int (e6 w wd k:Nat),.int (ew w wd k:Nat)])]=b8 (.str<|zS<|eV<|w k):=r _;simp[-j5,z,G,tk,x,xH,J];rw[y];simp[J]
 have A:g5 (m+1) (B:Int)=b8 B:=by rw[jN,GY ⋯]
 have m1:(0:Int)<(m:Int)+1:=by omega
 have P:zH (.nm 0) jq (zv qR (zu zy<|zc (zf 1)<|zc (zv qf (zh<|.int 161)<|zf 0) zB)<|zh<|.int 2) [.no,.val (yd ns)] ((mG<|m+1).map λ(i:Nat)=>D.int i)=b8 (z5 (m+1) g):=by rw[zF];refine zw _ _ λk M=>zx rfl rfl ?_;have:=nM.mp M;simp[(yI R (k:=161+(k:Int)) ⋯ ⋯).1,g]
 have L:(z5 (m+1) g).set B (.int<|9+yJ ns 170%12)=V:=by rw[YU];exact YV λk _=>N k
 have r1:inR ((m:Int)+1)=b9:=kY ⋯ ⋯;rw[bI];refine jK<|zt (γ':=[.val (yd ns),.val<|.int p,.val<|.str<|ZE m w,.val<|.int<|(m:Int)+1,.no,.no,.no,.no,.no]) ?_ (zt (γ':=z .no .no .no .no) ?_ (zt (γ':=z (.own<|z5 (m+1) g) .no .no .no) ?_ (zt (γ':=z (.own V) .no .no .no) ?_ (zt (γ':=z (.own V) (.own []) .no .no) rfl<|zt Z ?_))))
 ·simp[vr,jj,mI,xK,qw w (show m<=1000 by omega)]
 ·simp[wb,z,H,m1,u]
 ·have rg:zT (zf 3) (z .no .no .no .no)=b8 ((mG<|m+1).map λ(i:Nat)=>D.int (i:Int)):=by
   rw[kj];have:((m:Int)+1).toNat=m+1:=by omega
   simp[z,r1,jS,zF,this]
  unfold wh;rw[WT,qu,rg,mH,GY (by simpa using s)];show(zH _ _ _ [.no,.val (yd ns)] _).map _=_;rw[P];rfl
 ·have:=L
  simp[wy,z,K,A];exact⟨by omega,this⟩
 ·have X:3<=lim:=by omega
  simp[z,V,kO,X]
end
theorem fG(t:List Int)(J:t.length<=63):yY [yd t]=b8 (.val<|.bl b9):=by
 have hl:=je;obtain⟨R,a0,_⟩:=yI J (k:=0) ⋯ ⋯;obtain⟨L,r,_⟩:=yI J (k:=1) ⋯ ⋯;obtain⟨p,N,ix,M⟩:=ZR a0;have f:0<p:=by omega
 obtain⟨m,w,d,P⟩:=wu r;obtain⟨O,U,s,u,y⟩:=ZA J f (a0:=2) (m:=m) (most:=5) ⋯ ⋯ w ⋯;have e : ∀k,O k<=4:=λk=>by have:=u k;omega
 obtain⟨A,o,C,as,E,F⟩:=VN (w:=w) J f d;let B:Cell->Cell->Cell->Ctx:=λG H K=>[.val (yd t),.val<|.int p,.val<|.str<|ZE m w,G,H,K];obtain⟨b,T,h,Q,W,s4⟩ : ∃(b:GZ) (T:GV),(∀k,b k<=20)/\xP (λk=>(b k:Int)) (m+1)<=30/\(∀k i j,0<=T k i j/\T k i j<p)/\Xo (B (.val<|kO p m w O U) .no .no)=b8 (.next<|B (.val<|kO p m w b T) .no .no):=by
  by_cases I:yJ t 0/4%6=5
  ·exact⟨A,o,as,E,F,by simp[Xo,B,R,I,C]⟩
  ·exact⟨O,U,λk=>by have:=e k;omega,by have:=Yg e<|m+1;omega,y,by simp[Xo,B,R,I]⟩
 have Y : ∀k i j,0<=T k i j/\T k i j<10:=λk i j=>⟨(W k i j).1,by have:=(W k i j).2;omega⟩;have l:=ZM (w:=w) M d Y h;have lt:=Jh (w:=w) M d Y h;have g:=ZN (w:=w) M d W h Q;have Z:=Jx (p:=p) w b T (show m<=900 by omega) (λk=>by have:=h k;omega);have ok:g8 (.str<|jC p m w b T)=b9:=Kc (n:=0) (by simp[deep]) ⋯ (by
  show(jC p m w b T).cps.all (· < 0x110000)=b9;rw[<- Array.all_toList];refine nO.mpr λc I=>decide_eq_true ?_;have I:c∈ey (jC p m w b T):=I;unfold jC at I;rw[qA]at I;rcases vZ I with z | ⟨a,ha,I⟩
  ·omega
  ·obtain⟨x,S,rfl⟩:=nH.mp ha
   exact K7 M Y h m x S c I)
 have nq:=v9 ok;have eq:=wa ok;let X:D:= .str (jC p m w b T);rw[VP];refine jK<|zt (γ':=[.val (yd t),.val<|.int p,.no,.no,.no,.no]) (by simp[VX,jj,mI,R,ix,N])<|zt (γ':=B .no .no .no) (by simp[VW,B,L,P])<|zt (γ':=B (.val<|kO p m w O U) .no .no) (by simp[VU,B];exact⟨_,s,rfl⟩)<|zt s4<|zt (γ':=B (.val<|kO p m w b T) (.val X) .no) (by simp[VT,B,lt,X])<|zt (γ':=B (.val<|kO p m w b T) (.val X)<|.val X) (by simp[VS,B,l,X])<|zt (γ':=B (.val<|kO p m w b T) (.val X)<|.val X) ?_ ?_
 ·simp[VR,B,X,vX,nq,g,Z]
 ·simp[VQ,B,X,g,l,eq]
noncomputable def top(i:Nat):PySem.Stmt:=PySem.Challenge.pw_barsplit_k13_whole_texts_both_ways.main.body.getD i<|.Pass ⟨0,0,0,0⟩
section
variable{CR CL:PySem.Addr}{P:PySem.Program}{w:PySem.World}{K:mD}{mg:PySem.Str->Option PySem.Value}{base:PySem.Heap}
theorem Jg(h:us.length=n+1) : ∃a t,us=a::t/\t.length=n:=by
 cases us with
 | nil=>exact absurd h<|Nat.zero_ne_add_one n
 | cons a t=>exact⟨a,t,rfl,Nat.succ.inj h⟩
theorem mz(h:us.length=1) : ∃a,us=[a]:=by obtain⟨a,B,rfl,z⟩:=Jg h;rw[ng z];exact⟨a,rfl⟩
theorem my(h:us.length=2) : ∃a b,us=[a,b]:=by obtain⟨a,B,rfl,z⟩:=Jg h;obtain⟨b,I,rfl,d⟩:=Jg z;rw[ng d];exact⟨a,b,rfl⟩
theorem mx(h:us.length=3) : ∃a b c,us=[a,b,c]:=by obtain⟨a,B,rfl,z⟩:=Jg h;obtain⟨b,I,rfl,d⟩:=Jg z;obtain⟨c,J,rfl,e⟩:=Jg d;rw[ng e];exact⟨a,b,c,rfl⟩
theorem mw(h:us.length=4) : ∃a b c d,us=[a,b,c,d]:=by obtain⟨a,I,rfl,z⟩:=Jg h;obtain⟨b,J,rfl,e⟩:=Jg z;obtain⟨c,M,rfl,f⟩:=Jg e;obtain⟨d,O,rfl,B⟩:=Jg f;rw[ng B];exact⟨a,b,c,d,rfl⟩
theorem mv{C:Type}{t:List C}(h:t.length=5) : ∃a b c d e,t=[a,b,c,d,e]:=by obtain⟨a,J,rfl,z⟩:=Jg h;obtain⟨b,M,rfl,f⟩:=Jg z;obtain⟨c,O,rfl,g⟩:=Jg f;obtain⟨d,R,rfl,B⟩:=Jg g;obtain⟨e,U,rfl,I⟩:=Jg B;rw[ng I];exact⟨a,b,c,d,e,rfl⟩
structure E0(K:mD)(mg:PySem.Str->Option PySem.Value):Prop where
 Q0:fx K mg "is_whole" (top 10) ["x"]
 Q1:fx K mg "is_prime" (top 11) ["p"]
 Q2:fx K mg "rests" (top 12) ["p","numbers"]
 Q3:fx K mg "is_side" (top 13) ["many"]
 Q4:fx K mg "is_listed" (top 14) ["things","many"]
 Q5:fx K mg "is_line" (top 15) ["wide","row"]
 Q6:fx K mg "table_of" (top 16) ["p","high","wide","rows"]
 Q7:fx K mg "beginning_of" (top 21) ["k","way"]
 Q8:fx K mg "end_of" (top 22) ["k","way"]
 Q9:fx K mg "are_widths" (top 23) ["widths"]
 Qa:fx K mg "widths_of" (top 24) ["widths"]
 Qb:fx K mg "arrow_of" (top 25) ["p","widths","k","pair"]
 Qc:fx K mg "table_text" (top 28) ["table"]
 Qd:fx K mg "arrow_text" (top 29) ["arrow"]
 Qe:fx K mg "row_text" (top 30) ["row"]
 Qf:fx K mg "is_prime_word" (top 31) ["word"]
 Qg:fx K mg "is_width_word" (top 32) ["word"]
 Qh:fx K mg "is_arrow_word" (top 33) ["word"]
 Qi:fx K mg "has_form" (top 34) ["place","word"]
 Qj:fx K mg "check_forms" (top 35) ["words"]
 Qk:fx K mg "figures_of" (top 36) ["line"]
 Ql:fx K mg "rows_read" (top 37) ["signs","high"]
 Qm:fx K mg "are_rests" (top 38) ["p","numbers"]
 Qn:fx K mg "arrow_read" (top 39) ["p","widths","k","word"]
 Qo:fx K mg "row_read" (top 40) ["text"]
 Qp:fx K mg "_law_mix" (top 42) ["_law_script","_law_k"]
 Qq:fx K mg "_law_whole" (top 43) ["_law_found"]
 Qr:fx K mg "_law_rests" (top 44) ["_law_found","_law_due"]
 Qs:fx K mg "_law_is_table" (top 45) ["_law_found","_law_due"]
 Qt:fx K mg "_law_table" (top 46) ["_law_script","_law_at","_law_p","_law_high","_law_wide_here"]
 Qu:fx K mg "_law_ways" (top 47) ["_law_cell"]
 Qv:fx K mg "_law_row" (top 48) ["_law_script","_law_at","_law_p","_law_ways_here","_law_most"]
 Qw:fx K mg "_law_is_row" (top 49) ["_law_found","_law_due"]
 Qx:fx K mg "_law_text" (top 50) ["_law_row_here"]
 Qy:fx K mg "_law_wide" (top 51) ["_law_script","_law_p","_law_ways_here"]
 Qz:fx K mg "law" (top 52) ["_law_script"]
 Z0:mg "bool" = cp
 Z1:mg "int" = cp
 Z2:mg "isinstance" = cp
 Z3:mg "tuple" = cp
 Z4:mg "len" = cp
 Z5:mg "list" = cp
 Z6:mg "all" = cp
 Z7:mg "sum" = cp
 Z8:mg "str" = cp
 Z9:mg "zip" = cp
 Za:mg "range" = cp
 Zb:mg "enumerate" = cp
 G0:GL K mg "PRIMES" (.tup [.int 2,.int 3,.int 5,.int 7])
 G1:GL K mg "MOST_HIGH_OR_WIDE" (.int 30)
 G2:GL K mg "MOST_ROOMS" (.int 6)
 G3:GL K mg "MOST_TOGETHER" (.int 30)
 G4:GL K mg "WAYS" (.tup [.str "r",.str "l"])
 G5:GL K mg "TABLE_SIGNS" (.str "0123456789/")
theorem qI(E:E0 K mg):e9 P w K mg base 1 "is_whole" 1 jf:=
 qY (N:=["x"]) E.Q0 ⋯ λX B b I a J z M=>by subst B b I a J;exact zg (zr (kR (wZ z ⋯ E.Z2 ⋯ E.Z1 (zq z)) (kQ (Vi (vp z ⋯ E.Z2 ⋯ E.Z0 (zq z))))))
theorem ZY(E:E0 K mg):e9 P w K mg base 2 "is_prime" 1 kL:=
 qY (N:=["p"]) E.Q1 ⋯ λX B b I a J z M=>by subst B b I a J;exact zg (zr (kR (zI (qI E) z (za (zq z) zl)) (kQ (aK (zq z) (PV.q (w4 z ⋯ E.G0))))))
theorem YH(E:E0 K mg):e9 P w K mg base 1 "rests" 2 kK:=
 qY (N:=["p","numbers"]) E.Q2 ⋯ λX B d I b J z M=>by subst B d I b J;exact zg (zr (jT z ⋯ E.Z3 (PO.q (qp z (jw (zU z)) (λ_ _ _ a=>jr (zq a) (zq a))))))
theorem vw(E:E0 K mg):e9 P w K mg base 2 "is_side" 1 q8:=
 qY (N:=["many"]) E.Q3 ⋯ λX B b I a J z M=>by subst B b I a J;exact zg (zr (kR (zI (qI E) z (za (zq z) zl)) (kQ (Yr X9 X9 wK wK zd (zq z) (w4 z ⋯ E.G1)))))
theorem qW(E:E0 K mg):e9 P w K mg base 1 "is_listed" 2 jc:=
 qY (N:=["things","many"]) E.Q4 ⋯ λX B b I a J z M=>by subst B b I a J;exact zg (zr (kR (XQ z ⋯ E.Z2 ⋯ E.Z5 ⋯ E.Z3 (zq z)) (kQ (Wg z (jV z ⋯ E.Z4 (zU z)) (zq z)))))
theorem QY(E:E0 K mg):e9 P w K mg base 2 "is_line" 2 q9:=
 qY (N:=["wide","row"]) E.Q5 ⋯ λX B d I b J z M=>by subst B d I b J;exact zg (zr (kR (zI (qW E) z (za (zq z) (za (zq z) zl))) (kQ (kS z ⋯ E.Z6 (PO.q (qp z (jw (zU z)) (λ_ _ _ a=>zI (qI E) a (za (zq a) zl))))))))
theorem ZU(E:E0 K mg):e9 P w K mg base 3 "table_of" 4 xl:=
 qY (N:=["p","high","wide","rows"]) E.Q6 ⋯ λX B d I b J z M=>by subst B d I b J;exact by refine ze (zZ (zK (zJ (zI (ZY E) z (za (zq z) zl)))) (zg jW) zz) ?_;refine ze (zZ (xX (jy (zK (zJ (zI (vw E) z (za (zq z) zl)))) (jZ (zK (zJ (zI (vw E) z (za (zq z) zl))))))) (zg jW) zz) ?_;refine ze (zZ (xX (jy (zK (zJ (zI (qW E) z (za (zq z) (za (zq z) zl))))) (jZ (zK (zJ (kS z ⋯ E.Z6 (PO.q (qp z (jw (zU z)) (λ_ _ _ a=>zI (QY E) a (za (zq a) (za (zq a) zl))))))))))) (zg jW) zz) ?_;exact(zg (zr (qh (yB (za (zq z) (za (zq z) (za (jT z ⋯ E.Z3 (PO.q (qp z (jw (zU z)) (λ_ _ _ a=>zI (YH E) a (za (zq a) (za (zq a) zl)))))) zl)))))))
theorem yF(E:E0 K mg):e9 P w K mg base 1 "beginning_of" 2 jU:=
 qY (N:=["k","way"]) E.Q7 ⋯ λX B b I a J z M=>by subst B b I a J;exact zg (zr (yh (qy z (zq z) zR) (zq z) (js (zq z) zd)))
theorem Zg(E:E0 K mg):e9 P w K mg base 1 "end_of" 2 qM:=
 qY (N:=["k","way"]) E.Q8 ⋯ λX B b I a J z M=>by subst B b I a J;exact zg (zr (yh (qy z (zq z) zR) (js (zq z) zd) (zq z)))
theorem vV(E:E0 K mg):e9 P w K mg base 2 "are_widths" 1 qm:=
 qY (N:=["widths"]) E.Q9 ⋯ λX B d I b J z M=>by subst B d I b J;exact by refine ze (zZ (xX (jy (zK (zJ (XQ z ⋯ E.Z2 ⋯ E.Z5 ⋯ E.Z3 (zq z)))) (jZ (zK (XR X9 X9 wK wK zd (jV z ⋯ E.Z4 (zU z)) (w4 z ⋯ E.G2)))))) (zg (zr k7)) zz) ?_;refine ze (zZ (zK (zJ (kS z ⋯ E.Z6 (PO.q (qp z (jw (zU z)) (λ_ _ _ a=>kR (zI (qI E) a (za (zq a) zl)) (kQ (fu (zq a) zd)))))))) (zg (zr k7)) zz) ?_;exact(zg (zr (fm (aJ z ⋯ E.Z7 (zU z)) (w4 z ⋯ E.G3))))
theorem Ze(E:E0 K mg):e9 P w K mg base 3 "widths_of" 1 qd:=
 qY (N:=["widths"]) E.Qa ⋯ λX B b I a J z M=>by subst B b I a J;exact by refine ze (zZ (zK (zJ (zI (vV E) z (za (zq z) zl)))) (zg jW) zz) ?_;exact(zg (zr (jT z ⋯ E.Z3 (zU z))))
theorem Ja(E:E0 K mg):e9 P w K mg base 4 "arrow_of" 4 qE:=
 qY (N:=["p","widths","k","pair","way","table"]) E.Qb ⋯ λX I b J a M B O=>by subst I b J a M;exact by refine ze (zZ (xX (jy (zK (zJ (zI (qW E) B (za (zq B) (za zd zl))))) (jZ (vt (zA (zU B) zd) (PV.q (w4 B ⋯ E.G4)))))) (zg jW) zz) ?_;refine ze (jM B (zA (zU B) zd)) ?_;refine ze (Yu (have z:=B.l6 (λ_ _=>False);XW 5 (z.set 5 ⋯ (zI (ZU E) z (za (zq z) (za (zA (zU z) (zI (Zg E) z (za (zq z) (za (zq z) zl)))) (za (zA (zU z) (zI (yF E) z (za (zq z) (za (zq z) zl)))) (za (zA (zU z) zd) zl)))))))) ?_;exact(zg (zr (qh (yB (za (zq B) (za (zq B) zl))))))
theorem vQ(E:E0 K mg):e9 P w K mg base 1 "table_text" 1 qk:=
 qY (N:=["table"]) E.Qc ⋯ λX B e I d J z M=>by subst B e I d J;exact zg (zr (xD zR (PO.q (qp z (jw (PV.q (zA (zU z) zd))) (λ_ _ _ a=>xD zR (PO.q (qp a (jw (zU a)) (λ_ _ _ b=>qT b ⋯ E.Z8 (zq b)))))))))
theorem vT(E:E0 K mg):e9 P w K mg base 2 "arrow_text" 1 jY:=
 qY (N:=["arrow","table"]) E.Qd ⋯ λX B b I a J z M=>by subst B b I a J;exact by refine ze (jM z (zI (vQ E) z (za (zA (zU z) zd) zl))) ?_;exact(zg (zr (yh (qy z (zA (zU z) zd) zR) (vL (qr zR (qr (JL rfl (zq z)) (qr zR JP)))) (vL (qr zR (qr (JL rfl (zq z)) (qr zR JP)))))))
theorem yC(E:E0 K mg):e9 P w K mg base 3 "row_text" 1 qC:=
 qY (N:=["row","prime","words","arrow","width"]) E.Qe ⋯ λX B b I a J z M=>by subst B b I a J;exact by refine ze (jM z (zA (zU z) zd)) ?_;refine ze (vv z (xZ (yB (za (vL (qr (JL rfl (zq z)) (qr zR JP))) (za (qT z ⋯ E.Z8 (zA (PV.q (zA (zU z) zd)) zd)) zl))))) ?_;refine ze (xY M z (Vp z ⋯ E.Z9 (zA (zU z) zd) (XN (zA (zU z) zd) (jE zd) qV)) (by refine ze (qU 2 z ⋯ (zI (vT E) z (za (zq z) zl))) ?_;exact(zg (qU 2 z ⋯ (qT z ⋯ E.Z8 (zq z)))))) ?_;exact(zg (zr (xD zR (zU z))))
theorem k9(E:E0 K mg):e9 P w K mg base 1 "is_prime_word" 1 jI:=
 qY (N:=["word"]) E.Qf ⋯ λX B d I b J z M=>by subst B d I b J;exact zg (zr (Vj (zq z) (PO.q (qp z (jw (PV.q (w4 z ⋯ E.G0))) (λ_ _ _ a=>vL (qr (JL rfl (zq a)) (qr zR JP)))))))
theorem k8(E:E0 K mg):e9 P w K mg base 1 "is_width_word" 1 jH:=
 qY (N:=["word"]) E.Qg ⋯ λX B d I b J z M=>by subst B d I b J;exact zg (zr (Vj (zq z) (PO.q (qp z (i1.c (jD z ⋯ E.Za (js (w4 z ⋯ E.G3) zd))) (λ_ _ _ a=>qT a ⋯ E.Z8 (zq a))))))
theorem ya(E:E0 K mg):e9 P w K mg base 1 "is_arrow_word" 1 jJ:=
 qY (N:=["word"]) E.Qh ⋯ λX B d I b J z M=>by subst B d I b J;exact by refine ze (zZ (vt (kz (wX (zq z) qV (jE zd)) (wX (zq z) (jE (JK zd)) qV)) (PV.q (qh (yB (za zR (za zR zl)))))) (zg (zr k7)) zz) ?_;exact(zg (zr (kS z ⋯ E.Z6 (PO.q (qp z (i1.c (X0 (wX (zq z) (jE zd) (jE (JK zd))))) (λ_ _ _ a=>Wf (zq a) (w4 a ⋯ E.G5)))))))
theorem ZZ(E:E0 K mg):e9 P w K mg base 2 "has_form" 2 jP:=
 qY (N:=["place","word"]) E.Qi ⋯ λX B b I a J z M=>by subst B b I a J;exact by refine ze (zZ (qy z (zq z) zd) (zg (zr (zI (k9 E) z (za (zq z) zl)))) zz) ?_;refine ze (zZ (qy z (jr (zq z) zd) zd) (zg (zr (zI (k8 E) z (za (zq z) zl)))) zz) ?_;exact(zg (zr (zI (ya E) z (za (zq z) zl))))
theorem va(E:E0 K mg):e9 P w K mg base 3 "check_forms" 1 qN:=
 qY (N:=["words","place","word"]) E.Qj ⋯ λX B b I a J z M=>by subst B b I a J;exact by refine ze (xY M z (X1 z ⋯ E.Zb (zq z)) (zg (zZ (zK (zJ (zI (ZZ E) z (za (zq z) (za (zq z) zl))))) (zg jW) zz))) ?_;exact(zg (zZ (qy z (jr (jV z ⋯ E.Z4 (zU z)) zd) zd) (zg jW) zz))
theorem vS(E:E0 K mg):e9 P w K mg base 1 "figures_of" 1 jX:=
 qY (N:=["line"]) E.Qk ⋯ λX B d I b J z M=>by subst B d I b J;exact zg (vN (qp z (i1.c (X0 (zq z))) (λ_ _ _ a=>ZP a ⋯ E.Z1 (zq a))))
theorem Zf(E:E0 K mg):e9 P w K mg base 2 "rows_read" 2 jx:=
 qY (N:=["signs","high"]) E.Ql ⋯ λX B d I b J z M=>by subst B d I b J;exact by refine ze (zZ (xX (XJ (qy z (zq z) zR) (JJ (qy z (zq z) zd)))) (zg (vN (xZ (yB zl)))) zz) ?_;exact(zg (vN (qp z (jw (PO.q (JO (zq z) zR))) (λ_ _ _ a=>PO.v (aS (vS E) a (za (zq a) zl))))))
theorem Zh(E:E0 K mg):e9 P w K mg base 1 "are_rests" 2 jQ:=
 qY (N:=["p","numbers"]) E.Qm ⋯ λX B d I b J z M=>by subst B d I b J;exact zg (zr (kS z ⋯ E.Z6 (PO.q (qp z (jw (zU z)) (λ_ _ _ a=>fj (zq a) (zq a))))))
theorem vU(E:E0 K mg):e9 P w K mg base 5 "arrow_read" 4 jo:=
 qY (N:=["p","widths","k","word","way","rows"]) E.Qn ⋯ λX B d I b J z M=>by subst B d I b J;exact by refine ze (jM z (yh (zJ (XM (zq z) zR)) zR zR)) ?_;refine ze (jM z (PO.v (aS (Zf E) z (za (wX (zq z) (jE zd) (jE (JK zd))) (za (zA (zU z) (zI (Zg E) z (za (zq z) (za (zq z) zl)))) zl))))) ?_;refine ze (zZ (zK (zJ (kS z ⋯ E.Z6 (PO.q (qp z (jw (zU z)) (λ_ _ _ a=>zI (Zh E) a (za (zq a) (za (zq a) zl)))))))) (zg jW) zz) ?_;exact(zg (zr (zI (Ja E) z (za (zq z) (za (zq z) (za (zq z) (za (qh (yB (za (zq z) (za (zq z) zl)))) zl)))))))
theorem yD(E:E0 K mg):e9 P w K mg base 6 "row_read" 1 qD:=
 qY (N:=["text","words","p","widths","arrows"]) E.Qo ⋯ λX B d I b J z M=>by subst B d I b J;exact by refine ze (jM z (PO.v (JO (zq z) zR))) ?_;refine ze (Yx (zI (va E) z (za (zq z) zl))) ?_;refine ze (jM z (ZP z ⋯ E.Z1 (wX (zA (zU z) zd) qV (jE (JK zd))))) ?_;refine ze (jM z (zI (Ze E) z (za (PO.v (qp z (jw (PO.q (Vn (zU z) (jE zd) qV (jE zd)))) (λ_ _ _ a=>ZP a ⋯ E.Z1 (zq a)))) zl))) ?_;refine ze (Yw 4 (aQ z (i1.c (X1 z ⋯ E.Zb (PO.v (Vn (zU z) (jE zd) qV (jE zd))))) (λ_ _ _ a=>zI (vU E) a (za (zq a) (za (zq a) (za (zq a) (za (zq a) zl))))))) ?_;exact(zg (zr (qh (yB (za (zq z) (za (zq z) (za (jT z ⋯ E.Z3 (zU z)) zl)))))))
theorem jz(E:E0 K mg):e9 P w K mg base 1 "_law_mix" 2 zy:=
 qY (N:=["_law_script","_law_k","_law_cell","_law_digits","_law_turn"]) E.Qp ⋯ λX B b I a J z M=>by subst B b I a J;exact by refine ze (zZ (qy z (jV z ⋯ E.Z4 (zU z)) zd) (zg (zr (jr (qQ (jr (qQ (js (qQ (qQ (zq z) (zq z)) zd) zd) zd) zd) zd) zd))) zz) ?_;refine ze (jM z (zA (zU z) (jr (zq z) (jV z ⋯ E.Z4 (zU z))))) ?_;refine ze (zZ (xX (XJ (aL (jV z ⋯ E.Z4 (zU z)) zd) (JJ (qy z (jr (zA (zU z) zd) zd) zd)))) (by refine ze (jM z (zA (zU z) (js zd (jr (zq z) (Vh (jV z ⋯ E.Z4 (zU z)) zd))))) ?_;refine ze (xY M z (jD z ⋯ E.Za (w5 (zq z) (Vh (jV z ⋯ E.Z4 (zU z)) zd))) (zg (jM z (w5 (zq z) (XO zd zd))))) ?_;exact(zg (zr (jr (zq z) (XO zd zd))))) zz) ?_;exact(zg (zr (jr (qQ (jr (js (js (qQ (jr (zq z) (XO zd zd)) zd) (qQ (qQ (zq z) (zq z)) zd)) zd) zd) zd) zd)))
theorem qi(E:E0 K mg):e9 P w K mg base 1 "_law_whole" 1 jb:=
 qY (N:=["_law_found"]) E.Qq ⋯ λX B b I a J z M=>by subst B b I a J;exact zg (zr (kR (wZ z ⋯ E.Z2 ⋯ E.Z1 (zq z)) (kQ (Vi (vp z ⋯ E.Z2 ⋯ E.Z0 (zq z))))))
theorem kU(E:E0 K mg):e9 P w K mg base 2 "_law_rests" 2 jO:=
 qY (N:=["_law_found","_law_due"]) E.Qr ⋯ λX B d I b J z M=>by subst B d I b J;exact by refine ze (zZ (xX (jy (zK (zJ (jL z ⋯ E.Z2 ⋯ E.Z3 (zq z)))) (jZ (xv z (jV z ⋯ E.Z4 (zU z)) (jV z ⋯ E.Z4 (zU z)))))) (zg (zr k7)) zz) ?_;exact(zg (zr (kR (kS z ⋯ E.Z6 (PO.q (qp z (jw (zU z)) (λ_ _ _ a=>zI (qi E) a (za (zq a) zl))))) (kQ (Wg z (zq z) (zq z))))))
theorem yE(E:E0 K mg):e9 P w K mg base 3 "_law_is_table" 2 ju:=
 qY (N:=["_law_found","_law_due"]) E.Qs ⋯ λX B d I b J z M=>by subst B d I b J;exact by refine ze (zZ (xX (jy (zK (zJ (jL z ⋯ E.Z2 ⋯ E.Z3 (zq z)))) (jy (xv z (jV z ⋯ E.Z4 (zU z)) zd) (jy (zK (zJ (zI (qi E) z (za (zA (zU z) zd) zl)))) (jZ (zK (zJ (zI (qi E) z (za (zA (zU z) zd) zl))))))))) (zg (zr k7)) zz) ?_;refine ze (zZ (xX (jy (xv z (XN (zq z) qV (jE zd)) (XN (zq z) qV (jE zd))) (jy (zK (zJ (jL z ⋯ E.Z2 ⋯ E.Z3 (zA (zU z) zd)))) (jZ (xv z (jV z ⋯ E.Z4 (PV.q (zA (zU z) zd))) (zA (zU z) zd)))))) (zg (zr k7)) zz) ?_;exact(zg (zr (kS z ⋯ E.Z6 (PO.q (qp z (i1.c (jD z ⋯ E.Za (zA (zU z) zd))) (λ_ _ _ a=>zI (kU E) a (za (zA (PV.q (zA (zU a) zd)) (zq a)) (za (zA (PV.q (zA (zU a) zd)) (zq a)) zl))))))))
theorem kT(E:E0 K mg):e9 P w K mg base 2 "_law_table" 5 jm:=
 qY (N:=["_law_script","_law_at","_law_p","_law_high","_law_wide_here","_law_rows","_law_i","_law_row_here","_law_j","_law_cell"]) E.Qt ⋯ λX I b J a M z B=>by subst I b J a M;exact by refine ze (vv z (xZ (yB zl))) ?_;refine ze (xY B z (jD z ⋯ E.Za (zq z)) (by refine ze (vv z (xZ (yB zl))) ?_;refine ze (xY B z (jD z ⋯ E.Za (zq z)) (by refine ze (jM z (zI (jz E) z (za (zq z) (za (js (js (zq z) (qQ (zq z) (zq z))) (zq z)) zl)))) ?_;exact(zg (qU 7 z ⋯ (qQ (jr (zq z) (zq z)) (We z ⋯ E.Z1 (ft (jr (w5 (zq z) zd) zd) zd))))))) ?_;exact(zg (qU 5 z ⋯ (jT z ⋯ E.Z3 (zU z)))))) ?_;exact(zg (zr (qh (yB (za (zq z) (za (zq z) (za (jT z ⋯ E.Z3 (zU z)) zl)))))))
theorem ZW(E:E0 K mg):e9 P w K mg base 1 "_law_ways" 1 xn:=
 qY (N:=["_law_cell","_law_many"]) E.Qu ⋯ λX B d I b J z M=>by subst B d I b J;exact by refine ze (jM z (jr (zq z) zd)) ?_;exact(zg (zr (xD zR (PO.q (qp z (i1.c (jD z ⋯ E.Za (zq z))) (λ_ _ _ a=>xW zR (jr (w5 (zq a) (zA (PO.q (xZ (yB (za zd (za zd (za zd (za zd (za zd zl)))))))) (zq a))) zd)))))))
theorem QX(E:E0 K mg):e9 P w K mg base 3 "_law_row" 5 km:=
 qY (N:=["_law_script","_law_at","_law_p","_law_ways_here","_law_most","_law_widths","_law_arrows","_law_k","_law_sizes"]) E.Qv ⋯ λX B d I b J z M=>by subst B d I b J;exact by refine ze (jM z (jT z ⋯ E.Z3 (PO.q (qp z (i1.c (jD z ⋯ E.Za (js (vK z ⋯ E.Z4 (zq z)) zd))) (λ_ _ _ a=>jr (zI (jz E) a (za (zq a) (za (js (zq a) (zq a)) zl))) (zq a)))))) ?_;refine ze (vv z (xZ (yB zl))) ?_;refine ze (xY M z (jD z ⋯ E.Za (vK z ⋯ E.Z4 (zq z))) (by refine ze (jM z (qh (yB (za (zA (zU z) (js (zq z) zd)) (za (zA (zU z) (zq z)) zl))))) ?_;refine ze (zZ (qy z (xW (zq z) (zq z)) zR) (zg (jM z (qh (yB (za (zA (zU z) (zq z)) (za (zA (zU z) (js (zq z) zd)) zl)))))) zz) ?_;exact(zg (qU 6 z ⋯ (qh (yB (za (xW (zq z) (zq z)) (za (zI (kT E) z (za (zq z) (za (js (js (zq z) zd) (qQ zd (zq z))) (za (zq z) (za (zA (zU z) zd) (za (zA (zU z) zd) zl)))))) zl)))))))) ?_;exact(zg (zr (qh (yB (za (zq z) (za (zq z) (za (jT z ⋯ E.Z3 (zU z)) zl)))))))
theorem vR(E:E0 K mg):e9 P w K mg base 4 "_law_is_row" 2 ql:=
 qY (N:=["_law_found","_law_due","_law_arrow","_law_other"]) E.Qw ⋯ λX B b I a J z M=>by subst B b I a J;exact by refine ze (zZ (xX (jy (zK (zJ (jL z ⋯ E.Z2 ⋯ E.Z3 (zq z)))) (jy (xv z (jV z ⋯ E.Z4 (zU z)) zd) (jy (zK (zJ (zI (qi E) z (za (zA (zU z) zd) zl)))) (jZ (xv z (zA (zU z) zd) (zA (zU z) zd))))))) (zg (zr k7)) zz) ?_;refine ze (zZ (xX (jy (zK (zJ (zI (kU E) z (za (zA (zU z) zd) (za (zA (zU z) zd) zl))))) (jy (zK (zJ (jL z ⋯ E.Z2 ⋯ E.Z3 (zA (zU z) zd)))) (jZ (xv z (jV z ⋯ E.Z4 (PV.q (zA (zU z) zd))) (jV z ⋯ E.Z4 (PV.q (zA (zU z) zd)))))))) (zg (zr k7)) zz) ?_;refine ze (xY M z (Vp z ⋯ E.Z9 (zA (zU z) zd) (zA (zU z) zd)) (by refine ze (zZ (xX (jy (zK (zJ (jL z ⋯ E.Z2 ⋯ E.Z3 (zq z)))) (jy (xv z (jV z ⋯ E.Z4 (zU z)) zd) (jZ (xv z (zA (zU z) zd) (zA (zU z) zd)))))) (zg (zr k7)) zz) ?_;exact(zg (zZ (xX (jy (zK (zJ (wY z ⋯ E.Z2 ⋯ E.Z8 (zA (zU z) zd)))) (jZ (zK (zJ (zI (yE E) z (za (zA (zU z) zd) (za (zA (zU z) zd) zl)))))))) (zg (zr k7)) zz)))) ?_;exact(zg (zr k7))
theorem ZX(E:E0 K mg):e9 P w K mg base 1 "_law_text" 1 xo:=
 qY (N:=["_law_row_here","_law_words","_law_k","_law_way","_law_table_here","_law_figures"]) E.Qx ⋯ λX B e I d J z M=>by subst B e I d J;exact by refine ze (vv z (xZ (yB (za (kz (qT z ⋯ E.Z8 (zA (zU z) zd)) zR) (za (qT z ⋯ E.Z8 (zA (PV.q (zA (zU z) zd)) zd)) zl))))) ?_;refine ze (xY M z (jD z ⋯ E.Za (jV z ⋯ E.Z4 (PV.q (zA (zU z) zd)))) (by refine ze (Yv (iS z) (zA (PV.q (zA (zU z) zd)) (zq z))) ?_;refine ze (jM z (xD zR (PO.q (qp z (jw (PV.q (zA (zU z) zd))) (λ_ _ _ a=>xD zR (PO.q (qp a (jw (zU a)) (λ_ _ _ b=>qT b ⋯ E.Z8 (zq b))))))))) ?_;refine ze (qU 1 z ⋯ (Wh z (kz (kz zR (zq z)) zR) (kz (kz zR (zq z)) zR) (zq z))) ?_;exact(zg (qU 1 z ⋯ (qT z ⋯ E.Z8 (zA (PV.q (zA (zU z) zd)) (js (zq z) zd))))))) ?_;exact(zg (zr (xD zR (zU z))))
theorem ZV(E:E0 K mg):e9 P w K mg base 3 "_law_wide" 3 xm:=
 qY (N:=["_law_script","_law_p","_law_ways_here","_law_many","_law_at","_law_widths","_law_arrows","_law_k","_law_sizes"]) E.Qy ⋯ λX B d I b J z M=>by subst B d I b J;exact by refine ze (jM z (js (vK z ⋯ E.Z4 (zq z)) zd)) ?_;refine ze (jM z (jr (zI (jz E) z (za (zq z) (za zd zl))) (zq z))) ?_;refine ze (JM 5 (aQ z (i1.c (jD z ⋯ E.Za (zq z))) (λ_ _ _ a=>jr (zI (jz E) a (za (zq a) (za (js zd (zq a)) zl))) zd))) ?_;refine ze (XU 5 z ⋯ (zq z) (js zd (jr (zI (jz E) z (za (zq z) (za zd zl))) zd))) ?_;refine ze (vv z (xZ (yB zl))) ?_;refine ze (xY M z (jD z ⋯ E.Za (vK z ⋯ E.Z4 (zq z))) (by refine ze (jM z (qh (yB (za (zA (zU z) (js (zq z) zd)) (za (zA (zU z) (zq z)) zl))))) ?_;refine ze (zZ (qy z (xW (zq z) (zq z)) zR) (zg (jM z (qh (yB (za (zA (zU z) (zq z)) (za (zA (zU z) (js (zq z) zd)) zl)))))) zz) ?_;exact(zg (qU 6 z ⋯ (qh (yB (za (xW (zq z) (zq z)) (za (zI (kT E) z (za (zq z) (za (js zd (qQ zd (zq z))) (za (zq z) (za (zA (zU z) zd) (za (zA (zU z) zd) zl)))))) zl)))))))) ?_;exact(zg (zr (qh (yB (za (zq z) (za (jT z ⋯ E.Z3 (zU z)) (za (jT z ⋯ E.Z3 (zU z)) zl)))))))
theorem hB(D:L2.r9 K "law" "law" (top 52) f fd)(E:E0 K mg):l7 P w K mg base m5 7 f fd ["_law_script"] (l9 K 1 yY):=
 fQ (N:=["_law_script","_law_p","_law_ways_here","_law_row_here","_law_text_here","_law_found"]) D ⋯ λX B b I a J z M=>by subst B b I a J;exact by refine ze (jM z (zA (PO.q (xZ (yB (za zd (za zd (za zd (za zd zl))))))) (jr (zI (jz E) z (za (zq z) (za zd zl))) zd))) ?_;refine ze (jM z (zI (ZW E) z (za (zI (jz E) z (za (zq z) (za zd zl))) zl))) ?_;refine ze (jM z (zI (QX E) z (za (zq z) (za zd (za (zq z) (za (zq z) (za zd zl))))))) ?_;refine ze (zZ (qy z (jr (w5 (zI (jz E) z (za (zq z) (za zd zl))) zd) zd) zd) (zg (jM z (zI (ZV E) z (za (zq z) (za (zq z) (za (zq z) zl)))))) zz) ?_;refine ze (jM z (zI (ZX E) z (za (zq z) zl))) ?_;refine ze (jM z (zI (yC E) z (za (zq z) zl))) ?_;refine ze (zZ (xX (jy (zK (zJ (wY z ⋯ E.Z2 ⋯ E.Z8 (zq z)))) (jy (xv z (zq z) (zq z)) (jZ (zK (zJ (zI (vR E) z (za (zI (yD E) z (za (zq z) zl)) (za (zq z) zl))))))))) (zg (zr k7)) zz) ?_;exact(zg (zr (Wg z (zI (yC E) z (za (zI (yD E) z (za (zq z) zl)) zl)) (zq z))))
end
end DL
namespace PySem.W.Fast
def tw12565364951842121507:=0
def tw7880768391982861716:=0
def tw14111217171214319152:=0
def tw10157226798917669838:=0
def tw13775481230626660889:=0
def tw9400995145063219406:=0
def tw16835523871896427883:=0
def tw18274815137410377890:=0
def tw2606338790266863217:=0
def tw4605427975041644297:=0
def tw2661757639533193765:=0
def tw751053001534768123:=0
def tw17681334642829609058:=0
def tw1157981927889718436:=0
def tw7760433346448494742:=0
def tw5585600387494986764:=0
def tw646079603182931127:=0
def tw15463000695257657232:=0
def tw8747089415065437807:=0
def tw10428865301756167440:=0
def tw6560025469214997433:=0
def tw10103291704082749707:=0
def tw6300197022154884599:=0
def tw24331398159120194:=0
def tw8049844025360815552:=0
def tw5534741799643244703:=0
def tw3429334272614575588:=0
def tw5207924023387346884:=0
def tw10401443849480456280:=0
def tw11604027300140727022:=0
def tw16559927087212429177:=0
def tw14727007492414542168:=0
def tw73405283233277434:=0
def tw11827580591640046420:=0
def tw14869865432150826920:=0
def tw14446762985072392027:=0
def tw68672211314643153:=0
def tw7814792790916935184:=0
def tw15882913301972192260:=0
def tw9130848147099589269:=0
def tw6996009569773624725:=0
def tw1662077258110728162:=0
def tw1980228792306579801:=0
def tw10014755715100173912:=0
def tw132353055097604094:=0
def tw14711226813027566062:=0
def tw8189022192711898352:=0
def tw10021096650817647241:=0
def tw12617916256776375573:=0
def tw10819160125207046839:=0
def tw9363618790897794511:=0
def tw15780537461238222667:=0
def tw7483510966565440222:=0
def tw4532589578247585679:=0
def tw17420670883107202085:=0
def tw4795478262368243537:=0
def tw8769872921955663592:=0
def tw9493346904563046060:=0
def tw375416585278080986:=0
def tw15018587391222916215:=0
def tw2810658925020890755:=0
def tw16006831405455143290:=0
def tw292007500166387047:=0
def tw11945969243902379535:=0
def tw1393310107490745704:=0
def tw9214861449277725326:=0
def tw13551832031476534994:=0
def tw18182175599612241450:=0
def tw6101652668312708112:=0
def tw4371521429083446368:=0
def tw4479867682838163347:=0
def tw6422717575714982024:=0
def tw14544646228066805778:=0
def tw12013002824961382795:=0
def tw10100707167667498057:=0
def tw4019357735084817150:=0
def tw329097469792700894:=0
def tw12087151062033155500:=0
def tw4633961863549461801:=0
def tw17065293288217415649:=0
def tw151012906155735560:=0
def tw8601595844519336790:=0
def tw15013745246512737430:=0
def tw17936717299080923140:=0
def tw3789969253326747743:=0
def tw15905616631793227567:=0
def tw17191498347589446600:=0
def tw1252338929273482459:=0
def tw6140516392173310419:=0
def tw8444728457137461717:=0
def tw14273242337614805440:=0
def tw3599893820007625052:=0
def tw2255827313604244494:=0
def tw18311460914270458031:=0
def tw6823046647809755986:=0
def tw70979029491970264:=0
def tw7294286620744974075:=0
def tw13017840474403834170:=0
def tw4834608856482018338:=0
def tw11793825017505305717:=0
def tw1826517661778295949:=0
def tw15332695083730849947:=0
def tw14720403952851220071:=0
def tw5451688694195002135:=0
def tw8322335510955554697:=0
def tw7722661837729916208:=0
def tw8343054694047670289:=0
def tw4634237483073868292:=0
def tw9738487128962745286:=0
def tw2351263494017965742:=0
def tw18178121843380976228:=0
def tw12033307881945007912:=0
def tw12005785411101980965:=0
def tw11130317393997577865:=0
def tw6717791004503186892:=0
def tw9482175946760799284:=0
def tw10072857648608210833:=0
def tw5588322271751258436:=0
def tw17719230781442198652:=0
def tw13115678139184055307:=0
def tw16058423820383410368:=0
def tw8935652525079163901:=0
def tw15313513250230515082:=0
def tw7261250912361139730:=0
def tw4260596967940718713:=0
def tw15875287382136962495:=0
def tw17662110978160709327:=0
def tw492442203749337192:=0
def tw16242672236034568463:=0
def tw8901998175323170454:=0
def tw7448953759152511273:=0
def tw11516546249513052751:=0
def tw1748287964435224771:=0
def tw5166960417535190049:=0
def tw17996891739432816716:=0
end PySem.W.Fast
open PySem PySem.W PyProof.Rows
set_option maxRecDepth 100000 in
set_option maxHeartbeats 0 in
theorem PySem.Challenge.cw_barsplit_k13_whole_texts_both_ways_holds : PySem.Challenge.rw_barsplit_k13_whole_texts_both_ways.Holds := by
 w_on;o_law;k_head;(case hw=>w_witness2)
 k_fill
 refine L2.cP (l:=pd) (n:=63) (k:=7) (x:="_law_script") (CX:=L2.m5) (sp:=λK=>DL.l9 K 1 DL.yY) rfl ⋯ rfl ⟨rfl,by decide,by decide⟩ (λw h Y=>PySem.W.kIn_of Y) ?F ?S ?C
 case S=>exact λK H a ns I hO J=>DL.dz J (DL.fG ns I)
 case C=>exact λ_ _ _ _ z=>z
 case F=>
  intro w mg fa h B G M;have a1:DL.GL (L2.l3 B) mg "MOST_HIGH_OR_WIDE" (.int 30):=by
   dsimp only[L2.l3];refine' DL.hJ B G ?a
   (case a=>k_is)
  have a2:DL.GL (L2.l3 B) mg "MOST_ROOMS" (.int 6):=by
   dsimp only[L2.l3];refine' DL.hJ B G ?a
   (case a=>k_is)
  have a3:DL.GL (L2.l3 B) mg "MOST_TOGETHER" (.int 30):=by
   dsimp only[L2.l3];refine' DL.hJ B G ?a
   (case a=>k_is)
  have a4:DL.GL (L2.l3 B) mg "PRIMES" (.tup [.int 2,.int 3,.int 5,.int 7]):=by
   dsimp only[L2.l3];refine' DL.fM [2,3,5,7] B G ?a ?l ?v ?z
   (case a=>k_is);(case l=>k_is);(case v=>rfl);(case z=>decide)
  have a5:DL.GL (L2.l3 B) mg "TABLE_SIGNS" (.str "0123456789/"):=by
   dsimp only[L2.l3];refine' DL.hG B G ?a
   (case a=>k_is)
  have a6:DL.GL (L2.l3 B) mg "WAYS" (.tup [.str "r",.str "l"]):=by
   dsimp only[L2.l3];refine' DL.fL ["r","l"] B G ?a ?l ?v ?z
   (case a=>k_is);(case l=>k_is);(case v=>rfl);(case z=>decide)
  have E:DL.E0 (L2.l3 B) mg:=by
   constructor
   all_goals first
    | assumption
    | exact PySem.W.mg_none_of B G (by k_is)
    | (dsimp only[L2.l3];refine' DL.ib B G ?a ?l ?c ?k ?b;(case a=>k_is);(case l=>k_is);(case c=>k_is);(case k=>k_is);(case b=>intro _ _ _ _ _ _ us I;first | (obtain⟨_,rfl⟩:=DL.mz I;rfl) | (obtain⟨_,_,rfl⟩:=DL.my I;rfl) | (obtain⟨_,_,_,rfl⟩:=DL.mx I;rfl) | (obtain⟨_,_,_,_,rfl⟩:=DL.mw I;rfl) | (obtain⟨_,_,_,_,_,rfl⟩:=DL.mv I;rfl)))
  obtain⟨f,fd,O,R,hm⟩:=E.Qz.ex;have U:=M.symm.trans hm;cases U;refine⟨fd,λs u=> .of_eq (R [u] rfl),λbase kb nb=>?_⟩;exact DL.hB O E
