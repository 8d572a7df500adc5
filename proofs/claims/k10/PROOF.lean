import PyProof.Rows.All
import Wide.All
import OpenK.AllK
import Wide.FinOn
import Lean
import PyProof.EqAt
import PyProof.EqKinds
import PyProof.TupleCall
import PySem.Str
import PyProof.ZipIter
import PyProof.IsiBase
import KE.KItemsList
import KE.KIsAll
import OpenK.KOwn
import KE.KSortAsk
import PyProof.StrBlockI
import PyProof.Rows.EqDataRows
import PyProof.Rows.InDataRows
import PyProof.SumWalkG
import PyProof.ConsumeWalk
import PyProof.WalksMore
import KE.KSortTup
import PyProof.ListMulRoad
import PyProof.EnumFor
import PyProof.Rows.EnumRows
import PyProof.StrBlockL
import PyProof.JoinWalk
import PyProof.NsDelKeeps
import KE.KTryDeep
import PyProof.InstStoreFacts
import PyProof.NsCount
import PyProof.ExcClass2
import PyProof.Rows.FStr
import PyProof.StationsW
import PyProof.Rows.Catch
import KE.KRevIter
import PyProof.CollectIter
import PyProof.TupleOfGen
import PyProof.Rows.Tup
import PyProof.Draws
import PyProof.EnumMake
import PyProof.StrWalks
import PyProof.SliceStr2
import PyProof.ListNew
import KE.KDictOf
import PyProof.ListRange
import PyProof.Rows.GenSrcRange
import PyProof.ListCopy
import PyProof.AttrMissHeap
import PyProof.DictWalks
import PyProof.FactsDict
import KE.KSortKey
import PyProof.TableCode
import PyProof.Rows.KernelRfl
import PySem.Challenge.RW_barsplit_k10_rows_made
open PySem.W renaming Frag → eO,kia_one → fB,kitOne → gm,kia_tup → gr,cellsFrom_some → gU,kitx_dict → gW,keepIn → gZ,fnOf → hG,findIn → iw,kitx_list → iz,nsIn → iN,codeIn → iO,mg_of → iT,kitx_tuple → iU,methodObj → lh,kitx_none → lj,kitx_bool → ll,kitx_str → lD,kitx_int → lE
open PySem renaming wpAny_bind → eP,wpAny_pure → eX,wpAny_newObj_type → fY,wpAny_field → fZ,wpAny_callSpecial?_slot → gi,wpAny_truthy_bool → gk,wpAny_call_entry → gE,wpAny_seqItems → gF,wpAny_loadPart' → gK,mem_of_lookup → gL,Builtin → gT,wpAny_mono → gY,wpAny_setField_rec → hV,wpAny_Call_Name_kw → hX,call_meets → iC,wpAny_passesOwn → iF,pushCells_keeps → iH,wpAny_execs_nil → iZ,wpAny_updateSeq_pair → lA,wpAny_onRaise → lN,wpAny_rule → lQ,wpAny_pyIter_list → lR,wpAny_typeOf → lS,codeAny_mono → lT,noFill_tuple_add → lU,Addr → g6,Value → hA,Expr → hH,eval → hI,Shared → hL,model → hO,Heap → h9,starEach → i6,Pos → i7,Scope → i8,Stmt → jz,World → j1,sizeLine → lV,Program → ma,Env → mD,IsPair → mH,Obj → mI,compareOp → mL,mainGlobals → mQ,Around → mS,backTo → mT,FuncData → mX,cellsFrom → mZ,foldedSetIterable → nq,IsZip → nv,NameKind → ny,relabel → nF,swapsWith → nH,binaryOp → nN,IsPart → nS,pushCells → oj,Keyword → oq,assignEach → ox,behindInMarks → oy,bindC → oz,bindL → oA,bootBuiltins → oB,callerA → oC,spliced → oG,Builtin → oJ,assign → oN,attributeBase → oO,getItem → oT,isTrue → ph,BindsTo → pC,Meets → pF,PassesOwn → pH,letOwnedTupleGo → pN,pyIter → pQ,pyNext → pR,rawInt → pS,sysModules → pV,ZipApart → rd,backToKw → rh,lastMarks → rz,builtinsNs → rZ,newFunctionEnv → sf,seq_tuple_add → sk,typeIs_str → sH,wpAny_Name → sI,firstArgMember → sT,seqIndex_neg → tm,swapsWithSole → tx,wpAny_assign_Name → tF,wpAny_sequenceKey → tG
open PySem.Heap renaming get?_push_of_some → eQ,lt_size → ff,get?_push_size → fv,push → fN,size_push → fT,SameBut → iB
open List renaming getElem?_set_ne → eR,replicate → eS,getElem?_eq_getElem → eT,getElem?_eq_some_iff → eU,mem_cons → eY,range → eZ,size_toArray → fi,getElem?_set_self → fj,mem_cons_of_mem → ft,mem_cons_self → fw,eq_nil_of_length_eq_zero → fA,getElem?_append_right → fC,not_mem_nil → fD,getElem?_append_left → fG,lookup_cons → fI,all_eq_true → fJ,mem_append_right → fL,map_cons → fO,getElem?_map → fP,replicate_succ → gh,length_append → gp,length_map → gy,mem_range → gB,nodup_cons → gG,mem_map → gH,flatten_cons → gI,mem_of_getElem? → gJ,length_cons → gN,getElem?_replicate → gV,take_of_length_le → hU,length_singleton → ia,length_take → ic,range_succ → iq,map_append → iu,drop_eq_getElem_cons → iE,append_nil → iP,mem_append_left → iS,filterMap_cons → iY,set_cons_zero → lr,set_cons_succ → lu,all_cons → lx,take_succ_eq_append_getElem → lF,drop_length → lM
open Option renaming bind_some → eV,some → gb,map_some → gu,isSome_iff_exists → iD,bind → iR,map → lq,some → dV,none → f6
open Nat renaming le_refl → eW,lt_of_lt_of_le → fg,ne_of_lt → fF,le_trans → fU,lt_succ_of_lt → fW,le_add_right → gc,lt_irrefl → gd,zero_le → gj,ne_of_gt → gS,lt_succ_self → ie,sub_self → lK,le_of_lt → lL
open Bool renaming and_eq_true → fe,false_ne_true → fm,or_eq_true → fR,eq_iff_iff → iv,not_eq_true' → iK,true → e6,false → f9
open PySem.NameKind renaming free → fu,cell → gx
open PySem.Builtin.SmallTypes renaming nextOf → fE,ownedTupleIsFree → fX,ownedTupleHandOut → iy
open Ne renaming symm → fH
open Option.some renaming inj → fK
open PyProof.Rows renaming slot_tuple_getitem → fM,callWith_type1 → gz,callWith_builtin1 → gR,boot_tuple → ip,slot_tupleiter_next → iG,tupleItemsOf_ → iQ,boot_isinstance → iV,AllBare → n7,IsTup → o7,IntsAre → pE,envOfC → pJ,args_tuple_getitem → sL,args_tupleiter_next → sM,entry_tupleiter_next → sP,subscriptTail → tv,subscriptTail_builtinR → tw
open PySem.SeqAt renaming EqAt → fQ
open PySem.Value renaming ref → fS,none → gO,str → lg,type → lB,bool → lC
open PySem.Builtin.Tuple renaming tupleExact → fV,tupleIsExact → gA
open Int renaming eq_ofNat_of_zero_le → gf,emod_lt_of_pos → gD,emod_nonneg → gX,toNat_natCast → lI
open PySem.Str renaming ofString → gg,join → lP
open PySem.Calls renaming spliced_cons → gn,spliced_nil → iJ
open True renaming intro → gw
open PySem.Builtin.Slice renaming slicePlaces → gC,sliceAdjust → ib
open PySem.PyData renaming depth → gM,eqv → hB,canLay0 → hJ,eqvAll → iX,canLayAll0 → lp
open False renaming elim → gP
open PySem.F renaming plainAttrs_list → gQ,slot_tuple_mul → ik,args_tuple_add_2 → iA,entry_tuple_add → iI,slot_tuple_add → iL,slot_zip_next → iW,args_tuple_mul_2 → lJ,entry_tuple_mul → lO
open PySem.Challenge renaming rw_barsplit_k10_rows_made → ig
open Array renaming length_toList → il
open ForInStep renaming yield → iM
open Sum renaming inr → lG,inl → lH
local macro_rules | `(⋯) => `(by first | decide +kernel | omega | simp)
set_option autoImplicit true
noncomputable section
set_option Elab.async false
set_option linter.all false
set_option maxRecDepth 100000
set_option maxHeartbeats 4000000
abbrev GQ:=PySem.Value->PySem.Shared->Prop
abbrev GW:=List (PySem.Addr×PySem.Obj)
abbrev GV:=Nat->Nat->Nat->Int
abbrev GK:=Nat->Bool
abbrev GX:=Nat->Nat
abbrev GZ:=PySem.Str->Option PySem.Value
theorem GJ{c:Prop}{h:Decidable c}(z:c){α}{a b:α}:ite c a b=a:=if_pos z
theorem GY{c:Prop}{h:Decidable c}(z:¬c){α}{a b:α}:ite c a b=b:=if_neg z
namespace L2
open PySem PySem.Spec PyProof.Rows
abbrev Key:=Sum Int Str
noncomputable def Vr:Key->hA->Bool
 | .inl k,v=>Value.isInt k v
 | .inr x,v=>Value.isStrOf x v
noncomputable def dM(w:j1):Key->Int
 | .inl k=>hashInt k
 | .inr x=>hashStr w x
theorem zP : ∀{k:Key} {v:hA},Vr k v=e6->(∃i t,k=lH i/\v=Value.int i t)\/(∃x t,k=lG x/\v=lg x t)
 | .inl i,v,h=>by obtain⟨t,e⟩:=Value.isInt_shape (k:=i) (v:=v) h;exact .inl ⟨i,t,rfl,e⟩
 | .inr x,v,h=>by obtain⟨t,e⟩:=Value.isStrOf_shape (x:=x) (v:=v) h;exact .inr ⟨x,t,rfl,e⟩
theorem Vq(a b:Int):decide ((lH a:Key)=lH b)=(a==b):=by
 by_cases e:a=b
 ·subst e;simp
 ·have h : ¬(lH a:Key)=lH b:=λq=>e (lH.inj q)
  rw[decide_eq_false h];exact(beq_eq_false_iff_ne.mpr e).symm
theorem Vn(a b:Str):decide ((lG a:Key)=lG b)=decide (a=b):=by
 by_cases e:a=b
 ·subst e;simp
 ·have h : ¬(lG a:Key)=lG b:=λq=>e (lG.inj q)
  rw[decide_eq_false h,decide_eq_false e]
theorem Vp(a:Int)(b:Str):decide ((lH a:Key)=lG b)=f9:=decide_eq_false<|λq=>nomatch q
theorem Vo(a:Str)(b:Int):decide ((lG a:Key)=lH b)=f9:=decide_eq_false<|λq=>nomatch q
noncomputable def yF(prog:ma)(w:j1):PySem.KeyKind prog w Key where
 is:=Vr
 hash:=dM w
 inj:=λv a b ha z=>by
  rcases zP ha with⟨i,t,rfl,rfl⟩ | ⟨x,t,rfl,rfl⟩
  ·rcases zP z with⟨j,u,rfl,e⟩ | ⟨y,u,rfl,e⟩
   ·injection e with e1 _;rw[e1]
   ·exact nomatch e
  ·rcases zP z with⟨j,u,rfl,e⟩ | ⟨y,u,rfl,e⟩
   ·exact nomatch e
   ·injection e with e1 _;rw[e1]
 byValue:=λk v h=>by rcases zP h with⟨i,t,rfl,rfl⟩ | ⟨x,t,rfl,rfl⟩<;>rfl
 pyHash:=λd h=>by
  rcases zP d with⟨i,t,rfl,rfl⟩ | ⟨x,t,rfl,rfl⟩
  ·exact wpAny_pyHash_int h
  ·exact wpAny_pyHash_str h
 eqBool:=λB d h=>by
  rcases zP B with⟨i,t,rfl,rfl⟩ | ⟨x,t,rfl,rfl⟩
  ·rcases zP d with⟨j,u,rfl,rfl⟩ | ⟨y,u,rfl,rfl⟩
   ·rw[Vq]at h;exact wpAny_eqBool_int h
   ·rw[Vp]at h;exact fQ.int_str i t y u _ _ _ _ h
  ·rcases zP d with⟨j,u,rfl,rfl⟩ | ⟨y,u,rfl,rfl⟩
   ·rw[Vo]at h;exact fQ.str_int x t j u _ _ _ _ h
   ·rw[Vn]at h;exact wpAny_eqBool_str h
 «strs» :=λk x t v h=>by
  rcases zP h with⟨i,u,rfl,e⟩ | ⟨y,u,rfl,e⟩
  ·exact nomatch e
  ·injection e with e1 _
   subst e1;cases v<;>rfl
inductive V where
 | i4 | bl (b:Bool) | int (i:Int) | str (x:Str) | ri (b:Array UInt8) | oR (b:UInt64) | ref (a:g6) | ty (n:String)
 deriving DecidableEq
noncomputable def RelV:V->hA->Prop
 | .i4,u=>u=gO
 | .bl b,u=>u=lC b
 | .int i,u=>∃t,u=Value.int i t
 | .str x,u=>∃t,u=lg x t
 | .ri b,u=>∃t,u=Value.bytes b t
 | .oR b,u=>∃t,u=Value.float b t
 | .ref a,u=>u=fS a
 | .ty n,u=>u=lB n
abbrev i0:List V->List hA->Prop:=Paired RelV
theorem i0.length(r:i0 xs us):xs.length=us.length:=Paired.length r
theorem i0.get : ∀{xs:List V} {g:List hA} {i:Nat} {x:V},i0 xs g->xs[i]? = dV x->∃u,g[i]? = dV u/\RelV x u
 | _,_,_,_,.nil,e=>by simp at e
 | _,_,0,_,.cons r _,e=>by simp at e;subst e;exact⟨_,rfl,r⟩
 | _,_,i+1,x,.cons _ t,e=>by obtain⟨u,a,b⟩:=i0.get (i:=i) (x:=x) t (by simpa using e);exact⟨u,by simpa using a,b⟩
theorem i0.append : ∀{xs ys:List V} {g d:List hA},i0 xs g->i0 ys d->i0 (xs++ys) (g++d)
 | _,_,_,_,.nil,s=>s
 | _,_,_,_,.cons r t,s=> .cons r (i0.append t s)
theorem i0.take : ∀{xs:List V} {g:List hA} (n:Nat),i0 xs g->i0 (xs.take n) (g.take n)
 | _,_,0,_=> .nil
 | _,_,_+1,.nil=> .nil
 | _,_,n+1,.cons r t=> .cons r (i0.take n t)
theorem i0.drop : ∀{xs:List V} {g:List hA} (n:Nat),i0 xs g->i0 (xs.drop n) (g.drop n)
 | _,_,0,r=>r
 | _,_,_+1,.nil=> .nil
 | _,_,n+1,.cons _ t=>i0.drop n t
noncomputable def bx:Option V->Option hA->Prop
 | some v,dV u=>RelV v u
 | none,f6=>True
 | _,_=>False
noncomputable def KV{g:Type}:List (g×V)->List (g×hA)->Prop:=Paired λ(p:g×V) (q:g×hA)=>p.1=q.1/\RelV p.2 q.2
def kV:Key->V
 | .inl i=> .int i
 | .inr x=> .str x
inductive HO where
 | lst (xs:List V)
 | tup (xs:List V)
 | dK (nr:List (Key×V)) | dT (nr:List (List Key×V))
 | set (S:Int->Bool) (n:Nat)
 | ins (C dx:g6) (fs:List (Str×V))
 | own (x:g6)
 | xd (fs:List (Str×V))
 | met (f x:g6)
 | rK (lo hi:Int)
 | m7 (o:mI) (u:HO)
 | oI (ps:Array hA)
 | ext (φ:h9->Prop)
abbrev Hp:=g6->Option HO
def upd(H:Hp)(a:g6)(o:HO):Hp:=λb=>if b=a then dV o else H b
theorem zu:upd H a o a=dV o:=by unfold upd;rw[GJ rfl]
theorem zx(h:b≠a):upd H a o b=H b:=by unfold upd;rw[GY h]
theorem zM{H:Hp}{a b:g6}{o:HO}(h:H a=dV o)(h':H b=f6):a≠b:=by intro e;subst e;rw[h]at h';cases h'
noncomputable def nL(h:h9)(a:g6)(d:Array hA):Prop:=∃o,h.get? a=dV o/\(o.cls,o.dict)=(lB "tuple",f6)/\∃n,o.data = .seq d n
theorem nL.new(h:h9)(d:Array hA):nL (h.push {cls:= .type "tuple",data:= .seq d}) h.objs.size d:=⟨_,fv _ rfl,rfl,_,rfl⟩
theorem nL.tup(x:nL h a items):o7 h a items:=let ⟨o,e,c,r⟩:=x;⟨o,e,(Prod.mk.inj c).1,r⟩
section
variable(P:ma)(w:j1)
noncomputable def mr(H:Hp)(h:h9)(a:g6):HO->Prop
 | .lst e=>e.length<=lV/\∃(d:List hA) (n:Nat),i0 e d/\h.get? a=dV {cls:= .type "list",data:= .seq d.toArray n}
 | .tup e=>e.length<=lV/\∃d:List hA,i0 e d/\nL h a d.toArray
 | .dK b=>b.length<=lV/\(a==pV)=f9/\∃m,KV b m/\h.DictOf (yF P w) a m
 | .dT b=>b.length<=lV/\(a==pV)=f9/\∃e:List (List Key×g6×hA),
  Paired (λ(p:List Key×V) (q:List Key×g6×hA)=>p.1=q.1/\H q.2.1=dV (.tup<|p.1.map kV)/\RelV p.2 q.2.2) b e/\
  ∃o j z,h.get? a=dV o/\o.ExactDict/\o.data = .dict j z/\j.toList=e.map (entryOfKey<|tupleKind<|yF P w)/\(e.map (·.1)).Nodup
 | .set S n=>h.SetOf (intKind P w) a S n
 | .ins C g fs=>H g=dV (.own a)/\fs.length<=1000/\g≠a/\h.get? a=dV (PySem.W.instObj C g)/\
  ∃mA,h.Ns1 g mA/\(∀f,bx (fs.lookup f)<|mA f)/\PySem.Within mA (fs.map (·.1))
 | .own _=>∃o,h.get? a=dV o
 | .xd fs=>∃mA,h.Ns1 a mA/\∀f,bx (fs.lookup f)<|mA f
 | .rK lo r=>∃t u v,h.get? a=dV {cls:= .type "range",data:= .fields #[.int lo t,.int r u,.int 1 v]}
 | .m7 o u=>h.get? a=dV o/\mr H h a u
 | .oI s=>h.get? a=dV {cls:= .none,data:= .fields s}
 | .met f x=>h.get? a=dV (lh (.ref f)<|.ref x)
 | .ext i=>i h/\(∃o,h.get? a=dV o)/\∀k l:h9,i k->(∀o,k.get? a=dV o->l.get? a=dV o)->i l
def ml(H:Hp)(h:h9):Prop:=∀a o,H a=dV o->mr P w H h a o
end
section
variable{P:ma}{w:j1}{H H':Hp}{h h':h9}{a:g6}{o:HO}
theorem mr.lt(x:mr P w H h a o):a<h.objs.size:=by
 cases o with
 | lst g=>obtain⟨_,_,_,_,e⟩:=x;exact ff e
 | tup g=>obtain⟨_,_,_,p⟩:=x;exact p.tup.lt
 | dK b=>obtain⟨_,_,_,_,o,_,_,e,_⟩:=x;exact ff e
 | dT b=>obtain⟨_,_,_,_,o,_,_,e,_⟩:=x;exact ff e
 | set S n=>obtain⟨o,_,_,_,e,_⟩:=x;exact ff e
 | ins C i fs=>obtain⟨_,_,_,e,_⟩:=x;exact ff e
 | own y=>obtain⟨_,e⟩:=x;exact ff e
 | xd fs=>obtain⟨_,⟨_,_,_,e,_⟩,_⟩:=x;exact ff e
 | rK lo j=>obtain⟨_,_,_,e⟩:=x;exact ff e
 | m7 d u=>obtain⟨e,_⟩:=x;exact ff e
 | oI k=>exact ff (show h.get? a=dV _ from x)
 | met f y=>exact ff (show h.get? a=dV _ from x)
 | ext l=>obtain⟨_,⟨_,e⟩,_⟩:=x;exact ff e
theorem Paired.se : ∀{d:List α} {z:List β},Paired F d z->(∀a b,F a b->G a b)->Paired G d z
 | _,_,.nil,_=> .nil
 | _,_,.cons r t,f=> .cons (f _ _ r) (Paired.se t f)
theorem mr.oH(x:mr P w H h a o)(k : ∀b u,(b=a\/H b=dV (.own a))->h.get? b=dV u->h'.get? b=dV u)
 (M : ∀b,H b=dV (.own a)->H' b=dV (.own a)) (O : ∀b xs,H b=dV (.tup xs)->H' b=dV (.tup xs)):mr P w H' h' a o:=by
 induction o with
 | lst xs=>obtain⟨z,J,n,r,e⟩:=x;exact⟨z,J,n,r,k _ _ (.inl rfl) e⟩
 | tup xs=>obtain⟨z,J,r,B,e,c⟩:=x;exact⟨z,J,r,B,k _ _ (.inl rfl) e,c⟩
 | dK i=>obtain⟨z,y,E,r,B,g,I,e,c⟩:=x;exact⟨z,y,E,r,B,g,I,k _ _ (.inl rfl) e,c⟩
 | dT i=>
  obtain⟨z,y,xs,r,B,g,I,e,c⟩:=x;exact⟨z,y,xs,Paired.se r λp q z=>⟨z.1,O _ _ z.2.1,z.2.2⟩,B,g,I,k _ _ (.inl rfl) e,c⟩
 | set S n=>obtain⟨B,g,I,t,e,c⟩:=x;exact⟨B,g,I,t,k _ _ (.inl rfl) e,c⟩
 | ins C F fs=>
  obtain⟨d,z,A,e,j,⟨l,g,I,s,c⟩,r⟩:=x;exact⟨M _ d,z,A,k _ _ (.inl rfl) e,j,⟨l,g,I,k _ _ (.inr d) s,c⟩,r⟩
 | own y=>obtain⟨B,e⟩:=x;exact⟨B,k _ _ (.inl rfl) e⟩
 | xd fs=>obtain⟨j,⟨l,g,I,e,c⟩,r⟩:=x;exact⟨j,⟨l,g,I,k _ _ (.inl rfl) e,c⟩,r⟩
 | rK lo G=>obtain⟨t,u,v,e⟩:=x;exact⟨t,u,v,k _ _ (.inl rfl) e⟩
 | m7 B u R=>obtain⟨e,q⟩:=x;exact⟨k _ _ (.inl rfl) e,R q⟩
 | oI m=>
  have e:h.get? a=dV {cls:= .none,data:= .fields m}:=x;show h'.get? a=dV {cls:= .none,data:= .fields m};exact k a _ (.inl rfl) e
 | met f y=>
  have e:h.get? a=dV (lh (.ref f)<|.ref y):=x;show h'.get? a=dV (lh (.ref f)<|.ref y);exact k a _ (.inl rfl) e
 | ext K=>obtain⟨p,⟨o,e⟩,st⟩:=x;exact⟨st _ _ p λo q=>k _ _ (.inl rfl) q,⟨o,k _ _ (.inl rfl) e⟩,st⟩
theorem ml.lt(x:ml P w H h)(e:H a=dV o):a<h.objs.size:=(x a o e).lt
theorem ml.fresh(x:ml P w H h)(e:h.objs.size<=a):H a=f6:=by
 cases q:H a with
 | none=>rfl
 | some u=>exact absurd (fg (x.lt q) e)<|gd _
theorem ml.kept(x:ml P w H h)(k : ∀b u,h.get? b=dV u->h'.get? b=dV u):ml P w H h':=λa o e=>
 (x a o e).oH (λb u _ q=>k b u q) (λ_ q=>q) λ_ _ q=>q
theorem ml.laid(x:ml P w H h)(k : ∀b u,h.get? b=dV u->h'.get? b=dV u)(z:h.objs.size<=a)(new:mr P w (upd H a o) h' a o):ml P w (upd H a o) h':=λb u e=>by
 have f:=x.fresh z;by_cases d:b=a
 ·subst d;rw[zu]at e;cases e;exact new
 ·rw[zx d]at e
  exact(x b u e).oH (λc v _ q=>k c v q) (λc q=>by rw[zx (zM q f)];exact q) λc g q=>by rw[zx (zM q f)];exact q
end
noncomputable def Rd(H:Hp)(a:g6)(u:HO):Prop:=H a=dV u\/∃o,H a=dV (.m7 o u)
theorem Rd.ok(r:Rd H a u)(x:ml P w H h):mr P w H h a u:=by
 rcases r with r | ⟨o,r⟩
 ·exact x a u r
 ·obtain⟨_,q⟩:=x a _ r
  exact q
noncomputable def pG:Option HO->Prop
 | some (.lst _)=>True
 | some (.dK _)=>True
 | some (.dT _)=>True
 | some (.set _ _)=>True
 | some (.ins _ _ _)=>True
 | some (.ext _)=>True
 | _=>False
section
variable{P:ma}{w:j1}{H:Hp}{h h':h9}{x e:g6}{o':HO}
theorem ml.write(ok:ml P w H h)(d:pG (H x))(M:e=x\/H e=dV (.own x))(k : ∀b u,b≠e->h.get? b=dV u->h'.get? b=dV u)(U : ∃u,h'.get? e=dV u)
 (new:mr P w (upd H x o') h' x o'):ml P w (upd H x o') h':=λb u q=>by
 have O : ∀c y,H c=dV (.own y)->c≠x:=λc y r z=>by subst z;rw[r]at d;exact d
 have W : ∀c a,H c=dV (.tup a)->c≠x:=λc a r z=>by subst z;rw[r]at d;exact d
 by_cases B:b=x
 ·subst B;rw[zu]at q;cases q;exact new
 ·rw[zx B]at q
  by_cases I:b=e
  ·have R:H b=dV (.own x):=by
    rcases M with z | z
    ·exact absurd (I.trans z) B
    ·rw[I];exact z
   rw[q]at R;cases R;obtain⟨v,Y⟩:=U;exact⟨v,by rw[I];exact Y⟩
  ·refine(ok b u q).oH (λc v J r=>k c v ?_ r) (λc r=>by rw[zx (O c b r)];exact r) λc a r=>by rw[zx (W c a r)];exact r
   rcases J with rfl | J
   ·exact I
   ·rintro rfl
    rcases M with z | z
    ·exact O c b J z
    ·rw[J]at z;cases z;exact B rfl
end
structure Un(fs ex:List g6)(H H':Hp)(h h':h9):Prop where
 keep : ∀b o,h.get? b=dV o->H b=f6->b∉fs->b∉ex->h'.get? b=dV o
 slot : ∀b o,h.get? b=dV o->H b=f6->b∈fs->b∉ex->∃sl,h'.get? b=dV {o with slots:=sl}
 free : ∀b o,h.get? b=dV o->H b=f6->b∉ex->H' b=f6
 there : ∀b o,h.get? b=dV o->b∉ex->∃o',h'.get? b=dV o'
 oZ : ∀b xs,H b=dV (.tup xs)->H' b=dV (.tup xs)
 oF : ∀b o u,H b=dV (.m7 o u)->H' b=dV (.m7 o u)
 oY : ∀b ps,H b=dV (.oI ps)->∃more,H' b=dV (.oI<|ps++more)
section
variable{fs sU ex tK:List g6}{H H1 H2:Hp}{h h1 h2 h':h9}{a x e:g6}{o:HO}
theorem Un.any(u:Un fs ex H H1 h h1)(q:h.get? b=dV ob)(n:H b=f6)(d:b∉ex) : ∃g,h1.get? b=dV {ob with slots:=g}:=by
 by_cases z:b∈fs
 ·exact u.slot b ob q n z d
 ·exact⟨ob.slots,u.keep b ob q n z d⟩
theorem Un.kept(k : ∀b u,h.get? b=dV u->h'.get? b=dV u):Un fs ex H H h h':=
 ⟨λb d q _ _ _=>k b d q,λb d q _ _ _=>⟨d.slots,k b d q⟩,λ_ _ _ n _=>n,λb d q _=>⟨d,k b d q⟩,λ_ _ q=>q,λ_ _ _ q=>q,λ_ a q=>⟨#[],by rw[q];simp⟩⟩
theorem Un.refl:Un fs ex H H h h:=Un.kept λ_ _ q=>q
theorem Un.laid(k : ∀b u,h.get? b=dV u->h'.get? b=dV u)(d:h.objs.size<=a)(hn:H a=f6):Un fs ex H (upd H a o) h h' where
 keep:=λb u q _ _ _=>k b u q
 slot:=λb u q _ _ _=>⟨u.slots,k b u q⟩
 free:=λb u q n _=>by rw[zx (fF<|fg (ff q) d)];exact n
 there:=λb u q _=>⟨u,k b u q⟩
 oZ:=λb xs q=>by rw[zx (zM q hn)];exact q
 oF:=λb u xs q=>by rw[zx (zM q hn)];exact q
 oY:=λb ps q=>⟨#[],by rw[zx (zM q hn),q];simp⟩
theorem Un.write(d:pG (H x))(M:e=x\/H e=dV (.own x))(k : ∀b u,b≠e->h.get? b=dV u->h'.get? b=dV u)(O : ∃u,h'.get? e=dV u):Un fs ex H (upd H x o) h h':=by
 have B : ∀b,H b=f6->b≠x:=λb n z=>by subst z;rw[n]at d;exact d
 have I : ∀b,H b=f6->b≠e:=λb n z=>by
  subst z;rcases M with r | r
  ·exact B b n r
  ·rw[n]at r;cases r
 have a : ∀b u,H b=dV u->¬pG (dV u)->b≠x:=λb u q nm z=>by subst z;rw[q]at d;exact nm d
 refine⟨λb u q n _ _=>k b u (I b n) q,λb u q n _ _=>⟨u.slots,k b u (I b n) q⟩,λb u q n _=>by rw[zx (B b n)];exact n,λb u q _=>?_,
  λb f q=>by rw[zx (a b _ q λz=>z)];exact q,λb u f q=>by rw[zx (a b _ q λz=>z)];exact q,λb g q=>⟨#[],by rw[zx (a b _ q λz=>z),q];simp⟩⟩
 by_cases J:b=e
 ·subst J;exact O
 ·exact⟨u,k b u J q⟩
end
noncomputable def p3(h:h9)(H:Hp):List g6:=(eZ h.objs.size).filter λa=>(H a).isSome
def Xu(h:h9)(H:Hp):h9:=PySem.W.hideAll h<|p3 h H
theorem J0(h:h9)(H:Hp):(Xu h H).objs.size=h.objs.size:=PySem.W.hideAll_size _ _
theorem Xt(e:h.get? b=dV o)(n:H b=f6):(Xu h H).get? b=dV o:=
 PySem.W.hideAll_get _ e λa=>by have q:(H b).isSome=e6:=(List.mem_filter.mp a).2;rw[n]at q;simp at q
theorem KZ(e:(Xu h H).get? b=dV o):h.get? b=dV o/\H b=f6:=by
 have d:h.get? b=dV o:=PySem.W.of_hideAll (p3 h H) e;refine⟨d,?_⟩;cases q:H b with
 | none=>rfl
 | some x=>
  have a:b∈p3 h H:=List.mem_filter.mpr ⟨gB.mpr<|ff d,by simp[q]⟩;have z:(Xu h H).get? b=f6:=PySem.W.hideAll_none (p3 h H) a;rw[z]at e;cases e
noncomputable def Yn(g h:h9)(L:g6):List (g6×mI):=(eZ h.objs.size).filterMap λa=>if a=L\/(g.get? a).isSome=e6 then f6 else (h.get? a).map λo=>(a,o)
noncomputable def qT(g h:h9)(L d:g6):List (g6×mI):=(Yn g h L).filter λp=>decide<|p.1≠d
structure Mod(K:eO)(mg:GZ)(base:h9):Prop where
 rr:K.In base
 glob:base.Ns mQ mg
 blt : ∃mb,base.Ns rZ mb/\∀x:Str,x ≠ "__name__"->mb x=oB x
 nolimit:base.NoLimit
structure Cx where
 prog:ma
 w:j1
 K:eO
 mg:Str->Option hA
 base:h9
 A:mS
 N:List Str
 mx:hL
 o6:Hp
 env:mD
 outer:List mD
 stack:List mD
 ex:List g6
 fn:Str->Bool
 calm:Bool
 pn:List (g6×mI)
 xe:hA->hL->Prop
def nA(l:List mD):List g6:=l.filterMap (·.frame)
abbrev Cx.fs(X:Cx):List g6:=nA X.outer
noncomputable def ra(g:i8)(x:Str):Prop:=g.names.lookup x=dV .local\/g.names.lookup x=dV .cell\/g.names.lookup x=dV .free
noncomputable def Loc(g:i8)(x:Str):Prop:=g.names.lookup x=dV .local\/g.names.lookup x=dV .cell
noncomputable def ed(env:mD)(h:h9)(m:GZ)(x:Str)(u:hA):Prop:=
 (env.kindOf x=dV .local/\m x=dV u)\/((env.kindOf x=dV .cell\/env.kindOf x=dV .free)/\∃c,env.cells.lookup x=dV c/\h.IsCell c (dV u))
structure Cx.Ok(X:Cx):Prop where
 mod:Mod X.K X.mg X.base
 kind:X.env.scope.kind = .function
 glob:X.env.globals=mQ
 blt:X.env.builtins=rZ
 above:X.mx.heap.objs.size<=X.env.locals
 inj : ∀x y c,X.env.cells.lookup x=dV c->X.env.cells.lookup y=dV c->x=y
 has : ∀x,(X.env.kindOf x=dV .cell\/X.env.kindOf x=dV .free)->∃c,X.env.cells.lookup x=dV c
 o9 : ∀x c,X.fn x=e6->X.env.cells.lookup x=dV c->X.mx.heap.objs.size<=c
 hd:X.calm=e6->X.A.handled=f6
 frames:X.A.frames=dV X.stack
 pU:X.stack=X.outer\/(X.stack=X.env::X.outer/\X.env.frame=dV X.env.locals)
 pK : ∀b∈X.ex,b≠X.env.locals/\∀x c,X.env.cells.lookup x=dV c->c≠b
 bs : ∀b o,X.base.get? b=dV o->X.mx.heap.get? b=dV o/\X.o6 b=f6
 og:X.base.objs.size<=X.mx.heap.objs.size
 pq : ∀b o,X.base.get? b=dV o->b∉X.ex
 pe : ∀b∈X.ex,b∉X.fs
 nB:X.mx.heap.FunFrames X.base X.outer
 oS : ∀b∈X.fs,X.o6 b=f6
structure Inv(X:Cx)(pins:GW)(σ:List (Option V))(H:Hp)(s:hL):Prop where
 ok:X.Ok
 os:s.os=X.mx.os
 bare:n7 s.gens
 base:Un X.fs X.ex X.o6 H X.mx.heap s.heap
 loc : ∃m,s.heap.Ns X.env.locals m/\∀(i:Nat) (x:Str) (v:V),X.N[i]? = dV x->σ[i]? = dV (dV v)->ra X.env.scope x->∃u,RelV v u/\ed X.env s.heap m x u
 cell : ∀x c,X.env.cells.lookup x=dV c->∃v,s.heap.IsCell c v
 free:H X.env.locals=f6
 nO : ∀x c,X.env.cells.lookup x=dV c->H c=f6
 pin : ∀p∈X.pn++pins,s.heap.get? p.1=dV p.2/\H p.1=f6/\p.1≠X.env.locals/\p.1∉X.fs/\∀v,p.2.data ≠ .cell v
 i5:ml X.prog X.w H s.heap
 len:σ.length=X.N.length
section
variable{X:Cx}{pins:GW}{σ:List (Option V)}{H H':Hp}{s:hL}{h':h9}
theorem Cx.Ok.sZ(ok:X.Ok)(e:X.base.get? b=dV o):b∉X.fs:=λd=>by have:=(ok.nB.mem d).1;rw[e]at this;cases this
theorem Inv.bs(I:Inv X pins σ H s) : ∀b o,X.base.get? b=dV o->s.heap.get? b=dV o/\H b=f6:=λb o e=>
 ⟨I.base.keep b o (I.ok.bs b o e).1 (I.ok.bs b o e).2 (I.ok.sZ e) (I.ok.pq b o e),I.base.free b o (I.ok.bs b o e).1 (I.ok.bs b o e).2 (I.ok.pq b o e)⟩
theorem Inv.bk(I:Inv X pins σ H s) : ∀b o,X.base.get? b=dV o->s.heap.get? b=dV o:=λb o e=>(I.bs b o e).1
theorem Inv.mod(I:Inv X pins σ H s):Mod X.K X.mg X.base:=I.ok.mod
theorem Inv.me(I:Inv X pins σ H s):X.K.In s.heap:=I.ok.mod.rr.keeps I.bk
theorem Inv.lt(I:Inv X pins σ H s):X.env.locals<s.heap.objs.size:=let ⟨_,a,_⟩:=I.loc;a.lt
theorem Inv.sz(I:Inv X pins σ H s):X.mx.heap.objs.size<=s.heap.objs.size:=fU I.ok.above<|lL I.lt
theorem Inv.s9(I:Inv X pins σ H s)(h:s.heap.objs.size<=a):a∉X.fs:=λd=>by obtain⟨_,o,z,_⟩:=I.ok.nB.mem d;exact absurd (fg (ff z)<|fU I.sz h)<|gd _
theorem Inv.oD(I:Inv X pins σ H s) : ∀x c,X.env.cells.lookup x=dV c->c≠X.env.locals:=λx c e z=>by obtain⟨v,o,d,a⟩:=I.cell x c e;obtain⟨m,⟨f,b,M,B,J,_⟩,_⟩:=I.loc;rw[z,B]at d;cases d;rw[J]at a;cases a
theorem Inv.nB(I:Inv X pins σ H s):s.heap.FunFrames X.base X.outer:=by
 have all : ∀(l:List mD),(∀b∈nA l,b∈X.fs)->X.mx.heap.FunFrames X.base l->s.heap.FunFrames X.base l:=by
  intro l
  induction l with
  | nil=>intro _ _;trivial
  | cons a r O=>
   intro M R;obtain⟨U,⟨L,o,d,g,W,f⟩,Y⟩:=R;have B:L∈X.fs:=M L (by unfold nA;rw[iY,d];exact fw);obtain⟨h,e⟩:=I.base.slot L o W (I.ok.oS L B) B λz=>I.ok.pe L z B;exact⟨U,⟨L,_,d,g,e,f⟩,O (λb J=>M b<|by unfold nA;rw[iY,d];exact ft _ J) Y⟩
 exact all X.outer (λ_ J=>J) I.ok.nB
theorem Inv.stack(I:Inv X pins σ H s):s.heap.FunFrames X.base X.stack:=by
 rcases I.ok.pU with e | ⟨e,d⟩
 ·rw[e];exact I.nB
 ·rw[e]
  obtain⟨m,a,_⟩:=I.loc;refine .cons (by rw[I.ok.kind];decide) d a ?_ I.nB;exact Heap.get?_none_of_le<|fU I.ok.og I.ok.above
theorem Inv.rN(I:Inv X pins σ H s) : ∀b∈nA X.stack,b∈X.env.locals::X.fs:=λb d=>by
 rcases I.ok.pU with e | ⟨e,z⟩
 ·rw[e]at d;exact ft _ d
 ·rw[e]at d
  unfold nA at d;rw[iY,z]at d;exact d
theorem Inv.sv(I:Inv X pins σ H s) : ∀b∈nA X.stack,H b=f6:=λb d=>by
 rcases eY.mp (I.rN b d)with e | d
 ·rw[e];exact I.free
 ·obtain⟨_,o,B,_⟩:=I.ok.nB.mem d
  exact I.base.free b o B (I.ok.oS b d) λz=>I.ok.pe b z d
theorem Inv.step{g':Array GenState}{t':Nat}{d':Drawn}{ch:List g6}(I:Inv X pins σ H s)
 (O : ∀b∈ch,(b∈X.ex\/X.mx.heap.objs.size<=b)/\b≠X.env.locals/\(∀x c,X.env.cells.lookup x=dV c->c≠b)/\∀p∈X.pn++pins,p.1≠b)
 (keep : ∀b o,b≠X.env.locals->b∉X.fs->b∉ch->s.heap.get? b=dV o->H b=f6->h'.get? b=dV o)
 (g : ∀b o,b≠X.env.locals->b∈X.fs->b∉ch->s.heap.get? b=dV o->H b=f6->∃sl,h'.get? b=dV {o with slots:=sl}) (free : ∀b o,b∉ch->s.heap.get? b=dV o->H b=f6->H' b=f6)
 (t : ∀b o,b∉ch->s.heap.get? b=dV o->∃G,h'.get? b=dV G)
 (P : ∀b xs,H b=dV (.tup xs)->H' b=dV (.tup xs)) (C : ∀b o u,H b=dV (.m7 o u)->H' b=dV (.m7 o u)) (L : ∀b Z,H b=dV (.oI Z)->∃more,H' b=dV (.oI<|Z++more))
 (ns : ∀m,s.heap.Ns X.env.locals m->h'.Ns X.env.locals m) (i5:ml X.prog X.w H' h') (hg:n7 g') :
 Inv X pins σ H' {s with heap:=h',gens:=g',drawn:=d',toks:=t'}:=by
 have W : ∀b o,X.mx.heap.get? b=dV o->b≠X.env.locals:=λb o e=>fF<|fg (ff e) I.ok.above;have U : ∀b o,X.mx.heap.get? b=dV o->b∉X.ex->b∉ch:=λb o e B J=>by
  rcases (O b J).1 with z | z
  ·exact B z
  ·exact absurd (fg (ff e) z)<|gd _
 have Y : ∀x c,X.env.cells.lookup x=dV c->∀v,s.heap.IsCell c v->h'.IsCell c v:=λx c e v N=>by
  obtain⟨o,M,h⟩:=N;have R:c∉ch:=λz=>(O c z).2.2.1 x c e rfl;by_cases j:c∈X.fs
  ·obtain⟨sl,q⟩:=g c o (I.oD x c e) j R M (I.nO x c e)
   exact⟨_,q,h⟩
  ·exact⟨o,keep c o (I.oD x c e) j R M<|I.nO x c e,h⟩
 refine⟨I.ok,I.os,hg,⟨λb o e n J B=>?_,λb o e n J B=>?_,λb o e n B=>?_,λb o e B=>?_,λb xs e=>P b xs<|I.base.oZ b xs e,λb o xs e=>C b o xs<|I.base.oF b o xs e,λb Z e=>?_⟩,?_,λx c e=>?_,?_,λx c e=>?_,λp y=>?_,i5,I.len⟩
 ·exact keep b o (W b o e) J (U b o e B) (I.base.keep b o e n J B)<|I.base.free b o e n B
 ·obtain⟨sl,a⟩:=I.base.slot b o e n J B
  obtain⟨F,f⟩:=g b _ (W b o e) J (U b o e B) a<|I.base.free b o e n B;exact⟨F,f⟩
 ·obtain⟨G,a⟩:=I.base.there b o e B
  exact free b G (U b o e B) a<|I.base.free b o e n B
 ·obtain⟨G,a⟩:=I.base.there b o e B
  exact t b G (U b o e B) a
 ·obtain⟨T,a⟩:=I.base.oY b Z e
  obtain⟨m2,f⟩:=L b _ a;exact⟨T++m2,by rw[f,Array.append_assoc]⟩
 ·obtain⟨m,S,Q⟩:=I.loc
  refine⟨m,ns m S,λi x v a f K=>?_⟩;obtain⟨u,r,l⟩:=Q i x v a f K;refine⟨u,r,?_⟩;rcases l with l | ⟨k,c,e,z⟩
  ·exact .inl l
  ·exact .inr ⟨k,c,e,Y x c e _ z⟩
 ·obtain⟨v,z⟩:=I.cell x c e
  exact⟨v,Y x c e v z⟩
 ·obtain⟨m,⟨o,_,_,M,_⟩,_⟩:=I.loc
  exact free _ o (λz=>(O _ z).2.1 rfl) M I.free
 ·obtain⟨v,o,M,h⟩:=I.cell x c e
  exact free c o (λz=>(O c z).2.2.1 x c e rfl) M<|I.nO x c e
 ·obtain⟨e,n,A,E,d⟩:=I.pin p y
  have R:p.1∉ch:=λz=>(O p.1 z).2.2.2 p y rfl;exact⟨keep p.1 p.2 A E R e n,free p.1 p.2 R e n,A,E,d⟩
theorem Inv.un{t':Nat}(I:Inv X pins σ H s)(u:Un X.fs [] H H' s.heap h')(g:ml X.prog X.w H' h'):Inv X pins σ H' {s with heap:=h',toks:=t'}:=by
 obtain⟨m,⟨o,f,W,B,r⟩,_⟩:=id I.loc;obtain⟨j,M⟩:=u.any B I.free ⋯;exact I.step (g':=s.gens) (d':=s.drawn) (ch:=[]) (λ_ z=>nomatch z) (λb o _ d _ e n=>u.keep b o e n d ⋯) (λb o _ d _ e n=>u.slot b o e n d ⋯) (λb o _ e n=>u.free b o e n ⋯) (λb o _ e=>u.there b o e ⋯) u.oZ u.oF u.oY (λh a=>by obtain⟨i,O,R,J,U⟩:=a;rw[B]at J;cases J;exact⟨_,O,R,M,U⟩) g I.bare
theorem Inv.call{g':Array GenState}{t':Nat}{d':Drawn}{ch:List g6}(I:Inv X pins σ H s)(u:Un (nA X.stack) ch H H' s.heap h')(g:ml X.prog X.w H' h')(R:n7 g')
 (J : ∀b∈ch,(b∈X.ex\/X.mx.heap.objs.size<=b)/\b≠X.env.locals/\(∀x c,X.env.cells.lookup x=dV c->c≠b)/\∀p∈X.pn++pins,p.1≠b) :
 Inv X pins σ H' {s with heap:=h',gens:=g',drawn:=d',toks:=t'}:=by
 obtain⟨m,⟨o,i,h,M,r⟩,_⟩:=id I.loc;obtain⟨l,B⟩:=u.any M I.free λz=>(J _ z).2.1 rfl;exact I.step (ch:=ch) J (λb o B U d e n=>u.keep b o e n (λz=>(eY.mp<|I.rN b z).elim B U) d) (λb o _ _ d e n=>u.any e n d) (λb o d e n=>u.free b o e n d) (λb o d e=>u.there b o e d) u.oZ u.oF u.oY (λj a=>by obtain⟨k,W,Y,O,f⟩:=a;rw[M]at O;cases O;exact⟨_,W,Y,B,f⟩) g R
theorem Inv.turned{t':Nat}{it:g6}(I:Inv X pins σ H s)(k : ∀b o,b≠it->s.heap.get? b=dV o->h'.get? b=dV o)(C:H it=f6)(B:it≠X.env.locals)
 (g:it∈X.ex\/X.mx.heap.objs.size<=it) (t : ∀x c,X.env.cells.lookup x=dV c->c≠it) (M : ∀p∈X.pn++pins,p.1≠it):Inv X pins σ H {s with heap:=h',toks:=t'}:=by
 have J : ∀b u,H b=dV u->b≠it:=λb u e z=>by rw[z,C]at e;cases e
 refine I.step (g':=s.gens) (d':=s.drawn) (ch:=[it]) (λb O=>?_) (λb o _ _ d e _=>k b o (λz=>d<|by simp[z]) e) (λb o _ _ d e _=>⟨o.slots,k b o (λz=>d<|by simp[z]) e⟩) (λ_ _ _ _ n=>n)
  (λb o d e=>⟨o,k b o (λz=>d<|by simp[z]) e⟩) (λ_ _ e=>e) (λ_ _ _ e=>e) (λb h e=>⟨#[],by rw[e];simp⟩) (λm f=>?_) (λb u e=>?_) I.bare
 ·have e:b=it:=by simpa using O
  subst e;exact⟨g,B,t,M⟩
 ·obtain⟨o,a,R,U,r⟩:=f
  exact⟨o,a,R,k _ o (fH B) U,r⟩
 ·refine(I.i5 b u e).oH (λc v d q=>k c v ?_ q) (λ_ q=>q) λ_ _ q=>q
  rcases d with z | z
  ·rw[z];exact J b u e
  ·exact J c _ z
theorem Inv.tok(I:Inv X pins σ H s)(t:Nat):Inv X pins σ H {s with toks:=t}:=I.un (h':=s.heap) (t':=t) Un.refl I.i5
theorem Inv.kept(I:Inv X pins σ H s)(k : ∀b u,s.heap.get? b=dV u->h'.get? b=dV u):Inv X pins σ H {s with heap:=h',toks:=t'}:=I.un (Un.kept k)<|I.i5.kept k
theorem Inv.laid(I:Inv X pins σ H s)(k : ∀b u,s.heap.get? b=dV u->h'.get? b=dV u)(d:s.heap.objs.size<=a)(new:mr X.prog X.w (upd H a o) h' a o) :
 Inv X pins σ (upd H a o) {s with heap:=h',toks:=t'}:=I.un (Un.laid k d<|I.i5.fresh d)<|I.i5.laid k d new
theorem Inv.write(I:Inv X pins σ H s)(d:pG (H x))(z:e=x\/H e=dV (.own x))(k : ∀b u,b≠e->s.heap.get? b=dV u->h'.get? b=dV u)(B : ∃u,h'.get? e=dV u)
 (new:mr X.prog X.w (upd H x o) h' x o):Inv X pins σ (upd H x o) {s with heap:=h',toks:=t'}:=I.un (Un.write d z k B)<|I.i5.write d z k B new
theorem Inv.sg(I:Inv X pins σ H s)(h : ∀p∈d,s.heap.get? p.1=dV p.2/\H p.1=f6/\p.1≠X.env.locals/\p.1∉X.fs/\∀v,p.2.data ≠ .cell v):Inv X d σ H s:=
 ⟨I.ok,I.os,I.bare,I.base,I.loc,I.cell,I.free,I.nO,λp B=>(List.mem_append.mp B).elim (λz=>I.pin p<|iS _ z) (h p),I.i5,I.len⟩
theorem wZ{N:List Str}(d:N.Nodup){i j:Nat}{x:Str}(a:N[i]? = dV x)(b:N[j]? = dV x):i=j:=by obtain⟨g,e⟩:=eU.mp a;obtain⟨h,f⟩:=eU.mp b;exact(List.getElem_inj d).mp (e.trans f.symm)
theorem y9{M:Model}{A:mS}{E:GQ}{i:Nat}{x:Str}{v:V}{u:hA}{Q:Unit->hL->Prop}(I:Inv X pins σ H s)(hN:X.N.Nodup)(t:X.N[i]? = dV x)(O:Loc X.env.scope x)(r:RelV v u)
 (h : ∀Z,Inv X pins (σ.set i<|some v) H Z->(∃a,iB a s.heap Z.heap/\(a=X.env.locals\/X.env.cells.lookup x=dV a))->Q () Z) (hf:X.fn x=e6\/X.env.scope.names.lookup x=dV .local:=by first | exact .inl rfl | exact .inr rfl | assumption):wpAny M A (storeName X.env x u) Q E s:=by
 obtain⟨m,K,hl⟩:=id I.loc;have ax:(X.env.scope.kind == .class || (X.env.scope.kind == .module && X.env.locals != X.env.globals))=f9:=by rw[I.ok.kind];rfl
 have a9:i<σ.length:=by rw[I.len];exact(eU.mp t).1
 have oD:=I.oD;have ac : ∀{a:g6} {h':h9},(∃o,s.heap.get? a=dV o/\H a=f6)->iB a s.heap h'->ml X.prog X.w H h':=λ{a h'} ha B b ob e=>by
  obtain⟨_,_,am⟩:=ha;refine(I.i5 b ob e).oH (λc C J q=>(B.2 c ?_).trans q) (λ_ q=>q) λ_ _ q=>q;rintro rfl;rcases J with rfl | J
  ·rw[am]at e;cases e
  ·rw[am]at J;cases J
 rcases O with R | R
 ·refine wpAny_storeName_local R K (λh' b1 B=>?_) ax
  obtain⟨oL,_,_,b3,_⟩:=id K;refine h _ ⟨I.ok,I.os,I.bare,⟨λb o e n U O=>?_,λb o e n U O=>?_,I.base.free,λb o e O=>?_,I.base.oZ,I.base.oF,I.base.oY⟩,⟨_,b1,λj y v' f g G=>?_⟩,λy c e=>?_,I.free,I.nO,λp L=>?_,ac ⟨oL,b3,I.free⟩ B,by simpa using I.len⟩ ⟨_,B,.inl rfl⟩
  ·exact(B.2 b<|fF<|fg (ff e) I.ok.above).trans (I.base.keep b o e n U O)
  ·obtain⟨sl,f⟩:=I.base.slot b o e n U O
   exact⟨sl,(B.2 b<|fF<|fg (ff e) I.ok.above).trans f⟩
  ·obtain⟨S,f⟩:=I.base.there b o e O
   exact⟨S,(B.2 b<|fF<|fg (ff e) I.ok.above).trans f⟩
  ·by_cases W:j=i
   ·subst W
    rw[t]at f;cases f;rw[fj a9]at g;cases g;exact⟨u,r,.inl ⟨R,by simp⟩⟩
   ·rw[eR (fH W)]at g
    obtain⟨u',T,q⟩:=hl j y v' f g G;refine⟨u',T,?_⟩;rcases q with⟨k,e⟩ | ⟨k,c,e,z⟩
    ·refine .inl ⟨k,?_⟩
     have:y≠x:=λe=>W<|wZ hN f<|e ▸ t;simp[this,e]
    ·exact .inr ⟨k,c,e,z.sameBut B<|oD y c e⟩
  ·obtain⟨C,z⟩:=I.cell y c e
   exact⟨C,z.sameBut B<|oD y c e⟩
  ·obtain⟨e,n,l,P,d⟩:=I.pin p L
   exact⟨(B.2 p.1 l).trans e,n,l,P,d⟩
 ·have F:X.fn x=e6:=by
   rcases hf with z | z
   ·exact z
   ·rw[z]at R;cases R
  obtain⟨c,J⟩:=I.ok.has x<|.inl R;obtain⟨C,z⟩:=I.cell x c J;refine wpAny_storeName_cell I.ok.kind R J z<|λh' an B=>?_;obtain⟨oc,ap,b4⟩:=id z;refine h {s with heap:=h'} ⟨I.ok,I.os,I.bare,⟨λb o e n U O=>?_,λb o e n U O=>?_,I.base.free,λb o e O=>?_,I.base.oZ,I.base.oF,I.base.oY⟩,⟨m,K.sameBut B<|fH<|oD x c J,λj y v' f g G=>?_⟩,λy Y e=>?_,I.free,I.nO,λp L=>?_,ac ⟨oc,ap,I.nO x c J⟩ B,by simpa using I.len⟩ ⟨c,B,.inr J⟩
  ·exact(B.2 b<|fF<|fg (ff e)<|I.ok.o9 x c F J).trans (I.base.keep b o e n U O)
  ·obtain⟨sl,f⟩:=I.base.slot b o e n U O
   exact⟨sl,(B.2 b<|fF<|fg (ff e)<|I.ok.o9 x c F J).trans f⟩
  ·obtain⟨S,f⟩:=I.base.there b o e O
   exact⟨S,(B.2 b<|fF<|fg (ff e)<|I.ok.o9 x c F J).trans f⟩
  ·by_cases W:j=i
   ·subst W
    rw[t]at f;cases f;rw[fj a9]at g;cases g;exact⟨u,r,.inr ⟨.inl R,c,J,an⟩⟩
   ·rw[eR (fH W)]at g
    obtain⟨u',T,q⟩:=hl j y v' f g G;refine⟨u',T,?_⟩;rcases q with q | ⟨k,Y,e,z'⟩
    ·exact .inl q
    ·refine .inr ⟨k,Y,e,z'.sameBut B ?_⟩
     rintro rfl;exact W<|wZ hN f<|I.ok.inj _ _ _ e J ▸ t
  ·by_cases ar:Y=c
   ·subst ar;exact⟨_,an⟩
   ·obtain⟨w2,z2⟩:=I.cell y Y e
    exact⟨w2,z2.sameBut B ar⟩
  ·obtain⟨e,n,l,P,d⟩:=I.pin p L
   refine⟨(B.2 p.1 ?_).trans e,n,l,P,d⟩;intro q;rw[q,ap]at e;have q':oc=p.2:=fK e;exact d C (by rw[<- q'];exact b4)
theorem wM(I:Inv X pins σ H s)(d:X.N.Nodup)(t:X.N[i]? = dV x)(z:Loc X.env.scope x)(r:RelV v u)
 (h : ∀g,Inv X pins (σ.set i<|some v) H g->Q () g) (B:X.fn x=e6\/X.env.scope.names.lookup x=dV .local:=by first | exact .inl rfl | exact .inr rfl | assumption):wpAny M A (storeName X.env x u) Q E s:=
 y9 I d t z r (λg J _=>h g J) B
theorem Inv.sN(I:Inv X pins σ H s)(d:s'.os=s.os)(u:Un (nA X.stack) ch H H' s.heap s'.heap)(g:ml X.prog X.w H' s'.heap)(z:n7 s'.gens)
 (B : ∀b∈ch,(b∈X.ex\/X.mx.heap.objs.size<=b)/\b≠X.env.locals/\(∀x c,X.env.cells.lookup x=dV c->c≠b)/\∀p∈X.pn++pins,p.1≠b):Inv X pins σ H' s':=by
 obtain⟨h',g',d',t',a⟩:=s';have e:a=s.os:=d;subst e;exact I.call (g':=g') (t':=t') (d':=d') u g z B
end
abbrev XK:=hA->Option g6->Hp->Prop
abbrev St:=List (Option V)
abbrev VK:=V->Hp->Prop
abbrev TE:=St->Hp->VK->Prop
abbrev TT:=St->Hp->(Bool->Hp->Prop)->Prop
abbrev TA:=St->Hp->(List V->Hp->Prop)->Prop
structure Ends where
 nx:St->Hp->Prop
 rt:VK
 bk:St->Hp->Prop:=λ_ _=>False
 ct:St->Hp->Prop:=λ_ _=>False
abbrev TS:=Ends->St->Hp->Prop
noncomputable def EP(X:Cx)(g:GW)(z:St)(Q:VK)(u:hA)(t:hL):Prop:=∃v a,Inv X g z a t/\RelV v u/\Q v a
noncomputable def TP(X:Cx)(g:GW)(z:St)(Q:Bool->Hp->Prop)(b:Bool)(t:hL):Prop:=∃a,Inv X g z a t/\Q b a
noncomputable def AP(X:Cx)(g:GW)(C:St)(Q:List V->Hp->Prop)(z:List hA)(t:hL):Prop:=∃b a,Inv X g C a t/\i0 b z/\Q b a
noncomputable def SP(X:Cx)(g:GW)(D:Ends)(f:Flow)(t:hL):Prop:=
 match f with
 | .next=>∃a b,Inv X g a b t/\D.nx a b
 | .brk=>∃a b,Inv X g a b t/\D.bk a b
 | .cont=>∃a b,Inv X g a b t/\D.ct a b
 | .ret u=>∃v a b,Inv X g a b t/\RelV v u/\D.rt v b
noncomputable def PE(X:Cx)(e:hH)(t:TE):Prop:=
 ∀(a:GW) (s:hL) (b:St) (H:Hp) (Q:VK),Inv X a b H s->t b H Q->wpAny (hO X.prog X.w) X.A (hI e X.env) (EP X a b Q) X.xe s
noncomputable def PT(X:Cx)(e:hH)(t:TT):Prop:=
 ∀(a:GW) (s:hL) (b:St) (H:Hp) (Q:Bool->Hp->Prop),Inv X a b H s->t b H Q->wpAny (hO X.prog X.w) X.A (ph e X.env<|eval e X.env) (TP X a b Q) X.xe s
noncomputable def PW(X:Cx)(e:hH)(t:TT):Prop:=
 ∀(d:Sem hA) (a:GW) (s:hL) (b:St) (H:Hp) (Q:Bool->Hp->Prop),Inv X a b H s->t b H Q->wpAny (hO X.prog X.w) X.A (ph e X.env d) (TP X a b Q) X.xe s
theorem PW.pt(h:PW X e t):PT X e t:=h _
noncomputable def PA(X:Cx)(g:List hH)(t:TA):Prop:=
 ∀(pos:i7) (a:GW) (s:hL) (b:St) (H:Hp) (Q:List V->Hp->Prop),Inv X a b H s->t b H Q->wpAny (hO X.prog X.w) X.A (oG<|backTo pos<|starEach g X.env) (AP X a b Q) X.xe s
noncomputable def PS(X:Cx)(st:jz)(t:TS):Prop:=
 ∀(a:GW) (s:hL) (b:St) (H:Hp) (D:Ends),Inv X a b H s->t D b H->wpAny (hO X.prog X.w) X.A (exec st X.env) (SP X a D) X.xe s
noncomputable def mN(X:Cx)(st:List jz)(t:TS):Prop:=
 ∀(a:GW) (s:hL) (b:St) (H:Hp) (D:Ends),Inv X a b H s->t D b H->wpAny (hO X.prog X.w) X.A (execs st X.env) (SP X a D) X.xe s
theorem hR(h:wpAny M A t Q E s)(d : ∀a s,Q a s->Q' a s):wpAny M A t Q' E s:=gY h d λ_ _ x=>x
section
variable{X:Cx}
def Kk(i:Nat):TE:=λa H Q=>∃v,a[i]? = dV (dV v)/\Q v H
def tC(v:V):TE:=λ_ H Q=>Q v H
theorem YZ(M:X.N[i]? = dV x)(O:ra X.env.scope x)(g:(x==("__debug__" : Str))=f9:=by decide)(R:(x==("__classdict__" : Str))=f9:=by decide):PE X (.Name x pos) (Kk i):=by
 intro a s j H Q I h;obtain⟨v,e,h⟩:=h;obtain⟨m,f,U⟩:=I.loc;obtain⟨u,r,l⟩:=U i x v M e O;have z:EP X a j Q u s:=⟨v,H,I,r,h⟩;rcases l with⟨d,b⟩ | ⟨d,c,B,J⟩
 ·exact sI (wpAny_loadName_local I.ok.kind d f b z) g
 ·rcases d with d | d
  ·exact sI (wpAny_loadName_cell I.ok.kind d B J z) g
  ·exact sI (wpAny_loadName_free I.ok.kind d B J z R) g
theorem Y5:PE X (.Constant (.int i) j pos) (tC<|.int i):=λ_ _ _ H _ I h=>wpAny_Constant_int ⟨.int i,H,I.tok _,⟨_,rfl⟩,h⟩
theorem aa:PE X (.Constant (.bool b) j pos) (tC<|.bl b):=λ_ _ _ H _ I h=>Constant_bool ⟨.bl b,H,I,rfl,h⟩
theorem Y0:PE X (.Constant (.str x) j pos) (tC<|.str x):=λ_ _ _ H _ I h=>Calls.Constant_str ⟨.str x,H,I.tok _,⟨_,rfl⟩,h⟩
def Gl(X:Cx)(x:Str):Prop:=X.env.kindOf x=dV .globalImplicit
theorem JS(I:Inv X pins σ H s)(d:Gl X x)(t:X.mg x=dV u)(h:Q u s)
 (g:(x==("__debug__" : Str))=f9:=by decide):wpAny (hO X.prog X.w) X.A (hI (.Name x pos) X.env) Q E s:=
 Calls.Name_function_global I.ok.kind d (Calls.loadGlobal_global (by rw[I.ok.glob];exact I.mod.glob.keeps I.bk) t h) g
theorem qV(I:Inv X pins σ H s)(d:Gl X x)(t:X.mg x=f6)(z:oB x=dV u)(h:Q u s)
 (C:x ≠ "__name__":=by decide) (g:(x==("__debug__" : Str))=f9:=by decide):wpAny (hO X.prog X.w) X.A (hI (.Name x pos) X.env) Q E s:=by
 obtain⟨e,a,b⟩:=I.mod.blt;exact Calls.Name_function_global I.ok.kind d (Calls.loadGlobal_builtin (by rw[I.ok.glob];exact I.mod.glob.keeps I.bk) t (by rw[I.ok.blt];exact a.keeps I.bk) ((b x C).trans z) h) g
variable{a b:hH}{ta tb:TE}{pos:i7}
def tB(t:TE):TT:=λb H Q=>t b H λx a=>∃c,x = .bl c/\Q c a
theorem YN(h:PE X e t)(B : ∀z,ph e X.env z=(do let v <- z;standAt e.pos;holding [v] (truthy v)):=by intro _;rfl):PT X e (tB t):=by intro a s g H Q I f;refine isTrue_plain (hR (h a s g H _ I f) λv i J=>?_)<|B _;obtain⟨x,b,M,O,R⟩:=J;obtain⟨d,rfl,q⟩:=R;cases O;exact gk ⟨b,M,q⟩
variable{tA pW:TT}{qT:List hH}
noncomputable def dc(t u:TT):TT:=λb H Q=>t b H λc a=>if c=e6 then u b a Q else Q f9 a
noncomputable def tD(t u:TT):TT:=λb H Q=>t b H λc a=>if c=e6 then Q e6 a else u b a Q
def cW(t:TT):TT:=λb H Q=>t b H λc a=>Q (!c) a
theorem KC(g:PT X a tA):PW X (.BoolOp .And [a] pos) tA:=by
 intro d b s f H Q I h;refine isTrue_and<|hR (g b s f H Q I h) λc i e=>?_;cases c with
 | true=>exact isTrue_and_nil e
 | false=>exact e
theorem YG(g:PT X a tA):PW X (.BoolOp .Or [a] pos) tA:=by
 intro d b s f H Q I h;refine isTrue_or<|hR (g b s f H Q I h) λc i e=>?_;cases c with
 | false=>exact isTrue_or_nil e
 | true=>exact e
theorem YH(t:PT X a tA)(B:PW X (.BoolOp .And (b::qT) pos) pW):PW X (.BoolOp .And (a::b::qT) pos) (dc tA pW):=by
 intro J e s g H Q I h;refine isTrue_and<|hR (t e s g H _ I h) λc i M=>?_;obtain⟨f,d,z⟩:=M;cases c with
 | true=>exact B J e i g f Q d z
 | false=>exact⟨f,d,z⟩
theorem W3(t:PT X a tA)(B:PW X (.BoolOp .Or (b::qT) pos) pW):PW X (.BoolOp .Or (a::b::qT) pos) (tD tA pW):=by
 intro J e s g H Q I h;refine isTrue_or<|hR (t e s g H _ I h) λc i M=>?_;obtain⟨f,d,z⟩:=M;cases c with
 | true=>exact⟨f,d,z⟩
 | false=>exact B J e i g f Q d z
theorem YO(ha:PT X a tA):PT X (.UnaryOp .Not a pos) (cW tA):=by intro b s e H Q I h;exact isTrue_not<|ha b s e H (λc d=>Q (!c) d) I h
noncomputable def WO(ta tb:TE):TE:=λb H Q=>ta b H λx a=>∃c,x = .bl c/\if c=e6 then tb b a Q else Q (.bl f9) a
noncomputable def WK(ta:TE):TE:=λb H Q=>ta b H λx a=>∃c,x = .bl c/\Q (.bl<|!c) a
theorem Y1(h:PE X a t):PE X (.BoolOp op [a] pos) t:=λb s e H Q I d=>BoolOp_one<|h b s e H Q I d
theorem Y6(t:PE X a ta)(B:PE X (.BoolOp .And (b::qT) pos) tb):PE X (.BoolOp .And (a::b::qT) pos) (WO ta tb):=by
 intro e s g H Q I h;refine BoolOp_and<|hR (t e s g H _ I h) λv i J=>?_;obtain⟨x,f,z,M,d⟩:=J;obtain⟨c,rfl,d⟩:=d;cases M;refine gk ?_;cases c with
 | true=>exact B e i g f Q z d
 | false=>exact⟨.bl f9,f,z,rfl,d⟩
theorem Y2(g:PE X a ta):PE X (.UnaryOp .Not a pos) (WK ta):=by intro b s f H Q I h;refine UnaryOp_<|hR (g b s f H _ I h) λv i z=>?_;obtain⟨x,e,B,J,d⟩:=z;obtain⟨c,rfl,d⟩:=d;cases J;exact not_of<|gk ⟨.bl<|!c,e,B,rfl,d⟩
noncomputable def rO(t:TT)(ta tb:TE):TE:=λa H Q=>t a H λc b=>if c=e6 then ta a b Q else tb a b Q
theorem Xh(J:PT X c tA)(t:PE X a ta)(M:PE X b tb):PE X (.IfExp c a b pos) (rO tA ta tb):=by
 intro e s f H Q I h;refine wpAny_IfExp<|hR (J e s f H _ I h) λd i O=>?_;obtain⟨g,z,B⟩:=O;cases d with
 | true=>exact t e i f g Q z B
 | false=>exact M e i f g Q z B
end
noncomputable def i2(K:eO)(H:Hp)(a:g6)(xs:List V):Prop:=
 Rd H a (.lst xs)\/
  ∃(o:mI) (d:Array hA) (n:Nat),K.lookup a=dV o/\o.cls = .type "list"/\o.dict=f6/\o.data = .seq d n/\d.size<=lV/\i0 xs d.toList
noncomputable def i3(K:eO)(H:Hp)(a:g6)(xs:List V):Prop:=
 Rd H a (.tup xs)\/
  ∃(o:mI) (d:Array hA) (n:Nat),K.lookup a=dV o/\(o.cls,o.dict)=(lB "tuple",f6)/\o.data = .seq d n/\d.size<=lV/\i0 xs d.toList
noncomputable def dY:hA->Option V
 | .none=>dV .i4
 | .bool b=>dV (.bl b)
 | .int i _=>dV (.int i)
 | .str x _=>dV (.str x)
 | .bytes b _=>dV (.ri b)
 | .float b _=>dV (.oR b)
 | .ref a=>dV (.ref a)
 | .type n=>dV (.ty n)
 | _=>f6
theorem RelV.abs(r:RelV x u):dY u=dV x:=by
 cases x with
 | i4=>cases r;rfl
 | bl _=>cases r;rfl
 | int _=>obtain⟨t,rfl⟩:=r;rfl
 | str _=>obtain⟨t,rfl⟩:=r;rfl
 | ri _=>obtain⟨t,rfl⟩:=r;rfl
 | oR _=>obtain⟨t,rfl⟩:=r;rfl
 | ref _=>cases r;rfl
 | ty _=>cases r;rfl
theorem RelV.inj(r:RelV x u)(q:RelV y u):x=y:=fK<|r.abs.symm.trans q.abs
theorem i0.inj : ∀{xs ys:List V} {g:List hA},i0 xs g->i0 ys g->xs=ys
 | _,_,_,.nil,.nil=>rfl
 | _,_,_,.cons r t,.cons r' t'=>by rw[r.inj r',i0.inj t t']
section
variable{X:Cx}{pins:GW}{σ:St}{H:Hp}{s:hL}{a:g6}{xs ys:List V}
theorem i2.of{K:eO}(h:H a=dV (.lst xs)):i2 K H a xs:= .inl (.inl h)
theorem i3.of{K:eO}(h:H a=dV (.tup xs)):i3 K H a xs:= .inl (.inl h)
theorem Inv.list(I:Inv X pins σ H s)(h:i2 X.K H a xs) : ∃d:List hA,i0 xs d/\PlainL s.heap a d.toArray/\xs.length<=lV:=by
 rcases h with h | ⟨o,d,n,B,J,hd,M,O,r⟩
 ·obtain⟨z,d,n,r,e⟩:=h.ok I.i5
  exact⟨d,r,⟨_,n,e,rfl,rfl,rfl⟩,z⟩
 ·refine⟨d.toList,r,⟨o,n,I.me a o B,J,hd,by simpa using M⟩,?_⟩
  have e:=r.length;simp only[il]at e;omega
theorem Inv.tuple(I:Inv X pins σ H s)(h:i3 X.K H a xs) : ∃d:List hA,i0 xs d/\o7 s.heap a d.toArray/\xs.length<=lV:=by
 rcases h with h | ⟨o,d,n,B,J,M,O,r⟩
 ·obtain⟨z,d,r,p⟩:=h.ok I.i5
  exact⟨d,r,p.tup,z⟩
 ·refine⟨d.toList,r,⟨o,I.me a o B,(Prod.mk.inj J).1,n,by simpa using M⟩,?_⟩
  have e:=r.length;simp only[il]at e;omega
theorem Inv.rB(I:Inv X pins σ H s)(h:i2 X.K H a xs)(h':i2 X.K H a ys):xs=ys:=by
 obtain⟨B,r,⟨o,n,e,_,_,d⟩,_⟩:=I.list h;obtain⟨b,J,⟨g,M,z,_,_,f⟩,_⟩:=I.list h';rw[e]at z;cases z;rw[d]at f;injection f with d1 _;have:B=b:=by simpa using congrArg Array.toList d1
 subst this;exact r.inj J
theorem Inv.sE(I:Inv X pins σ H s)(h:i3 X.K H a xs)(h':i3 X.K H a ys):xs=ys:=by
 obtain⟨B,r,⟨o,e,_,n,d⟩,_⟩:=I.tuple h;obtain⟨b,J,⟨g,z,_,M,f⟩,_⟩:=I.tuple h';rw[e]at z;cases z;rw[d]at f;injection f with d1 _;have:B=b:=by simpa using congrArg Array.toList d1
 subst this;exact r.inj J
end
abbrev Cx.nc(X:Cx)(E:GQ):Cx:={X with xe:=E}
abbrev Cx.oW(X:Cx):Cx:=X.nc λ_ _=>False
theorem Cx.Ok.nc{X:Cx}(ok:X.Ok)(E:GQ):(X.nc E).Ok:=
 ⟨ok.mod,ok.kind,ok.glob,ok.blt,ok.above,ok.inj,ok.has,ok.o9,ok.hd,ok.frames,ok.pU,ok.pK,ok.bs,ok.og,ok.pq,ok.pe,ok.nB,ok.oS⟩
theorem Cx.Ok.n6{X:Cx}{E:GQ}(ok:(X.nc E).Ok):X.Ok:=
 ⟨ok.mod,ok.kind,ok.glob,ok.blt,ok.above,ok.inj,ok.has,ok.o9,ok.hd,ok.frames,ok.pU,ok.pK,ok.bs,ok.og,ok.pq,ok.pe,ok.nB,ok.oS⟩
section
variable{X:Cx}{pins:GW}{σ:St}{H:Hp}{s:hL}{E:GQ}
theorem Inv.nc(I:Inv X pins σ H s)(E:GQ):Inv (X.nc E) pins σ H s:=⟨I.ok.nc E,I.os,I.bare,I.base,I.loc,I.cell,I.free,I.nO,I.pin,I.i5,I.len⟩
theorem Inv.n6(I:Inv (X.nc E) pins σ H s):Inv X pins σ H s:=⟨I.ok.n6,I.os,I.bare,I.base,I.loc,I.cell,I.free,I.nO,I.pin,I.i5,I.len⟩
theorem SP.n6(h:SP (X.nc E) pins D f s'):SP X pins D f s':=by
 cases f with
 | next=>obtain⟨a,b,I,q⟩:=h;exact⟨a,b,I.n6,q⟩
 | brk=>obtain⟨a,b,I,q⟩:=h;exact⟨a,b,I.n6,q⟩
 | cont=>obtain⟨a,b,I,q⟩:=h;exact⟨a,b,I.n6,q⟩
 | ret u=>obtain⟨v,a,b,I,r,q⟩:=h;exact⟨v,a,b,I.n6,r,q⟩
theorem mN.oW{st:List jz}{t:TS}(h:mN X.oW st t):mN X st t:=λpins s σ H D I a=>
 gY (h pins s σ H D (I.nc _) a) (λ_ _ q=>q.n6) λ_ _ z=>gP z
end
section
variable{X:Cx}{st:jz}{qT:List jz}{t u:TS}{e:hH}{te:TE}{pos:i7}
def WM:TS:=λD a H=>D.nx a H
def cU(t u:TS):TS:=λD a H=>t {D with nx:=u D} a H
theorem Jr:mN X [] WM:=λ_ _ a H _ I h=>iZ ⟨a,H,I,h⟩
theorem jd(g:PS X st t)(z:mN X qT u):mN X (st::qT) (cU t u):=by
 intro a s j H D I h;refine wpAny_execs_cons<|hR (g a s j H {D with nx:=u D} I h) λf i q=>?_;cases f with
 | next=>
  obtain⟨b,e,d,q⟩:=q;exact z a i b e D d q
 | ret v=>exact q
 | brk=>exact q
 | cont=>exact q
theorem ko(g:PS X st t):mN X [st] t:=by
 intro a s b H D I h;refine wpAny_execs_cons<|hR (g a s b H D I h) λf d q=>?_;cases f with
 | next=>exact iZ q
 | ret v=>exact q
 | brk=>exact q
 | cont=>exact q
theorem Inv.quiet(I:Inv X pins σ H s):interactive X.env=f9:=by simp[interactive,I.ok.kind]
def WN(te:TE):TS:=λD a H=>te a H λ_ b=>D.nx a b
theorem yx(d:PE X e te)(z:nH e f6 pos.line X.env=pure f9:=by rfl):PS X (.Expr e pos) (WN te):=by intro a s b H D I h;exact wpAny_Expr_any (hR (d a s b H _ I h) λv g ⟨x,f,B,M,J⟩=>⟨b,f,B,J⟩) I.quiet z
def cV(te:TE):TS:=λD a H=>te a H D.rt
theorem Ju(d:PE X e te):PS X (.Return (dV e) pos) (cV te):=by intro a s b H D I h;exact wpAny_Return_some<|hR (d a s b H _ I h) λv g ⟨x,f,z,B,J⟩=>⟨x,b,f,z,B,J⟩
noncomputable def cY(c:TT)(t u:TS):TS:=λD a H=>c a H λb d=>if b=e6 then t D a d else u D a d
theorem YR(J:PT X c tc)(C:mN X a t)(M:mN X b u):PS X (.If c a b pos) (cY tc t u):=by
 intro e s f H D I h;refine wpAny_If<|hR (J e s f H _ I h) λd i O=>?_;obtain⟨g,z,B⟩:=O;cases d with
 | true=>exact C e i f g D z B
 | false=>exact M e i f g D z B
def Yu:TS:=λ_ _ _=>False
theorem Xc:PS X st Yu:=λ_ _ _ _ _ _ h=>h.elim
end
abbrev TG:=V->St->Hp->(St->Hp->Prop)->Prop
abbrev oM:=List V->St->Hp->(St->Hp->Prop)->Prop
noncomputable def PG(X:Cx)(d:hH)(t:TG):Prop:=
 ∀(a:GW) (s:hL) (f:St) (H:Hp) (v:V) (u:hA) (Q:St->Hp->Prop),Inv X a f H s->RelV v u->t v f H Q->
  wpAny (hO X.prog X.w) X.A (oN d X.env u) (λ_ g=>∃b e,Inv X a b e g/\Q b e) X.xe s
noncomputable def o8(X:Cx)(z:List hH)(t:oM):Prop:=
 ∀(a:GW) (s:hL) (g:St) (H:Hp) (f:List V) (e:List hA) (Q:St->Hp->Prop),Inv X a g H s->i0 f e->t f g H Q->
  wpAny (hO X.prog X.w) X.A (assignInOrder ((ox z X.env).map (·.2)) e) (λ_ h=>∃b d,Inv X a b d h/\Q b d) X.xe s
section
variable{X:Cx}{pos:i7}
def qc(i:Nat):TG:=λv a H Q=>Q (a.set i<|some v) H
theorem JB(d:X.N.Nodup)(g:X.N[i]? = dV x)(z:Loc X.env.scope x)(B:X.fn x=e6\/X.env.scope.names.lookup x=dV .local:=by first | exact .inl rfl | exact .inr rfl | assumption):PG X (.Name x pos) (qc i):=by intro a s e H v u Q I r h;exact tF<|wM I d g z r (λb J=>⟨_,H,J,h⟩) B
def bW:oM:=λa b H Q=>a=[]/\Q b H
noncomputable def Vx(t:TG)(u:oM):oM:=λd e H Q=>∃v r,d=v::r/\t v e H λa b=>u r a b Q
theorem yA:o8 X [] bW:=by intro a s b H f d Q I r h;obtain⟨e,h⟩:=h;subst e;cases r;exact assignInOrder_nil ⟨b,H,I,h⟩
theorem jK(g:PG X e t)(C:o8 X es u)
 (d:(ox (e::es) X.env).map (·.2)=oN e X.env::(ox es X.env).map (·.2):=by rfl):o8 X (e::es) (Vx t u):=by
 intro a s j H l k Q I r h;obtain⟨v,R,f,h⟩:=h;subst f;cases r with
 | cons r z=>
  rw[d];refine assignInOrder_cons<|hR (g a s j H _ _ _ I r h) λ_ i B=>?_;obtain⟨J,b,M,O⟩:=B;exact C a i J b _ _ Q M z O
noncomputable def bV(K:eO)(n:Nat)(t:oM):TG:=λv d H Q=>∃a b,v = .ref a/\i3 K H a b/\b.length=n/\t b d H Q
theorem YY(z:X.calm=e6)(h:o8 X es t)
 (C:(ox es X.env).length=n:=by rfl) (B:(ox es X.env).findIdx? (·.1)=f6:=by rfl):PG X (.Tuple es k pos) (bV X.K n t):=by
 intro f s i H v u Q I r g;obtain⟨a,m,j,J,M,g⟩:=g;subst j;cases r;obtain⟨W,d,O,Y⟩:=I.tuple J;refine assign_Tuple_tuple (I.ok.hd z) O (by simp[C,<- M,d.length]) B λl R=>?_;have U:Inv X f i H {s with heap:=l}:=I.kept (t':=s.toks) λb o e=>R b o (fF<|ff e) e;exact h f _ i H m _ Q U (by simpa using d) g
def y0(t:TE)(g:TG):TS:=λD a H=>t a H λx b=>g x a b D.nx
theorem XX(d:PE X e te)(z:PG X tg g)(B:tx [tg] e pos.line X.env=pure f9:=by rfl)(C:swappedStores [tg] e X.env=pure f6:=by rfl)
 (t:(ox [tg] X.env).map (·.2)=[oN tg X.env]:=by rfl):PS X (.Assign [tg] e pos) (y0 te g):=by
 intro a s b H D I h;refine wpAny_Assign_stores (hR (d a s b H _ I h) λv i J=>?_) B C;obtain⟨x,f,M,O,R⟩:=J;rw[t];exact hR (z a i b f x v _ M O R) λ_ j q=>q
theorem YQ(d:X.N.Nodup)(g:X.N[i]? = dV x)(z:Loc X.env.scope x)(B:PE X e te)(J:nH e (dV (.Name x pos')) pos.line X.env=pure f9:=by rfl)(M:X.fn x=e6\/X.env.scope.names.lookup x=dV .local:=by first | exact .inl rfl | exact .inr rfl | assumption) :
 PS X (.Assign [.Name x pos'] e pos) (y0 te<|qc i):=by
 intro a s f H D I h;refine wpAny_Assign_Name (hR (B a s f H _ I h) λv j O=>?_) J;obtain⟨y,b,R,U,W⟩:=O;exact wM R d g z U (λk Y=>⟨_,b,Y,W⟩) M
end
structure It where
 go:Nat->Hp->Prop
 nR:Nat->Hp->V->Hp->Prop
 stop:Nat->Hp->Prop
noncomputable def ZO(X:Cx)(g:GW)(H:Hp)(b:g6):Prop:=
 H b=f6/\b≠X.env.locals/\b∉X.fs/\(b∈X.ex\/X.mx.heap.objs.size<=b)/\(∀x c,X.env.cells.lookup x=dV c->c≠b)/\∀p∈X.pn++g,p.1≠b
theorem Inv.pf(I:Inv X pins σ H s)(d:s.heap.objs.size<=b)(g:H' b=f6):ZO X pins H' b:=by
 refine⟨g,gS<|fg I.lt d,I.s9 d,.inr<|fU I.sz d,λx c e z=>?_,λp B z=>?_⟩
 ·obtain⟨v,q⟩:=I.cell x c e
  exact absurd (fg q.lt<|by rw[z];exact d)<|gd _
 ·exact absurd (fg (ff (I.pin p B).1)<|by rw[z];exact d)<|gd _
structure Turn(P:ma)(w:j1)(K:eO)(tg:hH)(J:It)(fp:List g6)(it:g6)(tn:Nat->h9->Prop):Prop where
 mem:it∈fp
 obj : ∀i h,tn i h->∀b∈fp,∃o,h.get? b=dV o/\∀v,o.data ≠ .cell v
 keep : ∀i h h',tn i h->(∀b∈fp,∀o,h.get? b=dV o->h'.get? b=dV o)->tn i h'
 item : ∀(X:Cx),X.prog=P->X.w=w->X.K=K->X.calm=e6->∀(i:Nat) (pins:GW) (s:hL) (σ:St) (H:Hp) (E:GQ),Inv X pins σ H s->(∀b∈fp,ZO X pins H b)->tn i s.heap->J.go i H->
  wpAny (hO P w) X.A (pR<|.ref it) (λr s1=>∃u,r=dV u/\
   wpAny (hO P w) X.A (pN tg (.ref it) u) (λ_ s2=>∃x H',Inv X pins σ H' s2/\RelV x u/\J.nR i H x H'/\tn (i+1) s2.heap/\∀b∈fp,H' b=f6) E s1) E s
 done : ∀(X:Cx),X.prog=P->X.w=w->X.K=K->X.calm=e6->∀(i:Nat) (pins:GW) (s:hL) (σ:St) (H:Hp) (E:GQ),Inv X pins σ H s->(∀b∈fp,ZO X pins H b)->tn i s.heap->J.stop i H->
  wpAny (hO P w) X.A (pR<|.ref it) (λr s1=>r=f6/\Inv X pins σ H s1) E s
 self : ∀(A:mS) (i:Nat) (s:hL) (Q:GQ) (E:GQ),tn i s.heap->Q (.ref it) s->wpAny (hO P w) A (pQ<|.ref it) Q E s
abbrev TI:=St->Hp->(It->Hp->Prop)->Prop
noncomputable def rY(X:Cx)(g:GW)(C:St)(z:hH)(R:It->Hp->Prop)(d:hA)(t:hL):Prop:=
 ∃(f:g6) (e:List g6) (h:Nat->h9->Prop) (J:It) (a:Hp),d = .ref f/\Inv X g C a t/\Turn X.prog X.w X.K z J e f h/\h 0 t.heap/\(∀b∈e,ZO X g a b)/\R J a
noncomputable def PI(X:Cx)(t g:hH)(z:TI):Prop:=
 ∀(a:GW) (s:hL) (b:St) (H:Hp) (R:It->Hp->Prop),Inv X a b H s->z b H R->
  wpAny (hO X.prog X.w) X.A (hI g X.env) (λv d=>wpAny (hO X.prog X.w) X.A (pQ v) (rY X a b t R) X.xe d) X.xe s
theorem K6(z:s.heap.get? it=dV o)(B:o.cls = .type n)(g:o.data = .fields vs)
 (t:["enumerate","zip","dict_itemiterator","dict_reverseitemiterator","odict_iterator","itertools.zip_longest","itertools.pairwise"].contains n=f9) (d:Q () s):wpAny M A (pN tg (.ref it) u) Q E s:=by
 unfold pN;cases tg<;>first
  | exact eX d
  | (cases u<;>first
      | exact eX d
      | (refine eP (wpAny_load z ?_)
         rw[B,g];show wpAny M A (if (["enumerate","zip","dict_itemiterator","dict_reverseitemiterator","odict_iterator","itertools.zip_longest","itertools.pairwise"].contains n && vs[0]? == dV (pS _))=e6 then _ else _) Q E s;rw[GY (by intro h;rw[t,Bool.false_and]at h;cases h)];exact eX d))
noncomputable def p7(K:eO)(a:g6):It:=
 ⟨λi H=>∃b x,i2 K H a b/\b[i]? = dV x,λi H x d=>d=H/\∀b,i2 K H a b->b[i]? = dV x,λi H=>∃b,i2 K H a b/\b.length<=i⟩
noncomputable def rW(K:eO)(a:g6):It:=
 ⟨λi H=>∃b x,i3 K H a b/\b[i]? = dV x,λi H x d=>d=H/\∀b,i3 K H a b->b[i]? = dV x,λi H=>∃b,i3 K H a b/\b.length<=i⟩
noncomputable def oo(lo:Int)(n:Nat):It:=⟨λi _=>i<n,λi H x a=>a=H/\x = .int (lo+i),λi _=>n<=i⟩
theorem yY{P:ma}{w:j1}{K:eO}{tg:hH}(a it:g6):Turn P w K tg (p7 K a) [it] it (λi h=>h.IsListIter it a i) where
 mem:=by simp
 obj:=λi h st b B=>by
  have e:b=it:=by simpa using B
  subst e;obtain⟨o,e,c,d⟩:=st;exact⟨o,e,λv z=>by rw[d]at z;cases z⟩
 keep:=λi h h' st k=>st.at λo e=>k it ⋯ o e
 item:=by intro X O hw R hc i pins s σ H E I J st U;subst O hw R;obtain⟨xs,x,M,W⟩:=U;obtain⟨a7,Y,p,hz⟩:=I.list M;obtain⟨u,hu,ru⟩:=Y.get W;obtain⟨f0,f1,f2,f3,f4,f5⟩:=J it ⋯;refine wpAny_pyNext_list_item st p.isList (x:=u) (by simpa using hu) λh' a6 sb=>?_;have I1:Inv X pins σ H {s with heap:=h'}:=I.turned (t':=s.toks) (λb o B e=>(sb.2 b B).trans e) f0 f1 f3 f4 f5;obtain⟨o,e,c,d⟩:=id a6;exact⟨u,rfl,K6 (s:={s with heap:=h'}) e c d ⋯ ⟨x,H,I1,ru,⟨rfl,λys hy=>by rw[I.rB hy M];exact W⟩,a6,λb B=>(J b B).1⟩⟩
 done:=by intro X O hw R hc i pins s σ H E I J st U;subst O hw R;obtain⟨xs,M,W⟩:=U;obtain⟨a7,Y,p,hz⟩:=I.list M;obtain⟨f0,f1,f2,f3,f4,f5⟩:=J it ⋯;have hl:=Y.length;exact wpAny_pyNext_list_end (I.ok.hd hc) st p.isList (by simp;omega) λh' eb=>⟨rfl,I.turned (t':=s.toks) (λb o B e=>eb b o B e) f0 f1 f3 f4 f5⟩
 self:=λ_ _ _ _ _ st h=>wpAny_pyIter_listiter st h
theorem Zs{P:ma}{w:j1}{K:eO}{tg:hH}(a it:g6):Turn P w K tg (rW K a) [it] it (λi h=>h.IsTupleIter it a i) where
 mem:=by simp
 obj:=λi h st b B=>by
  have e:b=it:=by simpa using B
  subst e;obtain⟨o,e,c,d⟩:=st;exact⟨o,e,λv z=>by rw[d]at z;cases z⟩
 keep:=λi h h' st k=>st.at λo e=>k it ⋯ o e
 item:=by intro X O hw R hc i pins s σ H E I J st U;subst O hw R;obtain⟨xs,x,M,W⟩:=U;obtain⟨Y,rv,p,hz⟩:=I.tuple M;obtain⟨u,hu,ru⟩:=rv.get W;obtain⟨f0,f1,f2,f3,f4,f5⟩:=J it ⋯;refine wpAny_pyNext_tuple_item st (show s.heap.IsTuple a Y.toArray from p) (x:=u) (by simpa using hu) λh' a7 sb=>?_;have I1:Inv X pins σ H {s with heap:=h'}:=I.turned (t':=s.toks) (λb o B e=>(sb.2 b B).trans e) f0 f1 f3 f4 f5;obtain⟨o,e,c,d⟩:=id a7;exact⟨u,rfl,K6 (s:={s with heap:=h'}) e c d ⋯ ⟨x,H,I1,ru,⟨rfl,λys hy=>by rw[I.sE hy M];exact W⟩,a7,λb B=>(J b B).1⟩⟩
 done:=by intro X O hw R hc i pins s σ H E I J st U;subst O hw R;obtain⟨xs,M,W⟩:=U;obtain⟨Y,rv,p,hz⟩:=I.tuple M;obtain⟨f0,f1,f2,f3,f4,f5⟩:=J it ⋯;have hl:=rv.length;exact wpAny_pyNext_tuple_end (I.ok.hd hc) st (show s.heap.IsTuple a Y.toArray from p) (by simp;omega) λh' eb=>⟨rfl,I.turned (t':=s.toks) (λb o B e=>eb b o B e) f0 f1 f3 f4 f5⟩
 self:=λ_ _ _ _ _ st h=>wpAny_pyIter_tupleiter st h
theorem Zt{P:ma}{w:j1}{K:eO}{tg:hH}(it:g6)(lo:Int)(n:Nat):Turn P w K tg (oo lo n) [it] it (λi h=>IsRangeIter h it (lo+(i:Nat)*1) ((n:Int) - (i:Nat)) 1) where
 mem:=by simp
 obj:=λi h st b d=>by
  have e:b=it:=by simpa using d
  subst e;exact⟨_,st,λv z=>by have z':Data.fields _=Data.cell v:=z;cases z'⟩
 keep:=λi h h' st k=>k it ⋯ _ st
 item:=by intro X J hw M O i pins s σ H E I B st R;subst J hw M;obtain⟨U,Y,f2,f3,f4,f5⟩:=B it ⋯;have W:=Walks.range (prog:=X.prog) (w:=X.w) (I.ok.hd O) it lo 1 n;refine W.item i s _ _ R st λv h' tk hv a4 kk=>?_;obtain⟨t,rfl⟩:=hv;have I1:Inv X pins σ H {s with heap:=h',toks:=tk}:=I.turned (λb o d e=>kk b o (by simpa using d) e) U Y f3 f4 f5;refine⟨_,rfl,K6 (s:={s with heap:=h',toks:=tk}) (n:="range_iterator") a4 rfl rfl ⋯ ⟨.int (lo+i),H,I1,⟨t,?_⟩,⟨rfl,rfl⟩,a4,λb d=>(B b d).1⟩⟩;rw[Int.mul_one]
 done:=by intro X J hw M O i pins s σ H E I B st R;subst J hw M;obtain⟨U,Y,f2,f3,f4,f5⟩:=B it ⋯;exact wpAny_pyNext_range_end (I.ok.hd O) st (by have:n<=i:=R;omega) λh' eb=>⟨rfl,I.turned (t':=s.toks) (λb o d e=>eb b o d e) U Y f3 f4 f5⟩
 self:=λ_ _ _ _ _ st h=>wpAny_pyIter_rangeiter st h
section
variable{X:Cx}{tg:hH}
noncomputable def ao(K:eO)(g:TE):TI:=λe H R=>g e H λx b=>∃a,x = .ref a/\(∃d,i2 K b a d)/\R (p7 K a) b
theorem KO{l:hH}{t:TE}(z:PE X l t):PI X tg l (ao X.K t):=by
 intro f s j H R I h;refine hR (z f s j H _ I h) λv g B=>?_;obtain⟨x,i,d,J,M⟩:=B;obtain⟨a,e,⟨m,O⟩,q⟩:=M;subst e;cases J;obtain⟨W,Y,p,k⟩:=d.list O;refine lR p.isList ?_;refine⟨g.heap.objs.size,[g.heap.objs.size],_,_,i,rfl,d.kept (t':=g.toks) λb o e=>eQ _ e,yY a _,⟨_,fv _ rfl,rfl,rfl⟩,λb U=>?_,q⟩;have e:b=g.heap.objs.size:=by simpa using U
 subst e;exact d.pf (eW _)<|d.i5.fresh<|eW _
theorem QT{C:GW}{G:St}{H:Hp}{s:hL}{R:It->Hp->Prop}{E:GQ}{lo g:Int}{t u v:Tok}{d:Nat}(I:Inv X C G H s)(L : -(2 ^ 62)<=lo)(O:lo<2 ^ 62)(B : -(2 ^ 62)<=g)(J:g<2 ^ 62)
 (q:R (oo lo (g - lo).toNat) H):wpAny (hO X.prog X.w) X.A (pQ (.ref s.heap.objs.size)) (rY X C G tg R) E {s with heap:=s.heap.push {cls:= .type "range",data:= .fields #[.int lo t,.int g u,.int 1 v]},toks:=d}:=by
 refine wpAny_pyIter_range (IsRange.new ..) (small_one L O B J) ?_;have z:Inv X C G H {s with heap:=s.heap.push {cls:= .type "range",data:= .fields #[.int lo t,.int g u,.int 1 v]},toks:=d}:=I.kept λb o e=>eQ _ e;refine⟨(s.heap.push {cls:= .type "range",data:= .fields #[.int lo t,.int g u,.int 1 v]}).objs.size,[(s.heap.push {cls:= .type "range",data:= .fields #[.int lo t,.int g u,.int 1 v]}).objs.size],_,_,H,rfl,
  z.kept (t':=d) λb o e=>eQ _ e,Zt _ lo (g - lo).toNat,?_,λb M=>?_,q⟩
 ·have a:lo+((0:Nat):Int)*1=lo:=by simp
  have f:(((g - lo).toNat:Nat):Int) - ((0:Nat):Int)=Builtin.Range.rangeSize lo g 1:=by rw[rangeSize_one];split<;>omega
  show IsRangeIter _ _ (lo+((0:Nat):Int)*1) ((((g - lo).toNat:Nat):Int) - ((0:Nat):Int)) 1;rw[a,f];exact fv _ rfl
 ·have e:b=(s.heap.push {cls:= .type "range",data:= .fields #[.int lo t,.int g u,.int 1 v]}).objs.size:=by simpa using M
  subst e;exact z.pf (eW _)<|z.i5.fresh<|eW _
noncomputable def ak(g:TA):TI:=λd H R=>g d H λb a=>∃j:Int,b=[.int j]/\ -(2 ^ 62)<=j/\j<2 ^ 62/\R (oo 0 j.toNat) a
theorem Jz{a:hH}{g:TA}{p pos:i7}(z:Gl X "range")(G:X.mg "range" = f6)(C:PA X [a] g)(B:i6 [a] X.env=[(f9,hI a X.env)]:=by rfl):PI X tg (.Call (.Name "range" p) [a] [] pos) (ak g):=by
 intro b s f H R I h;refine Call_<|qV I z G boot_range<|gz (hR (C pos b s f H _ I h) λl k J=>?_) B rfl;obtain⟨m,i,M,O,d⟩:=J;obtain⟨j,e,d,U,q⟩:=d;subst e;cases O with
 | cons r W=>
  cases W;obtain⟨t,rfl⟩:=r;exact call_range_1 (QT M ⋯ ⋯ d U<|by simpa using q)
noncomputable def cZ(z:TI)(g:TG)(t:TS):TS:=λD a H=>z a H λJ h=>∃W:Nat->Nat->St->Hp->Prop,(∃m,W 0 m a h)/\∀i m a H,W i m a H->
 (J.stop i H/\D.nx a H)\/(J.go i H/\∃N:St->Hp->Prop,(∀e b,N e b->∃f,f<m/\W (i+1) f e b)/\∀x b,J.nR i H x b->g x a b λd j=>t {D with nx:=N,ct:=N,bk:=D.nx} d j)
noncomputable def vj(fp:List g6)(h:h9):List (g6×mI):=fp.filterMap λb=>(h.get? b).map λo=>(b,o)
theorem qM(d:b∈fp)(e:h.get? b=dV o):(b,o)∈vj fp h:=List.mem_filterMap.mpr ⟨b,d,by rw[e];rfl⟩
theorem JO(d:p∈vj fp h):p.1∈fp/\h.get? p.1=dV p.2:=by
 obtain⟨b,z,e⟩:=List.mem_filterMap.mp d;cases q:h.get? b with
 | none=>rw[q]at e;cases e
 | some o=>
  rw[q]at e;have B:(b,o)=p:=fK e;subst B;exact⟨z,q⟩
theorem Inv.pinned(I:Inv X pins σ H s)(M : ∀b∈fp,ZO X pins H b)(O : ∀b∈fp,∃o,s.heap.get? b=dV o/\∀v,o.data ≠ .cell v):Inv X (pins++vj fp s.heap) σ H s:=
 I.sg λp R=>(List.mem_append.mp R).elim (λz=>I.pin p<|fL _ z) λz=>by obtain⟨B,e⟩:=JO z;obtain⟨U,W,Y,_⟩:=M p.1 B;obtain⟨o,J,d⟩:=O p.1 B;rw[e]at J;cases J;exact⟨e,U,W,Y,d⟩
theorem Inv.pB(I:Inv X (pins++pl) σ H s):Inv X pins σ H s:=I.sg λp d=>I.pin p<|fL _<|iS _ d
theorem Jv(Y:pH (hO X.prog X.w) X.A X.env X.xe)(hc:X.calm=e6)(hi:PI X tg iter wi)(hg:PG X tg g)(z:mN X body tb)
 (hs : ∀x,nq iter X.env x=pure x:=by intro _;rfl):PS X (.For tg iter body [] pos) (cZ wi g tb):=by
 intro a s σ H D I h;refine wpAny_For (hR (hi a s σ H _ I h) λv s1 h1=>hR h1 λc4 s2 h2=>?_) hs;obtain⟨it,p,tn,J,H2,e,I2,T,b0,f2,W,⟨m0,w0⟩,b3⟩:=h2;subst e;have F : ∀{l:Hp},(∀b∈p,l b=f6)->∀b∈p,ZO X a l b:=λhn b z=>⟨hn b z,(f2 b z).2⟩;refine codeAny_forLoop_any (λn s'=>∃i j l,Inv X a j l s'/\tn i s'.heap/\(∀b∈p,l b=f6)/\W i n j l) ?_ m0 ⟨0,σ,H2,I2,b0,λb z=>(f2 b z).1,w0⟩;rintro n s3 ⟨i,k,E,S,y,Z,w3⟩;rcases b3 i n k E w3 with⟨C,qn⟩ | ⟨go,N,hN,step⟩
 ·refine iF Y (hR (T.done X rfl rfl rfl hc i a s3 k E X.xe S (F Z) y C) λr s4 U=>?_)
  obtain⟨K,I4⟩:=U;subst K;exact iZ ⟨k,E,I4,qn⟩
 ·refine iF Y (hR (T.item X rfl rfl rfl hc i a s3 k E X.xe S (F Z) y go) λr s4 U=>?_)
  obtain⟨u,K,h4⟩:=U;subst K;refine iF Y<|hR h4 λ_ s5 U=>?_;obtain⟨x,Q,I5,r5,y5,G,bg⟩:=U;have bi:=I5.pinned (F bg)<|T.obj _ _ G;refine iF Y<|hR (hg _ s5 k Q x u _ bi r5<|step x Q y5) λ_ s6 U=>?_;obtain⟨P,H6,I6,q6⟩:=U;refine iF Y<|hR (z _ s6 P H6 _ I6 q6) λf L R=>?_;have again : ∀{B:St} {M:Hp},Inv X (a++vj p s5.heap) B M L->N B M->∃m,m<n/\∃i j l,Inv X a j l L/\tn i L.heap/\(∀b∈p,l b=f6)/\W i m j l:=λ{B M} O t=>by obtain⟨m',hm,w7⟩:=hN B M t;refine⟨m',hm,i+1,B,M,O.pB,T.keep _ _ _ G λb z o e=>(O.pin (b,o)<|fL _<|fL _<|qM z e).1,λb z=>?_,w7⟩;obtain⟨o,e,d⟩:=T.obj _ _ G b z;exact(O.pin (b,o)<|fL _<|fL _<|qM z e).2.1
  cases f with
  | next=>obtain⟨B,M,O,t⟩:=R;exact again O t
  | cont=>obtain⟨B,M,O,t⟩:=R;exact again O t
  | brk=>obtain⟨B,M,O,R⟩:=R;exact⟨B,M,O.pB,R⟩
  | ret v=>obtain⟨x7,B,M,O,r7,R⟩:=R;exact⟨x7,B,M,O.pB,r7,R⟩
end
theorem vw{lo:Int}{n:Nat}{g:TG}{O:TS}{D:Ends}{t:St}{H:Hp}(d:Nat->St->Hp->Prop)(I:d 0 t H)
 (J : ∀i t H,i<n->d i t H->g (.int<|lo+i) t H λz L=>O {D with nx:=d<|i+1,ct:=d<|i+1,bk:=D.nx} z L) (P : ∀t H,d n t H->D.nx t H) :
 ∃W:Nat->Nat->St->Hp->Prop,(∃m,W 0 m t H)/\∀i m t H,W i m t H->
  ((oo lo n).stop i H/\D.nx t H)\/((oo lo n).go i H/\∃N:St->Hp->Prop,(∀G C,N G C->∃M,M<m/\W (i+1) M G C)/\∀x C,(oo lo n).nR i H x C->g x t C λz L=>O {D with nx:=N,ct:=N,bk:=D.nx} z L):=by
 refine⟨λi m t H=>m=n - i/\i<=n/\d i t H,⟨n,by simp,gj _,I⟩,?_⟩;rintro i m t H ⟨rfl,b,p⟩;by_cases B:i<n
 ·refine .inr ⟨B,d<|i+1,λG C a=>⟨n - (i+1),by omega,rfl,B,a⟩,λx C y=>?_⟩
  obtain⟨e,y⟩:=y;subst e y;exact J i t _ B p
 ·have e:i=n:=by omega
  subst e;exact .inl ⟨eW _,P t H p⟩
abbrev R2:=V->V->Hp->VK->Prop
noncomputable def lY(X:Cx)(f:hA->hA->Sem hA)(r:R2):Prop:=
 ∀(a:GW) (s:hL) (b:St) (H:Hp) (x y:V) (v u:hA) (Q:VK),Inv X a b H s->RelV x v->RelV y u->r x y H Q->
  wpAny (hO X.prog X.w) X.A (f v u) (EP X a b Q) X.xe s
noncomputable def yT(X:Cx)(f:hA)(r:List V->Hp->VK->Prop):Prop:=
 ∀(a:GW) (s:hL) (e:St) (H:Hp) (d:List V) (b:List hA) (Q:VK),Inv X a e H s->i0 d b->r d H Q->
  wpAny (hO X.prog X.w) X.A (call f b) (EP X a e Q) X.xe s
noncomputable def pA(r:R2)(g t:TE):TE:=λa H Q=>g a H λx b=>t a b λy d=>r x y d Q
noncomputable def rI(C:Int->Int->Prop)(g:Int->Int->V):R2:=λx y H Q=>∃i j,x = .int i/\y = .int j/\C i j/\Q (g i j) H
noncomputable def ng(g:Int->Int->V):R2:=λx y H Q=>∃i j,x = .int i/\y = .int j/\Q (g i j) H
section
variable{X:Cx}{a b c:hH}{ta tb tc:TE}{pos:i7}
theorem aM(P:PE X a ta)(z:PE X b tb){g:GW}{s:hL}{C:St}{H:Hp}{R:V->V->Hp->Prop}(I:Inv X g C H s)
 (h:ta C H λx L=>tb C L λy t=>R x y t) {Q:GQ} {f:hA->hA->Sem hA}
 (B : ∀v u G x y t,Inv X g C t G->RelV x v->RelV y u->R x y t->wpAny (hO X.prog X.w) X.A (f v u) Q X.xe G) :
 wpAny (hO X.prog X.w) X.A (hI a X.env) (λv J=>wpAny (hO X.prog X.w) X.A (hI b X.env) (λu M=>wpAny (hO X.prog X.w) X.A (f v u) Q X.xe M) X.xe J) X.xe s:=by
 refine hR (P g s C H _ I h) λv j d=>?_;obtain⟨x,L,O,U,W⟩:=d;refine hR (z g j C L _ O W) λu G d=>?_;obtain⟨y,t,Y,i,e⟩:=d;exact B v u G x y t Y U i e
theorem W9{d:Operator}{r:R2}(z:lY X (nN d) r)(g:PE X a ta)(B:PE X b tb):PE X (.BinOp a d b pos) (pA r ta tb):=by intro e s j H Q I h;exact wpAny_BinOp<|aM g B I h λv u i x y f J M O q=>z e i j f x y v u Q J M O q
theorem pP{f:hA->hA->Sem hA}{C:Int->Int->Prop}{g:Int->Int->Int}
 (rule : ∀(i j:Int) (t u:Tok) (s:hL) (Q:GQ) (E:GQ),C i j->Q (.int (g i j) s.toks) {s with toks:=s.toks+1}->wpAny (hO X.prog X.w) X.A (f (.int i t)<|.int j u) Q E s) :
 lY X f (rI C λi j=> .int (g i j)):=by
 intro a s e H x y v u Q I d z h;obtain⟨i,j,rfl,rfl,B,q⟩:=h;obtain⟨t,rfl⟩:=d;obtain⟨b,rfl⟩:=z;exact rule i j t b s _ _ B ⟨.int<|g i j,H,I.tok _,⟨_,rfl⟩,q⟩
theorem bR{f:hA->hA->Sem hA}{g:Int->Int->Int}
 (rule : ∀(i j:Int) (t u:Tok) (s:hL) (Q:GQ) (E:GQ),Q (.int (g i j) s.toks) {s with toks:=s.toks+1}->wpAny (hO X.prog X.w) X.A (f (.int i t)<|.int j u) Q E s) :
 lY X f (ng λi j=> .int (g i j)):=by
 intro a s e H x y v u Q I d z h;obtain⟨i,j,rfl,rfl,q⟩:=h;obtain⟨t,rfl⟩:=d;obtain⟨b,rfl⟩:=z;exact rule i j t b s _ _ ⟨.int<|g i j,H,I.tok _,⟨_,rfl⟩,q⟩
theorem af{f:hA->hA->Sem hA}{g:Int->Int->Bool}
 (rule : ∀(i j:Int) (t u:Tok) (s:hL) (Q:GQ) (E:GQ),Q (.bool<|g i j) s->wpAny (hO X.prog X.w) X.A (f (.int i t)<|.int j u) Q E s) :
 lY X f (ng λi j=> .bl (g i j)):=by
 intro a s e H x y v u Q I d z h;obtain⟨i,j,rfl,rfl,q⟩:=h;obtain⟨t,rfl⟩:=d;obtain⟨b,rfl⟩:=z;exact rule i j t b s _ _ ⟨.bl<|g i j,H,I,rfl,q⟩
def cQ(i j:Int):Prop:=0<j/\j<1073741824
def cP(i j:Int):Prop:=0<=j/\j<=1000000/\i.natAbs<2 ^ 64
noncomputable def oK(i j:Int):Prop:=(-(2 ^ 64)<i/\i<2 ^ 64)\/(-(2 ^ 64)<j/\j<2 ^ 64)
theorem oK.ok(h:oK i j):IntMulOk i j:=by
 rcases h with⟨a,b⟩ | ⟨a,b⟩
 ·exact .of_left<|intBits_le_64 a b
 ·exact .of_right<|intBits_le_64 a b
theorem td:lY X (nN .Add) (ng λi j=> .int (i+j)):=bR λ_ _ _ _ _ _ _ q=>add_int q
theorem Va:lY X (nN .Sub) (ng λi j=> .int (i - j)):=bR λ_ _ _ _ _ _ _ q=>sub_int q
theorem tf:lY X (nN .Mult) (rI oK λi j=> .int (i*j)):=pP λ_ _ _ _ _ _ _ d q=>mul_int q d.ok
theorem KU:lY X (nN .FloorDiv) (rI cQ λi j=> .int (i/j)):=pP λi j _ _ _ _ _ d q=>by have a:(0:Int)<j:=d.1;have b:j<1073741824:=d.2;exact floordiv_int ⋯ (by rw[Int.fdiv_eq_ediv_of_nonneg i ⋯];exact q)<|.inl<|PyProof.noPylong_small ⋯
theorem Ve:lY X (nN .Mod) (rI (λ_ j=>0<j) λi j=> .int (i%j)):=pP λi j _ _ _ _ _ d q=>by have a:(0:Int)<j:=d;exact mod_int' ⋯ (by rw[Int.fmod_eq_emod_of_nonneg i ⋯];exact q)
theorem Vb:lY X (nN .Pow) (rI cP λi j=> .int (i ^ j.toNat)):=pP λ_ _ _ _ _ _ _ d q=>pow_int_small d.1 d.2.1 d.2.2 q
end
section
variable{X:Cx}{a b c:hH}{ta tb tc:TE}{pos:i7}
theorem JI:lY X (mL .LtE) (ng λi j=> .bl (decide<|i<=j)):=af λ_ _ _ _ _ _ _ q=>le_int q
theorem Vf:lY X (mL .Gt) (ng λi j=> .bl (decide<|j<i)):=af λ_ _ _ _ _ _ _ q=>gt_int q
theorem ae:lY X (mL .GtE) (ng λi j=> .bl (decide<|j<=i)):=af λ_ _ _ _ _ _ _ q=>ge_int q
theorem lY.or(h:lY X f r)(h':lY X f r'):lY X f (λx y H Q=>r x y H Q\/r' x y H Q):=by
 intro a s b H x y v u Q I d z q;rcases q with q | q
 ·exact h a s b H x y v u Q I d z q
 ·exact h' a s b H x y v u Q I d z q
theorem kF(b:hH)(h:op ≠ .In:=by decide)(g:op ≠ .NotIn:=by decide):oy op b=f9:=by
 have a:(op==CmpOp.In)=f9:=by cases op<;>first | rfl | exact absurd rfl h
 have d:(op==CmpOp.NotIn)=f9:=by cases op<;>first | rfl | exact absurd rfl g
 cases b<;>simp[oy,a,d]
theorem JD{d:CmpOp}{r:R2}(z:lY X (mL d) r)(g:PE X a ta)(B:PE X b tb)(t:oy d b=f9):PE X (.Compare a [d] [b] pos) (pA r ta tb):=by intro e s j H Q I h;exact wpAny_Compare1 (aM g B I h λv u i x y f J M O q=>z e i j f x y v u Q J M O q) t
def Yt(t:TE):TT:=λb H Q=>t b H λx a=>∃k,x = .bl k/\Q k a
theorem Jo(d:lY X (mL op) r)(t:PE X a ta)(B:PE X b tb)(C:oy op b=f9):PT X (.Compare a [op] [b] pos) (Yt<|pA r ta tb):=by
 intro f s g H Q I h;refine wpAny_isTrue_Compare1 (hR (t f s g H _ I h) λv o ⟨x,i,J,M,O⟩=>hR (B f o g i _ J O) λu p ⟨y,j,R,U,W⟩=>
  hR (d f p g j x y v u _ R M U W) λc w ⟨z,Y,l,n,k,e,m⟩=>?_) C
 subst e;cases n;exact gk ⟨Y,l,m⟩
noncomputable def XJ(r B:R2)(ta tb tc:TE):TE:=λa H Q=>ta a H λx b=>tb a b λy e=>r x y e λz d=>∃k,z = .bl k/\
 (if k=e6 then tc a d λf I=>B y f I Q else Q (.bl f9) d)
theorem Xi(R:lY X (mL op) r)(U:lY X (mL pv) r')(t:PE X a ta)(W:PE X b tb)(Y:PE X c tc)
 (C:rz [op,pv] [b,c]=f9:=by with_unfolding_all rfl):PE X (.Compare a [op,pv] [b,c] pos) (XJ r r' ta tb tc):=by
 intro f s g H Q I h;refine Compare_chain (hR (t f s g H _ I h) λv K ⟨x,i,m,E,p⟩=>chain_link (hR (W f K g i _ m p) λu L ⟨y,j,n,B,w⟩=>
  hR (R f L g j x y v u _ n E B w) λd N ⟨z,J,M,F,k,e,O⟩=>?_)) C
 subst e;cases F;refine gk ?_;cases k with
 | false=>exact ite_ff ⟨.bl f9,J,M,rfl,O⟩
 | true=>exact ite_tt<|chain_last<|hR (Y f N g J _ M O) λS P ⟨T,l,o,G,A⟩=>U f P g l y T u S Q o B G A
theorem QY{B J:CmpOp}{r M:R2}(Y:lY X (mL B) r)(a0:lY X (mL J) M)(C:PE X a ta)(G:PE X b tb)(L:PE X c tc)
 (P:rz [B,J] [b,c]=f9:=by with_unfolding_all rfl):PT X (.Compare a [B,J] [b,c] pos) (Yt<|XJ r M ta tb tc):=by
 intro f s g H Q I h;refine isTrue_chain (hR (C f s g H _ I h) λv s1 ⟨x,i,n,T,F⟩=>test_link (hR (G f s1 g i _ n F) λu s2 ⟨y,j,o,O,K⟩=>
  hR (Y f s2 g j x y v u _ o T O K) λd s3 ⟨z,R,U,Z,k,e,W⟩=>?_)) P
 subst e;cases Z;refine gk ?_;cases k with
 | false=>
  obtain⟨k',w,E⟩:=W;cases w;exact ite_ff ⟨R,U,E⟩
 | true=>
  refine ite_tt<|test_last<|hR (L f s3 g R _ U W) λw' s4 ⟨z',l,p,r4,N⟩=>hR (a0 f s4 g l y z' u w' _ p O r4 N) λd' s5 ⟨z2,m,t,r5,k2,A,S⟩=>?_;subst A;cases r5;exact gk ⟨m,t,S⟩
theorem vp:(lV:Nat)<2 ^ 63:=by rw[sizeLine_eq];decide
theorem kY(r:i0 [x] us) : ∃u,us=[u]/\RelV x u:=by
 cases r with
 | cons d z=>cases z;exact⟨_,rfl,d⟩
theorem WG(r:i0 [x,y] us) : ∃u w',us=[u,w']/\RelV x u/\RelV y w':=by
 cases r with
 | cons d z=>
  cases z with
  | cons B I=>cases I;exact⟨_,_,rfl,d,B⟩
theorem Qu:yT X (.type "int") (λxs H Q=>(∃i,xs=[.int i]/\Q (.int i) H)\/∃k,xs=[.bl k]/\Q (.int (if k then 1 else 0)) H):=by
 intro a s e H xs b Q I r h;rcases h with⟨i,rfl,q⟩ | ⟨k,rfl,q⟩
 ·obtain⟨u,rfl,t,rfl⟩:=kY r
  exact call_int_int ⟨.int i,H,I,⟨_,rfl⟩,q⟩
 ·obtain⟨u,rfl,d⟩:=kY r
  cases d;exact call_int_bool ⟨.int<|if k then 1 else 0,H,I.tok _,⟨_,rfl⟩,q⟩
end
structure q5(h:h9)(x dx C:g6)(mA:GZ):Prop where
 obj:h.get? x=dV (PySem.W.instObj C dx)
 ns:h.Ns1 dx mA
 ne:dx≠x
theorem JQ{h:h9}{g:g6}{C:GZ}(n:h.Ns1 g C) : ∃G,h.get? g=dV G/\∀name,PySem.W.lookIn name G=dV (C name):=by
 obtain⟨o,b,O,d,f,B,_,i⟩:=n;refine⟨o,d,λname=>?_⟩;have e:=i name;unfold nsFind findBy at e;rw[<- Array.find?_toList]at e;unfold PySem.W.lookIn;rw[f];dsimp only;split
 ·rename_i y q
  rw[q]at e;exact congrArg dV e
 ·rename_i q
  rw[q]at e;have a:b.toList.any (·.refKey)=f9:=by rw[List.any_eq_false];intro y I;obtain⟨z,t,J⟩:=B y<|Array.mem_toList_iff.mp I;simp[DictEntry.refKey,J]
  have M : ¬b.toList.any (·.refKey)=e6:=by rw[a];exact fm
  rw[GY M];exact congrArg dV e
theorem q5.look(I:q5 h x dx C mA) : ∃g,PySem.W.InstAt h x (PySem.W.instObj C dx) C (dV g)/\∀name,PySem.W.lookIn name g=dV (mA name):=
 let ⟨g,d,z⟩:=JQ I.ns
 ⟨g,⟨I.obj,rfl,rfl,d⟩,z⟩
section
variable{P:ma}{w:j1}{H H':Hp}{h h':h9}{a C dx:g6}{fs sU:List (Str×V)}
theorem K3(g:ml P w H h)(e:H a=dV (.ins C dx fs)) : ∃mA,q5 h a dx C mA/\(∀f,bx (fs.lookup f)<|mA f)/\PySem.Within mA (fs.map (·.1))/\fs.length<=1000/\H dx=dV (.own a):=by obtain⟨d,z,b,B,mA,n,r,q⟩:=(show mr P w H h a (.ins C dx fs)from g a _ e);exact⟨mA,⟨B,n,b⟩,r,q,z,d⟩
end
structure p5(K:eO)(C:g6):Prop where
 pg:PySem.W.plainGet K C Str.empty=e6
 hd:PySem.W.hasDictIn K C=e6
 po:PySem.W.plainOver K C=e6
 sa:iw K (.ref C) "__setattr__" = dV (dV (.builtin "object.__setattr__"))
theorem p5.get{K:eO}{C:g6}(c:p5 K C)(f:Str):PySem.W.plainGet K C f=e6:=c.pg
section
variable{X:Cx}{pins:GW}{σ:St}{H:Hp}{s:hL}{A:mS}{E:GQ}{Q:GQ}{c:hA}{b:Bool}
inductive ni(K:eO)(H:Hp):V->hA->Prop where
 | i4:ni K H .i4 (.type "NoneType")
 | bl (x:Bool):ni K H (.bl x) (.type "bool")
 | int (i:Int):ni K H (.int i) (.type "int")
 | str (x:Str):ni K H (.str x) (.type "str")
 | oR (x:UInt64):ni K H (.oR x) (.type "float")
 | lst {a:g6} {xs:List V} (e:H a=dV (.lst xs)):ni K H (.ref a) (.type "list")
 | m7 {a:g6} {o:mI} {xs:List V} (e:H a=dV (.m7 o (.lst xs))):ni K H (.ref a) (.type "list")
 | tup {a:g6} {xs:List V} (e:H a=dV (.tup xs)):ni K H (.ref a) (.type "tuple")
 | dK {a:g6} {nr:List (Key×V)} (e:H a=dV (.dK nr)):ni K H (.ref a) (.type "dict")
 | dT {a:g6} {nr:List (List Key×V)} (e:H a=dV (.dT nr)):ni K H (.ref a) (.type "dict")
 | ins {a C dx:g6} {fs:List (Str×V)} (e:H a=dV (.ins C dx fs)) (cl:p5 K C) (ha:iw K (.ref C) "__class__" = dV (dV (.builtin "object.__class__")))
  (hn:PySem.W.specialIn K (.builtin "object.__class__") "__get__" = dV (dV (.builtin "getset_descriptor.__get__"))) (tL:PySem.W.takesIn K (.builtin "object.__class__")=dV e6)
  (hm:PySem.W.mroIn K C (.type "object")=dV e6):ni K H (.ref a) (.ref C)
theorem JT(I:Inv X pins σ H s)(d:RelV x u)(ty:ni X.K H x t)(e:gm X.K t c=dV b)(h : ∀M,Q (.bool b) {s with toks:=M}) :
 wpAny (hO X.prog X.w) A (call (.builtin "isinstance") [u,c]) Q E s:=by
 cases ty with
 | i4=>cases (show u=gO from d);exact fB lj I.me gw e (λz=>nomatch z) h
 | bl y=>cases (show u=lC y from d);exact fB ll I.me gw e (λz=>nomatch z) h
 | int i=>obtain⟨t,q⟩:=(show ∃t,u=Value.int i t from d);cases q;exact fB lE I.me gw e (λz=>nomatch z) h
 | str y=>obtain⟨t,q⟩:=(show ∃t,u=lg y t from d);cases q;exact fB lD I.me gw e (λz=>nomatch z) h
 | oR y=>obtain⟨t,q⟩:=(show ∃t,u=Value.float y t from d);cases q;exact fB PySem.W.kitx_float I.me gw e (λz=>nomatch z) h
 | @lst a j B=>
  cases (show u=fS a from d);obtain⟨_,_,n,_,f⟩:=(show mr X.prog X.w H s.heap a (.lst j)from I.i5 a _ B);exact fB iz I.me ⟨_,f,rfl⟩ e (λz=>nomatch z) h
 | @m7 a R j B=>
  cases (show u=fS a from d);obtain⟨_,_,_,n,_,f⟩:=(show mr X.prog X.w H s.heap a (.m7 R<|.lst j)from I.i5 a _ B);exact fB iz I.me ⟨_,f,rfl⟩ e (λz=>nomatch z) h
 | @tup a j B=>
  cases (show u=fS a from d);obtain⟨_,_,_,p⟩:=(show mr X.prog X.w H s.heap a (.tup j)from I.i5 a _ B);obtain⟨o,f,k,_⟩:=p;exact fB iU I.me ⟨o,f,(Prod.mk.inj k).1⟩ e (λz=>nomatch z) h
 | @dK a g B=>
  cases (show u=fS a from d);obtain⟨_,_,T,_,p⟩:=(show mr X.prog X.w H s.heap a (.dK g)from I.i5 a _ B);obtain⟨o,r,U,f,k,_⟩:=p;exact fB gW I.me ⟨o,f,k.1⟩ e (λz=>nomatch z) h
 | @dT a g B=>
  cases (show u=fS a from d);obtain⟨_,_,j,_,o,r,U,f,k,_⟩:=(show mr X.prog X.w H s.heap a (.dT g)from I.i5 a _ B);exact fB gW I.me ⟨o,f,k.1⟩ e (λz=>nomatch z) h
 | @ins a C N fs B m F L l G=>
  cases (show u=fS a from d);obtain⟨P,O,_⟩:=K3 I.i5 B;obtain⟨S,J,_⟩:=O.look;exact fB (PySem.W.kitx_own (m.get _) m.hd F L l G) I.me J e (λz=>nomatch z) h
end
structure mJ(k:Nat)(A:mS):Prop where
 hd:A.handled=f6
 dp:A.depth+3*k+5<recursionLimit
 un:A.units+16*k+200<cLine
theorem mJ.mono(r:mJ k A)(h:j<=k):mJ j A:=⟨r.hd,by have:=r.dp;omega,by have:=r.un;omega⟩
theorem mJ.deeper(r:mJ (k+1) A)(env:mD):mJ k (A.deeper env):=
 ⟨r.hd,by have:=r.dp;show A.depth+1+3*k+5<_;omega,by have:=r.un;show A.units+3+16*k+200<_;omega⟩
theorem mJ.depth(r:mJ k A):A.depth<recursionLimit:=by have:=r.dp;omega
def VX:TA:=λ_ H Q=>Q [] H
noncomputable def QL(g:TE)(d:TA):TA:=λa H Q=>g a H λx b=>d a b λf e=>Q (x::f) e
section
variable{X:Cx}{e:hH}{es:List hH}{te:TE}{t:TA}{pos:i7}
theorem jQ:PA X [] VX:=λ_ _ _ _ H Q I h=>iJ ⟨[],H,I,.nil,h⟩
theorem zX(C:PE X e te)(d:PA X es t)(z:i6 (e::es) X.env=(f9,hI e X.env)::i6 es X.env:=by rfl):PA X (e::es) (QL te t):=by intro pos a s b H Q I h;rw[z];show wpAny _ _ (oG ((f9,hI e X.env)::mT pos (i6 es X.env))) _ _ s;refine gn<|hR (C a s b H _ I h) λu i B=>?_;obtain⟨x,f,J,M,O⟩:=B;exact hR (d pos a i b f _ J O) λl k ⟨j,g,R,U,W⟩=>⟨x::j,g,R,.cons M U,W⟩
noncomputable def cT(t:TA):TE:=λd H Q=>t d H λb a=>b.length<=lV/\∀p,a p=f6->Q (.ref p) (upd a p<|.tup b)
noncomputable def cX(t:TA):TE:=λd H Q=>t d H λb a=>b.length<=lV/\∀p,a p=f6->Q (.ref p) (upd a p<|.lst b)
theorem XY(h:PA X es t):PE X (.Tuple es x1 pos) (cT t):=by intro a s k H Q I B;refine wpAny_Tuple_spliced<|hR (h pos a s k H _ I B) λi f ⟨j,g,d,r,z,q⟩=>⟨by rw[<- r.length];exact z,?_⟩;have J:g f.heap.objs.size=f6:=d.i5.fresh<|eW _;refine⟨.ref f.heap.objs.size,upd g f.heap.objs.size<|.tup j,d.laid (t':=f.toks) (λb u e=>eQ _ e) (eW _) ?_,rfl,q _ J⟩;exact⟨z,i,r,⟨_,fv _ rfl,rfl,_,rfl⟩⟩
theorem Y3(h:PA X es t):PE X (.List es pos) (cX t):=by intro a s k H Q I B;refine wpAny_List_spliced<|hR (h pos a s k H _ I B) λi f ⟨j,g,d,r,z,q⟩=>⟨by rw[<- r.length];exact z,?_⟩;have J:g f.heap.objs.size=f6:=d.i5.fresh<|eW _;refine⟨.ref f.heap.objs.size,upd g f.heap.objs.size<|.lst j,d.laid (t':=f.toks) (λb u e=>eQ _ e) (eW _) ?_,rfl,q _ J⟩;exact⟨z,i,0,r,fv _ rfl⟩
end
abbrev Sp:=List V->Hp->VK->XK->Prop
abbrev nu:=List mD->Hp->hL->XK->hA->hL->Prop
structure pD(P:ma)(w:j1)(K:eO)(mg:GZ)(base:h9)(A:mS)(outer:List mD)(s:hL)(H:Hp):Prop where
 frames:A.frames=dV outer
 mod:Mod K mg base
 bs : ∀b o,base.get? b=dV o->s.heap.get? b=dV o/\H b=f6
 og:base.objs.size<=s.heap.objs.size
 nB:s.heap.FunFrames base outer
 oS : ∀b∈nA outer,H b=f6
 i5:ml P w H s.heap
 bare:n7 s.gens
noncomputable def CE(outer:List mD)(P:ma)(w:j1)(H:Hp)(s:hL)(Q:VK)(u:hA)(g:hL):Prop:=
 ∃v a,g.os=s.os/\n7 g.gens/\Un (nA outer) [] H a s.heap g.heap/\ml P w a g.heap/\RelV v u/\Q v a
noncomputable def CR(CX:nu)(outer:List mD)(P:ma)(w:j1)(H:Hp)(s:hL)(Q:VK)(E:XK)(r:Result)(g:hL):Prop:=
 match r with
 | .ok (.ret u)=>CE outer P w H s Q u g
 | .ok _=>False
 | .error e=>CX outer H s E e g
structure nf(P:ma)(w:j1)(K:eO)(mg:GZ)(base:h9)(CX:nu)(k:Nat)(f:g6)(fd:mX)(ps:List Str)(sp:Sp):Prop where
 len : ∀vs H Q E,sp vs H Q E->vs.length=ps.length
 run : ∀(A:mS) (outer:List mD) (s:hL) (H:Hp) (args:Args) (us:List hA) (vs:List V) (Q:VK) (E:XK),mJ k A->pD P w K mg base A outer s H->pC s fd args (ps.zip us)->i0 vs us->sp vs H Q E->
  codeAny (hO P w) A (.call (.ref f) args) (CR CX outer P w H s Q E) s
section
variable{X:Cx}{pins:GW}{σ:St}{H:Hp}{s s':hL}
theorem Inv.sQ(I:Inv X pins σ H s):pD X.prog X.w X.K X.mg X.base X.A X.stack s H:=
 ⟨I.ok.frames,I.ok.mod,I.bs,fU I.ok.og I.sz,I.stack,I.sv,I.i5,I.bare⟩
theorem Inv.after(I:Inv X pins σ H s)(h:CE X.stack X.prog X.w H s Q u s'):EP X pins σ Q u s':=by obtain⟨v,f,os,a,un,e,r,q⟩:=h;obtain⟨B,g,d,t,J⟩:=s';obtain rfl:J=s.os:=os;exact⟨v,f,I.call (h':=B) (g':=g) (d':=d) (t':=t) (ch:=[]) un e a<|λb z=>absurd z ⋯,r,q⟩
end
noncomputable def Yv(sp:Sp)(g:List V)(E:XK)(t:TA):TE:=λd H Q=>t d H λb a=>sp (b++g) a Q E
noncomputable def Binds(K:eO)(z:mX)(t:List Str)(g:List hA):Prop:=
 ∀(s:hL) (a:List hA),K.In s.heap->(a++g).length=t.length->pC s z ⟨a,[]⟩ (t.zip<|a++g)
theorem Binds.all{K:eO}{z:mX}{t:List Str}(h : ∀g:List hA,g.length=t.length->bindArgs z ⟨g,[]⟩=pure (t.zip g)):Binds K z t []:=λs g _ d=>by rw[iP]at d ⊢;exact .of_eq<|h g d
noncomputable def QB(CX:nu)(X:Cx)(E:XK):Prop:=∀(a:GW) (d:St) (H:Hp) (s:hL) (e:hA) (b:hL),Inv X a d H s->CX X.stack H s E e b->X.xe e b
section
variable{X:Cx}{CX:nu}{k:Nat}{f C:g6}{fd:mX}{ps:List Str}{sp:Sp}{oP:List V}{ds:List hA}{E:XK}{x m:Str}{p pos apos:i7}{e o:hH}{es:List hH}{ta:TE}{t:TA}
theorem YD(F:nf X.prog X.w X.K X.mg X.base CX k f fd ps sp)(B:mJ k X.A)(J:Binds X.K fd ps ds)(g:i0 oP ds)(M:QB CX X E)
 (I:Inv X pins σ H s) (r:i0 vs us) (h:sp (vs++oP) H Q E):wpAny (hO X.prog X.w) X.A (call (.ref f) us) (EP X pins σ Q) X.xe s:=by
 have z:i0 (vs++oP) (us++ds):=r.append g;have O:(us++ds).length=ps.length:=by rw[<- z.length];exact F.len _ _ _ _ h
 refine wpAny_call<|lT (F.run X.A X.stack s H ⟨us,[]⟩ (us++ds) (vs++oP) Q E B I.sQ (J s us I.me O) z h) λr a d=>?_;cases r with
 | error e=>exact M pins σ H s e a I d
 | ok R=>
  cases R with
  | ret u=>exact I.after d
  | next=>exact gP d
  | brk=>exact gP d
  | cont=>exact gP d
theorem JE(F:nf X.prog X.w X.K X.mg X.base CX k f fd ps sp)(z:mJ k X.A)(B:Gl X x)(L:X.mg x=dV (.ref f))(J:gZ X.K (.ref f)=e6)(M:Binds X.K fd ps ds)(G:i0 oP ds)(O:QB CX X E)
 (g:PA X (e::es) t) (R:(x==("__debug__" : Str))=f9:=by decide) (U:i6 (e::es) X.env=(f9,hI e X.env)::i6 es X.env:=by rfl) (Y:(mT pos (i6 es X.env)).any (·.1)=f9:=by rfl) :
 PE X (.Call (.Name x p) (e::es) [] pos) (Yv sp oP E t):=by
 intro a s b H Q I h;refine hX<|JS I B L ?_ R;refine PySem.W.callWith_K (h₀:=X.base) I.ok.mod.rr J (hR (g pos a s b H _ I h) λl j ⟨m,i,d,r,q⟩=>⟨d.me,?_⟩) U Y;exact YD F z M G O d r q
end
structure o5(N P:List Str)(sc:i8):Prop where
 kind:sc.kind = .function
 co:sc.isCoroutine=f9
 gen:sc.isGenerator=f9
 nd:N.Nodup
 pre:N.take P.length=P
 par : ∀x∈P,sc.names.lookup x=dV .local\/sc.names.lookup x=dV .cell
 s8 : ∀y∈sc.names,y.2 ≠ .free
theorem vG{kindOf:Str->Option ny}{x:Str} : ∀{d:List (Str×hA)} {m:GZ},(∀v,(x,v)∉d)->oA kindOf d m x=m x
 | [],_,_=>rfl
 | (n,v)::r,m,h=>by
  unfold oA;rw[vG λw a=>h w (ft _ a)];split
  ·have:x≠n:=by rintro rfl;exact h v fw
   simp[this]
  ·rfl
theorem vI{kindOf:Str->Option ny}{x:Str} : ∀{d:List (Str×hA)} {m:GZ},(∀v,(x,v)∉d)->oz kindOf d m x=m x
 | [],_,_=>rfl
 | (n,v)::r,m,h=>by
  unfold oz;rw[vI λw a=>h w (ft _ a)];split
  ·rfl
  ·have:x≠n:=by rintro rfl;exact h v fw
   simp[this]
theorem vH{kindOf:Str->Option ny}{x:Str}{v:hA} : ∀{P:List Str} {g:List hA} {i:Nat} {m:GZ},P.Nodup->P[i]? = dV x->g[i]? = dV v->kindOf x=dV .local->
 oA kindOf (P.zip g) m x=dV v
 | [],_,_,_,_,h,_,_=>by simp at h
 | _::_,[],_,_,_,_,h,_=>by simp at h
 | p::P,w::g,0,m,nd,h1,h2,hk=>by simp at h1 h2;subst h1;subst h2;show oA kindOf ((p,w)::P.zip g) m p=_;unfold oA;rw[vG λv d=>(gG.mp nd).1 (List.of_mem_zip d).1,GJ hk];simp
 | p::P,w::g,i+1,m,nd,h1,h2,hk=>by show oA kindOf ((p,w)::P.zip g) m x=_;unfold oA;exact vH (i:=i) (gG.mp nd).2 (by simpa using h1) (by simpa using h2) hk
theorem vJ{kindOf:Str->Option ny}{x:Str}{v:hA} : ∀{P:List Str} {g:List hA} {i:Nat} {m:GZ},P.Nodup->P[i]? = dV x->g[i]? = dV v->kindOf x≠dV .local->
 oz kindOf (P.zip g) m x=dV v
 | [],_,_,_,_,h,_,_=>by simp at h
 | _::_,[],_,_,_,_,h,_=>by simp at h
 | p::P,w::g,0,m,nd,h1,h2,hk=>by simp at h1 h2;subst h1;subst h2;show oz kindOf ((p,w)::P.zip g) m p=_;unfold oz;rw[vI λv d=>(gG.mp nd).1 (List.of_mem_zip d).1,GY hk];simp
 | p::P,w::g,i+1,m,nd,h1,h2,hk=>by show oz kindOf ((p,w)::P.zip g) m x=_;unfold oz;exact vJ (i:=i) (gG.mp nd).2 (by simpa using h1) (by simpa using h2) hk
noncomputable def yp(N:List Str)(g:List V):St:=g.map dV++eS (N.length - g.length) f6
noncomputable def K9(CX:nu)(P:ma)(w:j1)(K:eO)(mg:GZ)(base:h9)(N:List Str)(qual:Str)(scope:i8)(f:g6)(d:hA)(A:mS)(outer:List mD)(s:hL)(H:Hp)(E:XK):Cx where
 prog:=P
 w:=w
 K:=K
 mg:=mg
 base:=base
 A:=A.deeper<|envOfC qual scope s.heap.objs.size f d
 N:=N
 mx:=s
 o6:=H
 env:=pJ qual scope s.heap.objs.size f d
 outer:=outer
 stack:=pJ qual scope s.heap.objs.size f d::outer
 ex:=[]
 calm:=e6
 fn:=λ_=>e6
 pn:=[]
 xe:=λe s'=>wpAny (hO P w) (A.deeper<|envOfC qual scope s.heap.objs.size f d) (leaving (pJ qual scope s.heap.objs.size f d) e) (λ_ z=>CX outer H s E e z) (λB z=>CX outer H s E B z) s'
theorem Zi{g:i8}{n:Nat}{x:Str}(h:g.names.lookup x=dV .cell) : ∃c,(mZ n g.names []).lookup x=dV c:=by have q:=gU g.names n [] (.inl h);exact iD.mp q
theorem JU{CX:nu}{P:ma}{w:j1}{K:eO}{G:GZ}{base:h9}{N t:List Str}{qual:Str}{scope:i8}{f:g6}{J:hA}{A:mS}{outer:List mD}{s Z:hL}{H:Hp}{E:XK}{L:List hA}{C:List V}
 (S:o5 N t scope) (hd:A.handled=f6) (d:pD P w K G base A outer s H) (Y:C.length=t.length) (r:i0 C L)
 (x:InCallC s s.heap.objs.size (oA (pJ qual scope s.heap.objs.size f J).kindOf (t.zip L) λ_=>f6) (mZ (s.heap.objs.size+1) scope.names []) (oz (pJ qual scope s.heap.objs.size f J).kindOf (t.zip L) λ_=>f6) Z) :
 Inv (K9 CX P w K G base N qual scope f J A outer s H E) [] (yp N C) H Z:=by
 have o:t.length<=N.length:=by have:=congrArg List.length S.pre;rw[ic]at this;omega
 obtain⟨j,Q,rfl,O⟩:=x.done;have M : ∀b:g6,b∉(K9 CX P w K G base N qual scope f J A outer s H E).ex:=λb z=>absurd (show b∈([]:List g6)from z) ⋯;refine⟨⟨d.mod,S.kind,rfl,rfl,eW _,λy z c j g=>?_,λy B=>?_,λy c _ h=>?_,λ_=>hd,Around.frames_deeper d.frames,.inr ⟨rfl,rfl⟩,λb z=>absurd z<|M b,d.bs,d.og,λb _ _=>M b,λb z=>absurd z<|M b,d.nB,d.oS⟩,
  rfl,d.bare,Un.kept O,⟨_,x.toInCall.ns,λi y v j g F=>?_⟩,λy c h=>⟨_,x.cell y c h⟩,d.i5.fresh<|eW _,λy c h=>?_,λp I=>absurd (show p∈([]:GW)from I) ⋯,d.i5.kept O,?_⟩
 ·exact name_of_addr x.apart (gL j)<|gL g
 ·have B:scope.names.lookup y=dV .cell\/scope.names.lookup y=dV .free:=B
  rcases B with B | B
  ·exact Zi B
  ·exact absurd rfl<|S.s8 _<|gL B
 ·exact lL<|x.above y c<|gL h
 ·have l:i<C.length:=by
   unfold yp at g;by_cases l:i<C.length
   ·exact l
   ·rw[fC (by simpa using l)]at g
    rw[gV]at g;split at g<;>cases g
  have m:C[i]? = dV v:=by
   unfold yp at g;rw[fG (by simpa using l),fP]at g;cases e:C[i]? with
   | none=>rw[e]at g;cases g
   | some a=>rw[e]at g;cases g;rfl
  obtain⟨u,R,W⟩:=r.get m;have I:t[i]? = dV y:=by rw[<- S.pre,List.getElem?_take_of_lt ⋯];exact j
  have U:t.Nodup:=by rw[<- S.pre];exact S.nd.sublist<|List.take_sublist _ _
  refine⟨u,W,?_⟩;rcases S.par y (gJ I)with k | k
  ·exact .inl ⟨k,vH U I R k⟩
  ·obtain⟨c,e⟩:=Zi (n:=s.heap.objs.size+1) k
   refine .inr ⟨.inl k,c,e,?_⟩;have q:=x.cell y c e;rw[vJ U I R (by show scope.names.lookup y≠_;rw[k];decide)]at q;exact q
 ·exact d.i5.fresh<|lL<|x.above y c<|gL h
 ·unfold yp
  show _=N.length;rw[gp,gy,List.length_replicate];omega
theorem ay{CX:nu}{P:ma}{w:j1}{K:eO}{mg:GZ}{base:h9}{k:Nat}{f:g6}{name qual:Str}{O:Arguments}{C:List jz}{scope:i8}{R kV Z pm g ct oc:hA}{an od:Option g6}
 {rG:Array (Option hA)} {N ps:List Str} {sp:Sp} (lk:K.lookup f=dV ⟨oc,od,.func<|hG name qual O C scope R kV Z pm an g ct,rG⟩) (a2:iO K g qual=e6) (S:o5 N ps scope)
 (len : ∀G H Q E,sp G H Q E->G.length=ps.length)
 (a3 : ∀(A:mS) (outer:List mD) (s:hL) (H:Hp) (G:List V) (Q:VK) (E:XK),mJ k (A.deeper<|envOfC qual scope s.heap.objs.size f g)->sp G H Q E->
   ∃t,mN (K9 CX P w K mg base N qual scope f g A outer s H E) C t/\t {nx:=λ_ L=>Q .i4 L,rt:=Q} (yp N G) H) :
 nf P w K mg base CX (k+1) f (hG name qual O C scope R kV Z pm an g ct) ps sp:=by
 refine⟨len,λA outer s H j us G Q E B z hb r U=>?_⟩;have X:=len _ _ _ _ U;have Y:K.In s.heap:=z.mod.rr.keeps λb o e=>(z.bs b o e).1;have lim:s.heap.NoLimit:=z.mod.nolimit.keeps λb o e=>(z.bs b o e).1;have m : ∀y∈ps.zip us,scope.names.lookup y.1=dV .local\/(scope.names.lookup y.1=dV .cell/\((mZ (s.heap.objs.size+1) scope.names []).lookup y.1).isSome=e6):=λ⟨n,v⟩ hy=>by
  rcases S.par n (List.of_mem_zip hy).1 with q | q
  ·exact .inl q
  ·exact .inr ⟨q,gU _ _ _<|.inl q⟩
 refine codeAny_call_function B.depth (Y _ _ lk) rfl S.co S.gen rfl (PySem.W.codeRec_of Y a2)<|hb _ _ _ _ ?_;refine wpAny_newFunctionEnv_cells S.kind m λp T l x=>?_;subst T;refine⟨lim.keeps x.toInCall.keep,codeAny_func ?_⟩;obtain⟨t,ht,hq⟩:=a3 A outer s H G Q E (B.deeper _) U;have I:Inv (K9 CX P w K mg base N qual scope f g A outer s H E) [] (yp N G) H l:=JU S B.hd z X r x;refine gY (ht [] l (yp N G) H _ I hq) (λF h d=>?_) λe h d=>d;have i : ∀{a:St} {L:Hp} {v:V} {u:hA},Inv (K9 CX P w K mg base N qual scope f g A outer s H E) [] a L h->RelV v u->Q v L->CE outer P w H s Q u h:=
  λ{a L v u} J M q=>⟨v,L,J.os,J.bare,J.base,J.i5,M,q⟩
 cases F with
 | ret u=>
  obtain⟨v,a,L,J,M,q⟩:=d;exact i J M q
 | next=>
  obtain⟨a,L,J,q⟩:=d;exact i (v:=V.i4) (u:=gO) J rfl q
 | brk=>
  obtain⟨_,_,_,q⟩:=d;exact gP q
 | cont=>
  obtain⟨_,_,_,q⟩:=d;exact gP q
section
variable{X:Cx}{x:Str}{p pos:i7}{e:hH}{es:List hH}{t:TA}{id T:String}{r:List V->Hp->VK->Prop}
noncomputable def sx(r:List V->Hp->VK->Prop)(t:TA):TE:=λd H Q=>t d H λb a=>r b a Q
theorem x9(d:yT X (.builtin id) r)(z:Gl X x)(C:X.mg x=f6)(B:oB x=dV (.builtin id))(g:PA X (e::es) t)(G:x ≠ "__name__":=by decide)(J:(x==("__debug__" : Str))=f9:=by decide)
 (M:i6 (e::es) X.env=(f9,hI e X.env)::i6 es X.env:=by rfl) (O:(mT pos<|starEach es X.env).any (·.1)=f9:=by rfl):PE X (.Call (.Name x p) (e::es) [] pos) (sx r t):=by
 intro a s b H Q I h;refine hX<|qV I z C B ?_ G J;exact gR (hR (g pos a s b H _ I h) λj i ⟨k,f,R,U,W⟩=>d a i b f k j Q R U W) M O
theorem ky(d:yT X (.type T) r)(z:Gl X x)(C:X.mg x=f6)(B:oB x=dV (.type T))(g:PA X (e::es) t)(G:x ≠ "__name__":=by decide)(J:(x==("__debug__" : Str))=f9:=by decide)
 (M:i6 (e::es) X.env=(f9,hI e X.env)::i6 es X.env:=by rfl) (O:(mT pos<|starEach es X.env).any (·.1)=f9:=by rfl):PE X (.Call (.Name x p) (e::es) [] pos) (sx r t):=by
 intro a s b H Q I h;refine hX<|qV I z C B ?_ G J;exact gz (hR (g pos a s b H _ I h) λj i ⟨k,f,R,U,W⟩=>d a i b f k j Q R U W) M O
end
end L2
namespace HT
open PySem PyProof.Rows
section
variable{prog:ma}{w:j1}{A:mS}{E:GQ}{s:hL}
theorem aL(P:o7 s.heap t vs.toArray)(L:o7 s.heap b d.toArray)(I:vs ≠ [])
 (G:d=[]->Q (.ref t) s) (H:d ≠ []->Q (.ref s.heap.objs.size) {s with heap:=s.heap.push {cls:= .type "tuple",data:= .seq (vs++d).toArray}})
 (C:vs.length+d.length<=lV):wpAny (hO prog w) A (nN .Add (.ref t)<|.ref b) Q E s:=by
 obtain⟨⟨cls,J,data,g⟩,z,M,n,f⟩:=id P;obtain⟨⟨h,O,data2,R⟩,B,U,W,Y⟩:=id L;simp only at M f U Y;subst M f U Y;have e:vs.toArray++d.toArray=(vs++d).toArray:=by simp
 by_cases a:d=[]
 ·exact concat_meets ⟨_,z,rfl⟩ ⟨_,B,rfl⟩ lU sk iL iI (iA _ _)
   (tuple_addW1 t b vs.toArray d.toArray n W J O g R (by simpa using I)<|by simp[a]) ⟨z,B,G a⟩
 ·refine concat_meets ⟨_,z,rfl⟩ ⟨_,B,rfl⟩ lU sk iL iI (iA _ _)
   (tuple_addW2 t b vs.toArray d.toArray n W J O g R (by simpa using I) (by simpa using a)<|by rw[fi,fi];exact C) ⟨z,B,?_⟩
  rw[e];exact H a
noncomputable def hF(n d:Nat):Option Int->Nat
 | none=>d
 | some v=>if v<0 then (v+(n:Int)).toNat else min v.toNat n
theorem YB(n d:Nat)(g:d<=n)(o:Option Int):hF n d o<=n:=by
 cases o with
 | none=>exact g
 | some v=>
  show(if v<0 then (v+(n:Int)).toNat else min v.toNat n)<=n;by_cases z:v<0
  ·rw[GJ z];omega
  ·rw[GY z];exact Nat.min_le_right _ _
theorem Qr(v:Int)(n d:Nat):(if v<0 then max (v+(n:Int)) 0 else min v (n:Int))=((hF n d (dV v):Nat):Int):=by
 show(if v<0 then max (v+(n:Int)) 0 else min v (n:Int))=(((if v<0 then (v+(n:Int)).toNat else min v.toNat n):Nat):Int);by_cases z:v<0
 ·simp only[GJ z];omega
 ·simp only[GY z];omega
theorem ZM(lo g:Option Int)(n:Nat):ib lo g 1 (n:Int)=(((hF n 0 lo:Nat):Int),((hF n n g:Nat):Int)):=by
 have a : ¬((1:Int)<0):=by omega
 unfold ib;simp only[a,if_false];refine Prod.ext ?_ ?_
 ·cases lo with
  | none=>rfl
  | some v=>exact Qr v n 0
 ·cases g with
  | none=>rfl
  | some v=>exact Qr v n n
theorem ZD(i j:Nat):gC (i:Int) (j:Int) 1=j - i:=by
 unfold gC;have a:(1:Int)>0:=by omega
 simp only[a,if_true,Int.ediv_one];split<;>omega
theorem yc(p:nS v o)(h:Q o s):wpAny (hO prog w) A (Builtin.Slice.slicePartIndex v) Q E s:=by
 cases p with
 | none=>exact slicePart_none h
 | int i t=>exact slicePart_int h
theorem xV{t:g6}{d z:hA}{lo g:Option Int}{n:Nat}{Q:Int×Int×Nat->hL->Prop}(J:s.heap.IsSliceOf t d z .none)(pl:nS d lo)(M:nS z g)
 (h:Q (((hF n 0 lo:Nat):Int),1,hF n n g - hF n 0 lo) s):wpAny (hO prog w) A (Builtin.Slice.sliceApplied (.ref t)<|pure (n:Int)) Q E s:=by
 obtain⟨os,B,O,I⟩:=id J;unfold Builtin.Slice.sliceApplied Builtin.Slice.sliceFields;refine eP<|eP<|fZ B I (x:=d) rfl<|eP<|fZ B I (x:=z) rfl<|eP<|fZ B I (x:= .none) rfl<|eX ?_;refine eP<|slicePart_none ?_;show wpAny _ _ (if ((1:Int)==0)=e6 then _ else _) _ _ s;rw[GY ⋯];refine eP<|yc pl<|eP<|yc M<|eP<|eX ?_;show wpAny _ _ (match ib lo g 1 (n:Int)with | (lo,g)=>pure (lo,(1:Int),gC lo g 1)) _ _ s;rw[ZM lo g n];show wpAny _ _ (pure (((hF n 0 lo:Nat):Int),(1:Int),gC ((hF n 0 lo:Nat):Int) ((hF n n g:Nat):Int) 1)) _ _ s;rw[ZD];exact eX h
theorem Xe(xs:Array hA)(i k:Nat):((eZ k).filterMap λ(m:Nat)=>xs[((i:Int)+(m:Int)*1).toNat]?).toArray=((xs.toList.drop i).take k).toArray:=by
 have e:(λ(m:Nat)=>xs[((i:Int)+(m:Int)*1).toNat]?)=λm=>xs[i+m]? :=by
  funext m;have:((i:Int)+(m:Int)*1).toNat=i+m:=by omega
  rw[this]
 rw[e];have:=pick_run xs i k;rw[List.filterMap_map]at this;have a:((λx=>xs[x]?)∘λx=>i+x)=λm=>xs[i+m]? :=rfl;rw[a]at this;rw[this]
theorem ZK{t C:g6}{d:Array hA}{I J:hA}{lo g:Option Int}{Q:GQ}(z:o7 s.heap t d)(M:s.heap.IsSliceOf C I J .none)(pl:nS I lo)(O:nS J g)
 (G : ¬(hF d.size 0 lo=0/\hF d.size d.size g=d.size))
 (h:Q (.ref s.heap.objs.size) {s with heap:=s.heap.push {cls:= .type "tuple",data:= .seq ((d.toList.drop (hF d.size 0 lo)).take (hF d.size d.size g - hF d.size 0 lo)).toArray}})
 (a0:d.size<=lV):wpAny (hO prog w) A (oT (.ref t)<|.ref C) Q E s:=by
 have B:sizeOk (.seq ((d.toList.drop<|hF d.size 0 lo).take (hF d.size d.size g - hF d.size 0 lo)).toArray):=by show((d.toList.drop<|hF d.size 0 lo).take (hF d.size d.size g - hF d.size 0 lo)).toArray.size<=lV;rw[fi,ic,List.length_drop,il];omega
 have b:hF d.size d.size g<=d.size:=YB _ _ (eW _) g;obtain⟨os,R,U,a⟩:=id M;have W:s.TypeIs (.ref C) "slice":=⟨os,R,U⟩;unfold oT
 try with_reducible refine wpAny_holding ?_
 first | refine eP (eX ?_) | skip
 refine eP (tG z.typeIs ⋯ ?_);refine eP (gi (name:=gg "__getitem__") z.typeIs fM
  (gE fM z.typeIs entry_tuple_getitem ?_ (sL _ _)))
 show wpAny _ _ (Builtin.Tuple.tupleItemsOf (.ref t) >>= _) _ _ s;refine eP<|iQ z ?_;refine eP<|lS W ?_;rw[GJ ⋯];refine eP<|xV M pl O ?_;have Y : ¬((((hF d.size 0 lo:Nat):Int)==0 && (1:Int)==1 && (hF d.size d.size g - hF d.size 0 lo)==d.size)=e6):=by intro q;rw[fe,fe]at q;have e:((hF d.size 0 lo:Nat):Int)=0:=eq_of_beq q.1.1;have f:hF d.size d.size g - hF d.size 0 lo=d.size:=eq_of_beq q.2;exact G ⟨by omega,by omega⟩
 show wpAny _ _ (if (((hF d.size 0 lo:Nat):Int)==0 && (1:Int)==1 && (hF d.size d.size g - hF d.size 0 lo)==d.size)=e6 then _ else _) _ _ s;rw[GY Y,Xe]
 first
  | exact eP (m:=fV _)<|fY (eX ⟨_,rfl,eX h⟩) B
  | exact eP (m:=fV _)<|fY (eP<|eX<|eX ⟨_,rfl,eX h⟩) B
  | exact eP<|eP (m:=fV _)<|fY (eX<|eX ⟨_,rfl,eX h⟩) B
  | exact eP<|eP (m:=fV _)<|fY (eX ⟨_,rfl,eX h⟩) B
end
end HT
namespace L2
open PySem PySem.Spec PyProof.Rows
abbrev TO:=St->Hp->(Option Int->Hp->Prop)->Prop
noncomputable def PO(X:Cx)(e:Option hH)(t:TO):Prop:=
 ∀(a:GW) (s:hL) (b:St) (H:Hp) (Q:Option Int->Hp->Prop),Inv X a b H s->t b H Q->
  wpAny (hO X.prog X.w) X.A (evalPart e X.env) (λu f=>∃o d,Inv X a b d f/\nS u o/\Q o d) X.xe s
def Kl:TO:=λ_ H Q=>Q f6 H
noncomputable def WJ(t:TE):TO:=λb H Q=>t b H λx a=>∃i,x = .int i/\Q (dV i) a
section
variable{X:Cx}{e:hH}{te:TE}{lo hi:Option hH}{tl th:TO}{pos p2:i7}
theorem KJ:PO X f6 Kl:=by intro a s b H Q I h;rw[evalPart_none];exact eX ⟨f6,H,I,.none,h⟩
theorem KI(h:PE X e te):PO X (dV e) (WJ te):=by intro a s g H Q I f;rw[evalPart_some];refine hR (h a s g H _ I f) λu j d=>?_;obtain⟨x,b,z,B,J⟩:=d;obtain⟨i,rfl,q⟩:=J;obtain⟨t,rfl⟩:=B;exact⟨dV i,b,z,.int i t,q⟩
noncomputable def q7(X:Cx)(r:V->Option Int->Option Int->Hp->VK->Prop):Prop:=
 ∀(a:GW) (s:hL) (e:St) (H:Hp) (x:V) (v d z:hA) (lo hi:Option Int) (b:g6) (Q:VK),Inv X a e H s->RelV x v->s.heap.IsSliceOf b d z .none->nS d lo->nS z hi->r x lo hi H Q->
  ∃T id,typeLookup (.type T) "__getitem__" = pure (dV (.builtin id))/\s.TypeIs v T/\wpAny (hO X.prog X.w) X.A (oT v (.ref b)) (EP X a e Q) X.xe s
noncomputable def tE(r:V->Option Int->Option Int->Hp->VK->Prop)(te:TE)(tl th:TO):TE:=λa H Q=>te a H λx b=>tl a b λl e=>th a e λu d=>r x l u d Q
theorem Xg(M:q7 X r)(O:PE X e te)(R:PO X lo tl)(U:PO X hi th):PE X (.Subscript e (.Slice lo hi f6 p2) pos) (tE r te tl th):=by intro a s f H Q I h;refine Subscript_ (hR (O a s f H _ I h) λv G W=>?_);obtain⟨x,g,Y,F,y⟩:=W;refine wpAny_Slice (hR (R a G f g _ Y y) λz K ⟨l,i,j,pl,C⟩=>hR (U a K f i _ j C) λB d ⟨u,J,k,t,E⟩=>?_);rw[evalPart_none];refine eX ?_;have m:Inv X a f J {d with heap:=d.heap.push {cls:= .type "slice",data:= .fields #[z,B,.none]}}:=k.kept (t':=d.toks) λb L q=>eQ _ q;obtain⟨T,id,n,p,o⟩:=M a {d with heap:=d.heap.push {cls:= .type "slice",data:= .fields #[z,B,.none]}} f J x v z B l u d.heap.objs.size Q m F (Heap.IsSliceOf.new ..) pl t E;show wpAny (hO X.prog X.w) X.A (tv e (.Slice lo hi f6 p2) v (.ref d.heap.objs.size)) (EP X a f Q) X.xe {d with heap:=d.heap.push {cls:= .type "slice",data:= .fields #[z,B,.none]}};exact tail_any (ops:=[.ref d.heap.objs.size,v]) p n o (by with_unfolding_all rfl)
noncomputable def Ya(xs:List V)(lo hi:Option Int):List V:=(xs.drop<|HT.hF xs.length 0 lo).take (HT.hF xs.length xs.length hi - HT.hF xs.length 0 lo)
theorem wx(xs:List V)(lo hi:Option Int):(Ya xs lo hi).length<=xs.length:=by unfold Ya;rw[ic,List.length_drop];omega
noncomputable def dD(K:eO):V->Option Int->Option Int->Hp->VK->Prop:=λx lo hi H Q=>∃a b,x = .ref a/\i3 K H a b/\
 ¬(HT.hF b.length 0 lo=0/\HT.hF b.length b.length hi=b.length)/\∀p,H p=f6->Q (.ref p) (upd H p<|.tup<|Ya b lo hi)
theorem Yy:q7 X (dD X.K):=by
 intro f s k H x v W Y lo hi j Q I J M pl O h;obtain⟨a,e,rfl,R,g,q⟩:=h;cases J;obtain⟨U,r,z,B⟩:=I.tuple R;have d:U.toArray.size=e.length:=by rw[fi];exact r.length.symm
 refine⟨"tuple",_,fM.lookup,z.typeIs,?_⟩;refine HT.ZK z M pl O (by rw[d];exact g) ?_ (by rw[d];exact B);rw[d];refine⟨.ref s.heap.objs.size,_,I.laid (t':=s.toks) (o:= .tup (Ya e lo hi)) (λb i q=>eQ _ q) (eW _) ?_,rfl,q _ (I.i5.fresh (eW _))⟩;exact⟨fU (wx e lo hi) B,_,(r.drop (HT.hF e.length 0 lo)).take (HT.hF e.length e.length hi - HT.hF e.length 0 lo),nL.new _ _⟩
theorem i0.pO(r:i0 xs us):us=[]↔xs=[]:=by
 cases r with
 | nil=>simp
 | cons _ _=>simp
end
noncomputable def oV(n:Nat)(i:Int):Option Nat:=if 0<=i then (if i<n then dV i.toNat else f6)else if -(n:Int)<=i then dV (i+n).toNat else f6
noncomputable def oe{g:Type}(xs:List g)(i:Int):Option g:=(oV xs.length i).bind λj=>xs[j]?
theorem K2(h:oV n i=dV j):seqIndex? i n=dV j/\j<n/\ -(n:Int)<=i/\i<n:=by
 unfold oV at h;by_cases d:0<=i
 ·rw[GJ d]at h
  by_cases a:i<n
  ·rw[GJ a]at h
   have e:i.toNat=j:=fK h;exact⟨by rw[seqIndex_of d a,e],by omega,by omega,a⟩
  ·rw[GY a]at h;cases h
 ·rw[GY d]at h
  by_cases a : -(n:Int)<=i
  ·rw[GJ a]at h
   have e:(i+n).toNat=j:=fK h;exact⟨by rw[tm ⋯ a,e],by omega,a,by omega⟩
  ·rw[GY a]at h;cases h
theorem wD(h:oe xs i=dV v) : ∃j,seqIndex? i xs.length=dV j/\xs[j]? = dV v/\j<xs.length/\ -(xs.length:Int)<=i/\i<xs.length:=by
 unfold oe at h;cases e:oV xs.length i with
 | none=>rw[e]at h;cases h
 | some j=>
  rw[e]at h;obtain⟨a,b,d,z⟩:=K2 e;exact⟨j,a,h,b,d,z⟩
noncomputable def wH(b:hH):Prop:=∀o i,subscripted b f9 o i=operate [o,i] (oT o i)
noncomputable def n9(X:Cx)(r:R2):Prop:=
 ∀(z d:hH) (a:GW) (s:hL) (b:St) (H:Hp) (x y:V) (v u:hA) (Q:VK),Inv X a b H s->RelV x v->RelV y u->r x y H Q->
  subscripted d f9 v u=operate [v,u] (oT v u)->wpAny (hO X.prog X.w) X.A (tv z d v u) (EP X a b Q) X.xe s
noncomputable def p9(X:Cx)(id:String)(r:V->List V->Hp->VK->Prop):Prop:=
 ∀(a:GW) (s:hL) (e:St) (H:Hp) (x:V) (d:List V) (v:hA) (b:List hA) (Q:VK),Inv X a e H s->RelV x v->i0 d b->r x d H Q->
  wpAny (hO X.prog X.w) X.A (call (.builtin id) (v::b)) (EP X a e Q) X.xe s
section
variable{X:Cx}{a b:hH}{ta tb:TE}{pos:i7}
theorem n9.or(h:n9 X r)(h':n9 X r'):n9 X (λx y H Q=>r x y H Q\/r' x y H Q):=by
 intro d z a s b H x y v u Q I B J q M;rcases q with q | q
 ·exact h d z a s b H x y v u Q I B J q M
 ·exact h' d z a s b H x y v u Q I B J q M
theorem Y4(d:n9 X r)(g:PE X a ta)(z:PE X b tb)(B:wH b):PE X (.Subscript a b pos) (pA r ta tb):=by intro e s j H Q I h;exact Subscript_<|aM g z I h λv u i x y f J M O q=>d a b e i j f x y v u Q J M O q<|B _ _
noncomputable def dG(K:eO):R2:=λx y H Q=>∃p a i v,x = .ref p/\y = .int i/\i2 K H p a/\oe a i=dV v/\Q v H
noncomputable def dE(K:eO):R2:=λx y H Q=>∃p a i v,x = .ref p/\y = .int i/\i3 K H p a/\oe a i=dV v/\Q v H
noncomputable def dF:R2:=λx y H Q=>∃z i c,x = .str z/\y = .int i/\z.length<=lV/\oe z.cps.toList i=dV c/\Q (.str ⟨#[c]⟩) H
theorem sY:n9 X (dG X.K):=by
 intro A C a s e H x y v u Q I R U h B;obtain⟨p,L,i,z,rfl,rfl,W,Y,q⟩:=h;cases R;obtain⟨t,rfl⟩:=U;obtain⟨f,r,pl,G⟩:=I.list W;obtain⟨j,b,k,E,l,m⟩:=wD Y;obtain⟨w,J,g⟩:=r.get k;have n:=r.length;have F:=vp;have M:EP X a e Q w s:=⟨z,H,I,g,q⟩;by_cases O:0<=i
 ·have d:i.toNat=j:=by
   rw[seqIndex_of O m]at b;exact fK b
  exact item_listR pl.isList O ⋯ (by rw[d];simpa using J) M B
 ·have d:(i+(f.toArray.size:Int)).toNat=j:=by
   rw[tm ⋯ l]at b;rw[fi,<- n];exact fK b
  exact tw (x:=w) pl.isList.typeIs slot_list_getitem.lookup
   (wpAny_getItem_list_neg (Q:=λr o=>r=w/\EP X a e Q r o) pl.isList ⋯ (by rw[fi]<;>omega) ⋯ (by rw[d];simpa using J) ⟨rfl,M⟩) B
theorem Vt:n9 X (dE X.K):=by
 intro k l a s b H x y v u Q I d B h J;obtain⟨p,F,i,z,rfl,rfl,M,O,q⟩:=h;cases d;obtain⟨t,rfl⟩:=B;obtain⟨m,r,pl,E⟩:=I.tuple M;obtain⟨j,e,f,n,o,A⟩:=wD O;obtain⟨w,R,U⟩:=r.get f;have W:=r.length;have C:=vp;have Y:EP X a b Q w s:=⟨z,H,I,U,q⟩;exact tw (x:=w) pl.typeIs slot_tuple_getitem.lookup
  (getItem_tuple (j:=j) (Q:=λr g=>r=w/\EP X a b Q r g) pl ⋯ ⋯ (by rw[fi,<- W];exact e) (by simpa using R) ⟨rfl,Y⟩) J
theorem Vu:n9 X dF:=by
 intro W Y b s o H x y v u Q I d B h J;obtain⟨z,i,c,rfl,rfl,m,M,q⟩:=h;obtain⟨t,rfl⟩:=d;obtain⟨n,rfl⟩:=B;obtain⟨j,a,g,k,O,R⟩:=wD M;have U:z.cps.toList.length=z.length:=by simp[Str.length]
 rw[U]at a O R;have l:=vp;exact tail_any (sH s z t) slot_str_getitem.lookup (getItem_str (c:=c) (by
  have e:decide (i < -(2 ^ 63:Int))=f9:=decide_eq_false ⋯;have f:decide (i>=2 ^ 63)=f9:=decide_eq_false ⋯;rw[e,f,Bool.or_false]) (by rw[a];simpa using g) ⟨.str ⟨#[c]⟩,H,I.tok _,⟨_,rfl⟩,q⟩) J
noncomputable def k9:V->Bool
 | .i4=>e6
 | .bl _=>e6
 | .int _=>e6
 | .str _=>e6
 | _=>f9
noncomputable def nU:V->V->Bool
 | .i4,.i4=>e6
 | .bl a,.bl b=>a==b
 | .bl a,.int b=>(if a then 1 else 0)==b
 | .int a,.bl b=>a==(if b then 1 else 0)
 | .int a,.int b=>a==b
 | .str a,.str b=>a==b
 | _,_=>f9
theorem VB(z:RelV y u)(d:RelV x v)(I:k9 y=e6)(B:k9 x=e6):fQ A s u v (nU y x):=by
 cases y with
 | i4=>
  cases z;cases x with
  | i4=>cases d;exact fQ.same _
  | bl b=>cases d;exact fQ.none_bool b
  | int b=>obtain⟨t,rfl⟩:=d;exact fQ.none_int b t
  | str b=>obtain⟨t,rfl⟩:=d;exact fQ.none_str b t
  | _=>exact absurd (show f9=e6 from B) fm
 | bl a=>
  cases z;cases x with
  | i4=>cases d;exact fQ.bool_none a
  | bl b=>cases d;exact fQ.bool_bool a b
  | int b=>obtain⟨t,rfl⟩:=d;exact fQ.bool_int a b t
  | str b=>obtain⟨t,rfl⟩:=d;exact fQ.bool_str a b t
  | _=>exact absurd (show f9=e6 from B) fm
 | int a=>
  obtain⟨e,rfl⟩:=z;cases x with
  | i4=>cases d;exact fQ.int_none a e
  | bl b=>cases d;exact fQ.int_bool a e b
  | int b=>obtain⟨t,rfl⟩:=d;exact fQ.int_int a e b t
  | str b=>obtain⟨t,rfl⟩:=d;exact fQ.int_str a e b t
  | _=>exact absurd (show f9=e6 from B) fm
 | str a=>
  obtain⟨e,rfl⟩:=z;cases x with
  | i4=>cases d;exact fQ.str_none a e
  | bl b=>cases d;exact fQ.str_bool a e b
  | int b=>obtain⟨t,rfl⟩:=d;exact fQ.str_int a e b t
  | str b=>obtain⟨t,rfl⟩:=d;exact fQ.str_str a e b t
  | _=>exact absurd (show f9=e6 from B) fm
 | _=>exact absurd (show f9=e6 from I) fm
noncomputable def mV(x:V)(u:hA):Bool:=match u with
 | .none=>nU .i4 x
 | .bool b=>nU (.bl b) x
 | .int i _=>nU (.int i) x
 | .str z _=>nU (.str z) x
 | _=>f9
theorem X9(r:RelV y u)(f:k9 y=e6):mV x u=nU y x:=by
 cases y with
 | i4=>cases r;rfl
 | bl b=>cases r;rfl
 | int i=>obtain⟨t,rfl⟩:=r;rfl
 | str z=>obtain⟨t,rfl⟩:=r;rfl
 | _=>exact absurd (show f9=e6 from f) fm
theorem kS : ∀{xs:List V} {g:List hA},i0 xs g->xs.all k9=e6->g.any (mV x)=xs.any λy=>nU y x
 | _,_,.nil,_=>rfl
 | y::xs,u::g,.cons r t,f=>by rw[lx,fe]at f;rw[List.any_cons,List.any_cons,X9 r f.1,kS t f.2]
theorem xo(z:RelV x v)(B:k9 x=e6) : ∀{xs:List V} {g:List hA},i0 xs g->xs.all k9=e6->∀u∈g,fQ A s u v (mV x u)
 | _,_,.nil,_=>λu d=>by cases d
 | y::xs,u::g,.cons r t,f=>λI d=>by
  rw[lx,fe]at f;rcases eY.mp d with rfl | d
  ·rw[X9 r f.1];exact VB r z f.1 B
  ·exact xo z B t f.2 I d
def oU(x:V)(xs:List V):Bool:=xs.any λy=>nU y x
noncomputable def sh(K:eO)(d:Bool):R2:=λx y H Q=>∃p a,y = .ref p/\(i2 K H p a\/i3 K H p a)/\k9 x=e6/\a.all k9=e6/\Q (.bl<|if d then !oU x a else oU x a) H
theorem JJ:lY X (mL .In) (sh X.K f9):=by
 intro b s f H x y v u Q I B M h;obtain⟨p,e,rfl,d,J,fs,q⟩:=h;cases M;rcases d with d | d
 ·obtain⟨z,r,pl,O⟩:=I.list d
  refine SeqAt.in_listAt (mV x) pl.isList (λw a=>xo B J r fs w<|by simpa using a) ⟨.bl _,H,I,rfl,?_⟩;rw[show z.toArray.any (mV x)=z.any (mV x)by simp,kS r fs];exact q
 ·obtain⟨z,r,pl,O⟩:=I.tuple d
  refine SeqAt.in_tupleAt (mV x) pl (λw a=>xo B J r fs w<|by simpa using a) ⟨.bl _,H,I,rfl,?_⟩;rw[show z.toArray.any (mV x)=z.any (mV x)by simp,kS r fs];exact q
theorem vk:lY X (mL .NotIn) (sh X.K e6):=by
 intro b s f H x y v u Q I B M h;obtain⟨p,e,rfl,d,J,fs,q⟩:=h;cases M;rcases d with d | d
 ·obtain⟨z,r,pl,O⟩:=I.list d
  refine SeqAt.notIn_listAt (mV x) pl.isList (λw a=>xo B J r fs w<|by simpa using a) ⟨.bl _,H,I,rfl,?_⟩;rw[show z.toArray.any (mV x)=z.any (mV x)by simp,kS r fs];exact q
 ·obtain⟨z,r,pl,O⟩:=I.tuple d
  refine SeqAt.notIn_tupleAt (mV x) pl (λw a=>xo B J r fs w<|by simpa using a) ⟨.bl _,H,I,rfl,?_⟩;rw[show z.toArray.any (mV x)=z.any (mV x)by simp,kS r fs];exact q
theorem vE:yT X (.builtin "len") (λxs H Q=>∃p ys,xs=[.ref p]/\(i2 X.K H p ys\/i3 X.K H p ys)/\Q (.int ys.length) H):=by
 intro a s f H xs e Q I r h;obtain⟨p,ys,rfl,d,q⟩:=h;obtain⟨u,rfl,J⟩:=kY r;cases J;have b:=vp;rcases d with d | d
 ·obtain⟨M,z,pl,O⟩:=I.list d
  have B:=z.length;exact Calls.call_len_list pl.isList (by simp only[fi]<;>omega) ⟨.int ys.length,H,I.tok _,⟨s.toks+1,by rw[fi,B]⟩,q⟩
 ·obtain⟨M,z,pl,O⟩:=I.tuple d
  have B:=z.length;exact len_tuple pl (by simp only[fi]<;>omega) ⟨.int ys.length,H,I.tok _,⟨s.toks+1,by rw[fi,B]⟩,q⟩
theorem vD:yT X (.builtin "len") (λxs H Q=>∃z,xs=[.str z]/\z.length<=lV/\Q (.int z.length) H):=by intro a s f H xs e Q I r h;obtain⟨z,rfl,d,q⟩:=h;obtain⟨u,rfl,t,rfl⟩:=kY r;have b:=vp;exact len_str ⋯ ⟨.int z.length,H,I.tok _,⟨_,rfl⟩,q⟩
theorem vC:yT X (.type "list") (λxs H Q=>∃p ys,xs=[.ref p]/\(i2 X.K H p ys\/i3 X.K H p ys)/\∀l,H l=f6->Q (.ref l) (upd H l (.lst ys))):=by
 intro g s k H xs m Q I r h;obtain⟨p,ys,rfl,J,q⟩:=h;obtain⟨u,rfl,W⟩:=kY r;cases W;have U : ∀(d:List hA),i0 ys d->ys.length<=lV->∀(a:h9) (z:Nat),(∀b j,s.heap.get? b=dV j->a.get? b=dV j)->
  a.get? s.heap.objs.size=dV {cls:= .type "list",dict:=f6,data:= .seq d.toArray z,slots:=#[]}->EP X g k Q (.ref s.heap.objs.size) {s with heap:=a}:=λd B M a z f e=>
  ⟨.ref s.heap.objs.size,_,I.laid (t':=s.toks) f (eW _) (show mr X.prog X.w _ a _ (.lst ys)from⟨M,d,z,B,e⟩),rfl,q _<|I.i5.fresh<|eW _⟩
 rcases J with J | J
 ·obtain⟨d,B,pl,M⟩:=I.list J
  have Y:=B.length;obtain⟨o,O,R,n,i⟩:=pl.isList;exact call_list_seq p (.inl rfl) O R i (λa z f e=>U d B M a z f e) (by simp only[fi]<;>omega)
 ·obtain⟨d,B,pl,M⟩:=I.tuple J
  have Y:=B.length;obtain⟨o,O,R,n,i⟩:=pl;exact call_list_seq p (.inr rfl) O R i (λa z f e=>U d B M a z f e) (by simp only[fi]<;>omega)
theorem yL:yT X (.type "tuple") (λxs H Q=>∃p ys,xs=[.ref p]/\((i2 X.K H p ys/\∀l,H l=f6->Q (.ref l) (upd H l (.tup ys)))\/(i3 X.K H p ys/\Q (.ref p) H))):=by
 intro a s g H xs j Q I r h;obtain⟨p,ys,rfl,h⟩:=h;obtain⟨u,rfl,O⟩:=kY r;cases O;rcases h with⟨d,q⟩ | ⟨d,q⟩
 ·obtain⟨z,B,pl,J⟩:=I.list d
  have U:=B.length;refine call_tuple_list pl.isList (λf i=>?_) (by simp only[fi]<;>omega);have M:Inv X a g H {s with heap:=f}:=I.kept (t':=s.toks) i;have R:Inv X a g (upd H f.objs.size (.tup ys)) {s with heap:=f.push {cls:= .type "tuple",data:= .seq z.toArray}}:=
   M.laid (t':=s.toks) (λb o e=>eQ _ e) (eW _) (show mr X.prog X.w _ _ _ (.tup ys)from⟨J,z,B,nL.new _ _⟩)
  exact⟨.ref f.objs.size,_,R,rfl,q _<|M.i5.fresh<|eW _⟩
 ·obtain⟨z,B,pl,J⟩:=I.tuple d
  exact call_tuple_same pl ⟨.ref p,H,I,rfl,q⟩
noncomputable def rP(K:eO)(T:String)(x:V)(H:Hp):Prop:=match x with
 | .str _=>T = "str"
 | .int _=>T = "int"
 | .ref p=>(T = "list"/\∃b,i2 K H p b)\/(T = "tuple"/\∃o,K.lookup p=dV o/\o.cls = .type "tuple"/\o.dict=f6)\/
  (T = "dict"/\((∃a,H p=dV (.dK a))\/∃a,H p=dV (.dT a)))\/(T = "set"/\∃S n,H p=dV (.set S n))
 | _=>False
theorem XI(I:Inv X pins σ H s)(r:RelV x v)(ty:rP X.K T x H) :
 s.TypeIs v T/\∀a,v = .ref a->∃B,s.heap.get? a=dV B/\B.dict=f6:=by
 cases x with
 | str z=>
  obtain⟨t,rfl⟩:=r;cases (show T = "str" from ty);exact⟨sH s z t,λ_ e=>nomatch e⟩
 | int i=>
  obtain⟨t,rfl⟩:=r;cases (show T = "int" from ty);exact⟨typeIs_int s i t,λ_ e=>nomatch e⟩
 | ref p=>
  cases r;rcases ty with⟨rfl,j,J⟩ | ⟨rfl,o,d,M,g⟩ | ⟨rfl,d⟩ | ⟨rfl,S,n,d⟩
  ·obtain⟨O,_,pl,_⟩:=I.list J
   refine⟨pl.isList.typeIs,λa e=>?_⟩;cases e;obtain⟨o,n,e,c,g,_⟩:=pl;exact⟨o,e,g⟩
  ·refine⟨⟨o,I.me p o d,M⟩,λa e=>?_⟩
   cases e;exact⟨o,I.me _ o d,g⟩
  ·have z : ∃o,s.heap.get? p=dV o/\o.ExactDict:=by
    rcases d with⟨h,d⟩ | ⟨h,d⟩
    ·obtain⟨_,_,_,_,o,_,_,e,b,_⟩:=I.i5 p _ d
     exact⟨o,e,b⟩
    ·obtain⟨_,_,_,_,o,_,_,e,b,_⟩:=I.i5 p _ d
     exact⟨o,e,b⟩
   obtain⟨o,e,b⟩:=z;refine⟨⟨o,e,b.1⟩,λa f=>?_⟩;cases f;exact⟨o,e,b.2.1⟩
  ·obtain⟨o,_,_,_,e,b,_⟩:=I.i5 p _ d
   refine⟨⟨o,e,b.1⟩,λa f=>?_⟩;cases f;exact⟨o,e,b.2.1⟩
 | _=>exact gP ty
noncomputable def da(K:eO)(T:String)(r:V->List V->Hp->VK->Prop)(to:TE):TE:=λb H Q=>to b H λx a=>rP K T x a/\r x [] a Q
noncomputable def pX(K:eO)(T:String)(r:V->List V->Hp->VK->Prop)(to:TE)(t:TA):TE:=λb H Q=>to b H λx a=>rP K T x a/\t b a λe d=>r x e d Q
variable{o e:hH}{es:List hH}{to:TE}{t:TA}{name:Str}{apos cpos:i7}{T id:String}{r:V->List V->Hp->VK->Prop}
theorem XZ(B:PlainAttrs T)(g:Slot T name id)(J:typeOf (.builtin id)=pure (.type "method_descriptor"))(hm:p9 X id r)(M:PE X o to)
 (O:oO o name X.env (hI o X.env)=hI o X.env:=by rfl) (R:(apos.endLine==cpos.line)=e6:=by rfl):PE X (.Call (.Attribute o name apos) [] [] cpos) (da X.K T r to):=by
 intro a s b H Q I h;refine wpAny_Call_method0_late O R<|hR (M a s b H _ I h) λv j U=>?_;obtain⟨x,e,d,z,ty,W⟩:=U;obtain⟨f,i⟩:=XI d z ty;exact⟨T,id,B,g,J,f,i,Calls.callWith_builtin rfl<|PySem.evalArgs_none<|hm a j b e x [] v [] Q d z .nil W⟩
theorem KP(J:PlainAttrs T)(g:Slot T name id)(M:typeOf (.builtin id)=pure (.type "method_descriptor"))(G:p9 X id r)(O:PE X o to)(C:PA X (e::es) t)
 (R:oO o name X.env (hI o X.env)=hI o X.env:=by rfl)
 (U:((mT cpos<|starEach (e::es) X.env).all (λx=> !x.1) && (rh cpos<|keywordEach [] X.env).all (λx=>x.1.isSome)
   && decide ((e::es).length+([]:List oq).length+(if ([]:List oq).isEmpty then 0 else 1)<30))=e6:=by rfl)
 (W:(apos.endLine==cpos.line)=e6:=by rfl) (Y:i6 (e::es) X.env=(f9,hI e X.env)::i6 es X.env:=by rfl) (a0:(mT cpos<|starEach es X.env).any (·.1)=f9:=by rfl) :
 PE X (.Call (.Attribute o name apos) (e::es) [] cpos) (pX X.K T r to t):=by
 intro a s b H Q I h;refine wpAny_Call_method_late R U W rfl<|hR (O a s b H _ I h) λv w m=>?_;obtain⟨x,f,d,z,ty,n⟩:=m;obtain⟨k,l⟩:=XI d z ty;refine⟨T,id,J,g,M,k,l,?_⟩;have B:=C cpos a w b f _ d n;rw[Y]at B ⊢;refine Calls.callWith_builtin (by show(f9 || (mT cpos<|starEach es X.env).any (·.1))=f9;rw[a0]<;>rfl)<|Calls.evalArgs_plain ?_;exact hR B λA y ⟨E,i,j,u,p⟩=>G a y b i x E v A Q j z u p
end
noncomputable def rX(X:Cx)(id:String)(r:V->List V->Hp->VK->Prop):Prop:=
 ∀(a:GW) (s:hL) (e:St) (H:Hp) (x:V) (d:List V) (v:hA) (b:List hA) (Q:VK),Inv X a e H s->RelV x v->i0 d b->r x d H Q->
  wpAny (hO X.prog X.w) X.A (call (.builtin id) (v::b)) (EP X a e Q) X.xe s
theorem i0.one : ∀{x:V} {g:List hA},i0 [x] g->∃u,g=[u]/\RelV x u
 | _,_,.cons r .nil=>⟨_,rfl,r⟩
theorem i0.zero : ∀{g:List hA},i0 [] g->g=[]
 | _,.nil=>rfl
theorem i0.dropLast(h:i0 xs us):i0 xs.dropLast us.dropLast:=by
 induction h with
 | nil=>exact .nil
 | cons r t d=>
  cases t with
  | nil=>exact .nil
  | cons q a=>exact .cons r d
theorem i0.rep(h:i0 xs us) : ∀k:Nat,i0 (eS k xs).flatten (eS k us).flatten
 | 0=> .nil
 | k+1=>by rw[gh,gh,gI,gI];exact i0.append h<|i0.rep h k
theorem vx(d:List hA) : ∀(k:Nat) (acc:List hA),
 List.foldl (λg z=>g++z) acc.toArray (eS k d.toArray)=(acc++(eS k d).flatten).toArray
 | 0,acc=>by simp
 | k+1,acc=>by
  have e:acc.toArray++d.toArray=(acc++d).toArray:=by simp
  have a:(acc++d)++(eS k d).flatten=acc++(eS (k+1) d).flatten:=by rw[gh,gI,List.append_assoc]
  rw[<- a,<- vx d k (acc++d),<- e,gh,List.foldl_cons]
section
variable{X:Cx}{pins:GW}{σ:St}{H:Hp}{s:hL}{l b:g6}{xs ys zs:List V}
theorem Inv.rC{d its':List hA}{n:Nat}{f:Array hA->Array hA}{t':Nat}(I:Inv X pins σ H s)(z:H l=dV (.lst xs))
 (e:s.heap.get? l=dV {cls:= .type "list",data:= .seq d.toArray n}) (B:f d.toArray=its'.toArray) (J:i0 ys its') (M:ys.length<=lV) :
 Inv X pins σ (upd H l<|.lst ys) {s with heap:=s.heap.update l<|Obj.mapSeq f,toks:=t'}:=by
 have q:=PySem.IsL.update e f;rw[B]at q;refine I.write (x:=l) (e:=l) (by rw[z];exact trivial) (.inl rfl) (λU u O R=>(Heap.get?_update_other s.heap (Obj.mapSeq f)<|fH O).trans R) ⟨_,q⟩ ?_;exact⟨M,its',_,J,q⟩
theorem Inv.fresh(I:Inv X pins σ H s):H s.heap.objs.size=f6:=I.i5.fresh<|eW _
theorem Inv.rD(I:Inv X pins σ H s)(B:H l=dV (.lst xs)):xs.length<=lV/\∃(d:List hA) (n:Nat),i0 xs d/\xs.length=d.length/\s.heap.get? l=dV {cls:= .type "list",data:= .seq d.toArray n}:=by obtain⟨z,d,n,r,e⟩:=I.i5 l _ B;exact⟨z,d,n,r,r.length,e⟩
end
section
variable{X:Cx}
noncomputable def yu:V->List V->Hp->VK->Prop:=λx b H Q=>∃l a y,x = .ref l/\b=[y]/\H l=dV (.lst a)/\a.length<lV/\Q .i4 (upd H l<|.lst<|a++[y])
theorem vo:rX X "list.append" yu:=by intro a s i H x f v b Q I J M h;obtain⟨l,g,y,rfl,rfl,d,R,q⟩:=h;cases J;obtain⟨u,rfl,O⟩:=M.one;obtain⟨z,B,n,r,U,e⟩:=I.rD d;refine iC F.slot_list_append ⟨_,e,rfl⟩ F.entry_list_append (F.args_list_append_2 _ _) (PySem.list_append l B.toArray n u (by rw[fi];omega)) ⟨e,?_⟩;refine⟨.i4,_,I.rC (its':=B++[u]) d e ⋯ (r.append (.cons O .nil)) ?_,rfl,q⟩;rw[gp,ia];omega
noncomputable def YF:V->List V->Hp->VK->Prop:=λx a H Q=>∃l b,x = .ref l/\a=[]/\H l=dV (.lst b)/\Q .i4 (upd H l<|.lst [])
theorem w5:rX X "list.clear" YF:=by intro a s i H x f v b Q I B J h;obtain⟨l,g,rfl,rfl,d,q⟩:=h;cases B;have M:=J.zero;subst M;obtain⟨z,O,n,r,R,e⟩:=I.rD d;refine iC F.slot_list_clear ⟨_,e,rfl⟩ F.entry_list_clear (F.args_list_clear_1 _) (AutoSeq1.list_clear_list_0 l O.toArray n (by rw[fi];omega)) ⟨e,?_⟩;exact⟨.i4,_,I.rC (its':=[]) (ys:=[]) d e rfl .nil (gj _),rfl,q⟩
theorem JR(xs:List α)(k:Nat):(eS k xs).flatten.length=k*xs.length:=by
 induction k with
 | zero=>simp
 | succ k d=>rw[gh,gI,gp,d,Nat.succ_mul,Nat.add_comm]
end
end L2
namespace Att
open PySem PySem.W PySem.Calls PyProof.Rows
theorem kM : ∀(ns:List Int) (g:List hA),WellAll P h g (ns.map WData.int)->pE g ns:=by
 intro ns
 induction ns with
 | nil=>
  intro g w;rw[List.map_nil]at w;cases w;exact .nil
 | cons n ns d=>
  intro g w;rw[fO]at w;cases w with
  | cons a b=>
   cases a;exact .cons _ _<|d _ b
theorem Jb{l:OpenLaw}{n:Nat}(t:l.most=dV n){P:Params}{h:h9}{args:List WData}{I:List hA}
 (J:l.row.toRowW.claim.pre args=e6) (O:WellAll P h I args) :
 ∃a g ns,I=[fS a]/\args=[WData.list (ns.map WData.int)]/\h.get? a=dV {cls:= .type "list",data:= .seq g.toArray}/\pE g ns/\ns.length<=n:=by
 have R:WShape.hasAll [] args [.list .int]=e6:=(pre_splitW J).1;have M:l.pre.holds [] {args:=args}=e6:=(pre_splitW J).2;obtain⟨d,r,rfl,e,f⟩:=hasAllW_cons R;obtain rfl:=hasAllW_nil f;obtain⟨m,rfl,U⟩:=hasW_list e;obtain⟨ns,rfl⟩:=items_int U;have W:ns.length<=n:=by
  unfold OpenLaw.pre at M;have z:(WTm.not<|.lt (.lit<|.int (n:Int))<|.len<|.arg 0).holds [] {args:=[.list (ns.map .int)]}=e6:=by have z:=(holds_andW M).1;rw[t]at z;exact z
  have B:=condW_of z<|w_not<|w_lt w_lit<|w_len_list<|w_arg rfl;rw[gy]at B;refine Nat.le_of_not_lt λq=>?_;have Y:(n:Int)<((ns.length:Nat):Int):=by omega
  first
   | (rw[decide_eq_true Y]at B;exact absurd B ⋯)
   | (simp at B;omega)
 cases O with
 | cons j k=>
  cases k;cases j with
  | list i b=>exact⟨_,_,ns,rfl,rfl,i,kM ns _ b,W⟩
theorem Jw(l:OpenLaw)(args:List WData):l.row.toRowW.claim.post args (.bool e6) args=e6:=
 postW_of (r:=l.row.toRowW) (X:=(e6==e6))
  (show WShape.has [] (.bool e6) .bool=e6 by first | rfl | decide | simp[WShape.has,WShape.arms,WShape.armsAll])
  (show(WTm.eq .res<|.lit<|.bool e6).value [] {args:=args,res:=dV (.bool e6),after:=args}=dV (.bool<|true==e6)from w_eq_bool (w_res rfl) w_lit) rfl
theorem Yh{l:OpenLaw}{n:Nat}{q:ma}{I:List Str}{J:(Str->Option hA)->h9->Prop}{M:j1->h9->Prop}{d:DefRec}
 (hn:l.most=dV n) (R:d.params.defaults=[])
 (call : ∀(w:j1) (mx z:hL) (H P:GZ) (C:g6) (o:mI) (Z B g:hA) (a:g6) (t:List hA) (ns:List Int),
   Ground q I [] J w mx H P z.heap->M w z.heap->
   z.heap.get? C=dV o->o.data = .func (docDef d.name d.params d.body d.scope Z B g)->z.heap.CodeRec B d.name->H d.name=dV (.ref C)->
   z.heap.get? a=dV {cls:= .type "list",data:= .seq t.toArray}->pE t ns->ns.length<=n->z.gens = #[]->
   codeAny (hO l.prog w) oC (.call (.ref C) ⟨[.ref a],[]⟩) (λr L=>r = .ok (.ret<|.bool e6)/\OldK z.heap L.heap/\L.os=z.os/\n7 L.gens) z) :
 WalkO q I J M l.row.toRowW d [] (λf t=>PySem.call f t):=by
 intro w mx z H P G Y C o Z B g U kV W y e O h A b K as i N Q j S;obtain rfl:U = .none:=Dflts.none O R;obtain rfl:kV = .none:=Dflts.noKw O;obtain⟨a,t,ns,rfl,rfl,k,m,p⟩:=Jb hn i j;refine enter_call<|lT (call w mx z H P C o Z B g a t ns G Y W (fd_plain y) e h k m p A) λr L F=>?_;obtain⟨rfl,s,u,x⟩:=F;exact⟨.inl ⟨.bool e6,.bool e6,[],rfl,λ_=>rfl,.bool e6,Jw l _,λ_=>⟨List.Pairwise.nil,λ_ E=>(nomatch E)⟩⟩,s,u,x⟩
end Att
namespace L2
open PySem PySem.Spec PyProof.Rows
theorem xf : ∀{g:List hA} {ns:List Int},pE g ns->i0 (ns.map V.int) g
 | _,_,.nil=> .nil
 | _,_,.cons n t h=> .cons ⟨t,rfl⟩ (xf h)
def WC(H:Hp):Prop:=∀b,H b=f6\/∃o a,H b=dV (.m7 o<|.lst a)
theorem Xp{P:ma}{w:j1}{K:eO}{C Z:GZ}{CX:nu}{k:Nat}{L a:g6}{fd:mX}{x:Str}{sp:Sp}{B:hL}{t:List hA}{ns:List Int}
 (U:K.In B.heap) (W:B.heap.Ns mQ C) (I:B.heap.Ns rZ Z) (a6 : ∀x:Str,x ≠ "__name__"->Z x=oB x) (a7:B.heap.NoLimit) (hg:B.gens = #[])
 (G:B.heap.get? a=dV {cls:= .type "list",data:= .seq t.toArray}) (hi:pE t ns) (Y:ns.length<=lV) (hr:mJ k oC)
 (F : ∀base:h9,K.In base->base.Ns mQ C->nf P w K C base CX k L fd [x] sp) (ac : ∀(s:hL) (u:hA),pC s fd ⟨[u],[]⟩ [(x,u)])
 (am : ∀H:Hp,WC H->i2 K H a (ns.map V.int)->sp [.ref a] H (λv _=>v = .bl e6) λ_ _ _=>False)
 (an : ∀H e g,CX [] H B (λ_ _ _=>False) e g->False) :
 codeAny (hO P w) oC (.call (.ref L) ⟨[.ref a],[]⟩) (λr g=>r = .ok (.ret<|.bool e6)/\OldK B.heap g.heap/\g.os=B.os/\n7 g.gens) B:=by
 have Q:=xf hi;have S:=hi.length;have l : ∀H:Hp,WC H->i2 K H a (ns.map V.int)->ml P w H B.heap->(∀b,H b≠f6->b=a)->(H a≠f6->K.lookup a=f6)->
  codeAny (hO P w) oC (.call (.ref L) ⟨[.ref a],[]⟩) (λr g=>r = .ok (.ret<|.bool e6)/\OldK B.heap g.heap/\g.os=B.os/\n7 g.gens) B:=by
  intro H N hS j E hK;have p : ∀{b:g6} {o:mI},B.heap.get? b=dV o->H b=f6->(Xu B.heap H).get? b=dV o:=λe n=>Xt e n;have ax : ∀{b:g6} {o:mI} {i:Array DictEntry} {J:Nat},B.heap.get? b=dV o->o.data = .dict i J->H b=f6:=λ{b o i J} e d=>by
   cases q:H b with
   | none=>rfl
   | some u=>
    have R:b=a:=E b (by rw[q];simp);subst R;rw[G]at e;cases e;have X:Data.seq t.toArray _=Data.dict i J:=d;cases X
  have O : ∀{b:g6} {m:GZ},B.heap.Ns b m->(Xu B.heap H).Ns b m:=λ{b m} ⟨o,i,J,e,d,r⟩=>⟨o,i,J,p e<|ax e d,d,r⟩;have y:K.In (Xu B.heap H):=λb o e=>p (U b o e) (by
   cases q:H b with
   | none=>rfl
   | some u=>
    have R:b=a:=E b (by rw[q];simp);subst R;rw[hK (by rw[q];simp)]at e;cases e)
  have hM:Mod K C (Xu B.heap H):=⟨y,O W,⟨Z,O I,a6⟩,let ⟨mc,h1,h2⟩:=a7;⟨mc,O h1,h2⟩⟩;have e0:pD P w K C (Xu B.heap H) oC [] B H:=⟨rfl,hM,λb o e=>KZ e,Nat.le_of_eq<|J0 _ _,trivial,λb I=>absurd (show b∈([]:List g6)from I) ⋯,j,.of_eq hg⟩;refine lT ((F _ y<|O W).run oC [] B H ⟨[.ref a],[]⟩ [.ref a] [.ref a] _ _ hr e0 (ac B<|.ref a) (.cons rfl .nil) (am H N hS)) λr g h=>?_;cases r with
  | error e=>exact(an H e g h).elim
  | ok fl=>
   cases fl with
   | next=>exact gP h
   | brk=>exact gP h
   | cont=>exact gP h
   | ret u=>
    obtain⟨v,H',os,f,un,T,r',q⟩:=h;have q':v = .bl e6:=q;subst q';obtain rfl:u=lC e6:=r';refine⟨rfl,OldK.of_keep λb o e=>?_,os,f⟩;cases q:H b with
    | none=>exact un.keep b o e q (by intro z;exact absurd (show b∈([]:List g6)from z) ⋯) ⋯
    | some u=>
     rcases N b with z | ⟨ob,xs,z⟩
     ·rw[q]at z;cases z
     ·have z2:=un.oF b ob _ z
      obtain⟨A,_⟩:=j b _ z;obtain⟨e2,_⟩:=T b _ z2;rw[e]at A;cases A;exact e2
 cases hk:K.lookup a with
 | some o=>
  have e:=U a o hk;rw[G]at e;cases e;refine l (λ_=>f6) (λ_=> .inl rfl) (.inr ⟨_,t.toArray,_,hk,rfl,rfl,rfl,by rw[fi,S];exact Y,by simpa using Q⟩) (λb u z=>by have M:(f6:Option HO)=dV u:=z;cases M) (λb z=>absurd rfl z) λz=>absurd rfl z
 | none=>
  refine l (λb=>if b=a then dV (.m7 {cls:= .type "list",data:= .seq t.toArray} (.lst (ns.map V.int)))else f6) (λb=>?_) (.inl (.inr ⟨{cls:= .type "list",data:= .seq t.toArray},GJ rfl⟩)) (λb u z=>?_) (λb z=>?_) λ_=>hk
  ·by_cases I:b=a
   ·exact .inr ⟨_,_,GJ I⟩
   ·exact .inl<|GY I
  ·by_cases I:b=a
   ·have M:=(GJ I).symm.trans z
    cases M;subst I;exact⟨G,by rw[gy];exact Y,t,_,Q,G⟩
   ·have M:=(GY I).symm.trans z
    cases M
  ·by_cases I:b=a
   ·exact I
   ·exact absurd (GY I) z
abbrev nh{K:eO}{h:h9}(_:K.In h):eO:=K
theorem Kd{l:PySem.W.OpenLaw}{n k:Nat}{q:ma}{J:List Str}{M:(Str->Option hA)->h9->Prop}{z:j1->h9->Prop}{d:DefRec}{K:Params->eO}{CX:j1->nu}{sp:j1->Sp}{x:Str}
 (hn:l.most=dV n) (O:n<=lV) (R:d.params.defaults=[]) (U:mJ k oC)
 (hY : ∀(w:j1) (h:h9),z w h->(K w.params).In h)
 (F : ∀(w:j1) (t:GZ) (C:g6) (h:h9),(K w.params).In h->h.Ns mQ t->t d.name=dV (.ref C)->
   ∃L:mX,(∀(s:hL) (u:hA),pC s L ⟨[u],[]⟩ [(x,u)])/\
    ∀base:h9,(K w.params).In base->base.Ns mQ t->nf l.prog w (K w.params) t base (CX w) k C L [x] (sp w))
 (a1 : ∀(w:j1) (H:Hp) (a:g6) (ns:List Int),ns.length<=n->WC H->i2 (K w.params) H a (ns.map V.int)->sp w [.ref a] H (λv _=>v = .bl e6) λ_ _ _=>False)
 (a2 : ∀(w:j1) (H:Hp) (s:hL) (e:hA) (P:hL),CX w [] H s (λ_ _ _=>False) e P->False) :
 PySem.W.WalkO q J M z l.row.toRowW d [] (λf Z=>PySem.call f Z):=by
 refine Att.Yh hn R λw j i t mb C o pm cd y a Z ns G Y ho hd X m p r B S=>?_;have I:=hY w _ Y;obtain⟨L,Q,A⟩:=F w t C _ I G.T.g m;exact Xp I G.T.g G.T.b G.T.builtins G.T.nolimit S p r (fU B O) U A Q (λH E N=>a1 w H a ns B E N) λH e P=>a2 w H i e P
theorem VW{l:PySem.W.OpenLaw}{n k:Nat}{q:ma}{B:List Str}{I:(Str->Option hA)->h9->Prop}{z:j1->h9->Prop}{d:DefRec}{K:Params->eO}{CX:nu}{sp:eO->Sp}{x:Str}
 (L:l.most=dV n) (J:n<=lV) (M:d.params.defaults=[]) (O:mJ k oC)
 (R : ∀(w:j1) (h:h9),z w h->(K w.params).In h)
 (F : ∀(w:j1) (g:GZ) (C:g6) (h:h9),(K w.params).In h->h.Ns mQ g->g d.name=dV (.ref C)->
   ∃G:mX,(∀(s:hL) (u:hA),pC s G ⟨[u],[]⟩ [(x,u)])/\
    ∀base:h9,(K w.params).In base->base.Ns mQ g->nf l.prog w (K w.params) g base CX k C G [x] (sp<|K w.params))
 (U : ∀(K:eO) (H:Hp) (a:g6) (ns:List Int),ns.length<=n->WC H->i2 K H a (ns.map V.int)->sp K [.ref a] H (λv _=>v = .bl e6) λ_ _ _=>False)
 (Y : ∀(H:Hp) (s:hL) (e:hA) (t:hL),CX [] H s (λ_ _ _=>False) e t->False) :
 PySem.W.WalkO q B I z l.row.toRowW d [] (λf P=>PySem.call f P):=
 Kd (K:=K) (CX:=λ_=>CX) (sp:=λw=>sp<|K w.params) L J M O R F (λw H a ns b i j=>U (K w.params) H a ns b i j) λ_ H s e t=>Y H s e t
noncomputable def kO(s:jz):Arguments:=match s with
 | .FunctionDef _ a _ _ _ _ _ _ _ _=>a
 | _=>{posonlyargs:=[],args:=[],vararg:=f6,kwonlyargs:=[],kw_defaults:=[],kwarg:=f6,defaults:=[]}
noncomputable def j8(s:jz):List jz:=match s with
 | .FunctionDef _ _ b _ _ _ _ _ _ _=>b
 | _=>[]
noncomputable def zE(s:jz):i8:=match s with
 | .FunctionDef _ _ _ _ _ _ a _ _ _=>a
 | _=>{kind:= .function,names:=[],isGenerator:=f9,isCoroutine:=f9}
abbrev nt:nu:=λ_ _ _ _ _ _=>False
abbrev E0:XK:=λ_ _ _=>False
theorem Y7:QB nt X E0:=λ_ _ _ _ _ _ _ h=>h.elim
structure om(K:eO)(x qual:Str)(st:jz)(f:g6)(fd:mX):Prop where
 ex : ∃(oc:hA) (od:Option g6) (kV doc pm:hA) (an:Option g6) (r0 ct:hA) (rG:Array (Option hA)),
  fd=hG x qual (kO st) (j8 st) (zE st) .none kV doc pm an r0 ct/\K.lookup f=dV ⟨oc,od,.func fd,rG⟩/\iO K r0 qual=e6
 kp:gZ K (.ref f)=e6
section
variable{P:ma}{w:j1}{K:eO}{mg:GZ}{base:h9}
theorem om.ok{x qual:Str}{st:jz}{f:g6}{L:mX}{N G:List Str}{k:Nat}{sp:Sp}(F:om K x qual st f L)(S:o5 N G (zE st))(len : ∀C H Q E,sp C H Q E->C.length=G.length)
 (d : ∀(g:hA) (A:mS) (outer:List mD) (s:hL) (H:Hp) (C:List V) (Q:VK) (E:XK),mJ k (A.deeper<|envOfC qual (zE st) s.heap.objs.size f g)->sp C H Q E->
   ∃t,mN (K9 nt P w K mg base N qual (zE st) f g A outer s H E).oW (j8 st) t/\t {nx:=λ_ M=>Q .i4 M,rt:=Q} (yp N C) H):nf P w K mg base nt (k+1) f L G sp:=by
 obtain⟨j,l,kV,a,m,e,g,i,b,rfl,z,B⟩:=F.ex;refine ay z B S len λA outer s H C Q E I J=>?_;obtain⟨t,h,q⟩:=d g A outer s H C Q E I J;exact⟨t,h.oW,q⟩
theorem Vy{x qual:Str}{st:jz}{f:g6}{H:hA}{I C:Option g6}{z:Array (Option hA)}{kV t G g ct:hA}(l:K.lookup f=dV ⟨H,I,.func<|hG x qual (kO st) (j8 st) (zE st) .none kV t G C g ct,z⟩)
 (c:iO K g qual=e6) (k:gZ K (.ref f)=e6):om K x qual st f (hG x qual (kO st) (j8 st) (zE st) .none kV t G C g ct):=⟨⟨H,I,kV,t,G,C,g,ct,z,rfl,l,c⟩,k⟩
end
def i1(H g:Hp):Prop:=∀b o,H b=dV o->g b=dV o
theorem i1.refl(H:Hp):i1 H H:=λ_ _ h=>h
theorem i1.trans(a:i1 H H1)(b:i1 H1 H2):i1 H H2:=λc o h=>b c o<|a c o h
theorem i1.free(e:i1 H H')(h:H' l=Option.none):H l=Option.none:=by
 cases q:H l with
 | none=>rfl
 | some o=>
  rw[e l o q]at h;cases h
theorem i1.seq{K:eO}{H g:Hp}{a:g6}{xs:List V}(e:i1 H g)(h:i2 K H a xs):i2 K g a xs:=by
 rcases h with(h | ⟨o,h⟩) | h
 ·exact .inl<|.inl<|e _ _ h
 ·exact .inl<|.inr ⟨o,e _ _ h⟩
 ·exact .inr h
noncomputable def yV(cells:List (Str×g6)):List (Str×ny)->List (Str×g6)->List (Str×g6)
 | [],acc=>acc
 | (n,k)::r,acc=>yV cells r<|if k==fu then (match cells.lookup n with | some c=>(n,c)::acc | none=>acc)else acc
theorem qF(f:Str×ny->List (Str×g6)->Sem (ForInStep<|List<|Str×g6))
 (z : ∀name kind B,f (name,kind) B=if kind==fu then (do let a <- cellOf env name;pure (.yield ((name,a)::B)))else pure (.yield B)) :
 ∀(names:List (Str×ny)) (acc:List (Str×g6)),(∀n,(n,fu)∈names->∃c,env.cells.lookup n=dV c)->
  forIn names acc f=(pure (yV env.cells names acc):Sem _)
 | [],acc,_=>by rw[List.forIn_nil];rfl
 | (n,k)::r,acc,h=>by
  rw[List.forIn_cons,z];have I : ∀n,(n,fu)∈r->∃c,env.cells.lookup n=dV c:=λm b=>h m<|ft _ b;unfold yV;by_cases d:(k==fu)=e6
  ·rw[GJ d,GJ d]
   have M:k=fu:=by simpa using d
   subst M;obtain⟨c,J⟩:=h n fw;have e:cellOf env n=pure c:=by unfold cellOf;rw[J]
   rw[e,J];exact qF f z r _ I
  ·rw[GY d,GY d]
   exact qF f z r acc I
theorem yJ(h : ∀n,(n,fu)∈scope.names->∃c,env.cells.lookup n=dV c) :
 closureFor scope env=pure (yV env.cells scope.names []):=by
 simp only[closureFor];rw[qF (env:=env) _ (λb a d=>by cases hk:a==fu<;>simp[hk]) scope.names [] h];rfl
theorem j5
 (d:Q {scope:=scope,locals:=s.heap.objs.size,globals:=globals,cells:=mZ (s.heap.objs.size+1) scope.names cl,qual:=qual,func:=f6,code:=env.code,frame:=env.frame,builtins:=env.builtins}
   {s with heap:=oj (s.heap.push {cls:= .type "dict",data:= .dict #[]}) scope.names}) :
 wpAny M A (sf scope globals cl [] qual f6 .none (dV env)) Q E s:=by
 simp only[sf,Option.isSome_some,if_true];refine eP (wpAny_alloc ?_);refine eP (wpAny_layCells _ (λb a cells=>by cases sV:a==gx<;>simp[sV]) _ _ _ _ ?_);rw[show({s with heap:=s.heap.push {cls:= .type "dict",data:= .dict #[]}}:hL).heap.objs.size=s.heap.objs.size+1 from fT ..];exact eP (eX (eX d))
theorem w6 : ∀{names:List (Str×ny)} {acc:List (Str×g6)},(n,c)∈yV cells names acc->(n,c)∈acc\/((n,fu)∈names/\cells.lookup n=dV c)
 | [],acc,h=> .inl h
 | (m,k)::r,acc,h=>by
  unfold yV at h;rcases w6 h with g | ⟨h1,h2⟩
  ·clear h
   by_cases d:(k==fu)=e6
   ·rw[GJ d]at g
    have z:k=fu:=by simpa using d
    subst z;cases e:cells.lookup m with
    | none=>rw[e]at g;exact .inl g
    | some B=>
     rw[e]at g;rcases eY.mp g with g | g
     ·cases g;exact .inr ⟨fw,e⟩
     ·exact .inl g
   ·rw[GY d]at g;exact .inl g
  ·exact .inr ⟨ft _ h1,h2⟩
theorem kL : ∀{names:List (Str×ny)} {acc:List (Str×g6)},((acc.lookup n).isSome=e6\/((n,fu)∈names/\(cells.lookup n).isSome=e6))->((yV cells names acc).lookup n).isSome=e6
 | [],acc,h=>by
  rcases h with h | ⟨h,_⟩
  ·exact h
  ·cases h
 | (m,k)::r,acc,h=>by
  unfold yV;apply kL;by_cases d:(k==fu)=e6
  ·rw[GJ d]
   have B:k=fu:=by simpa using d
   subst B;cases e:cells.lookup m with
   | none=>
    rcases h with h | ⟨h1,h2⟩
    ·exact .inl h
    ·rcases eY.mp h1 with h1 | h1
     ·cases h1;rw[e]at h2;cases h2
     ·exact .inr ⟨h1,h2⟩
   | some I=>
    dsimp only;by_cases z:n=m
    ·subst z;left;simp
    ·rcases h with h | ⟨h1,h2⟩
     ·left;rw[fI];split<;>simp_all
     ·rcases eY.mp h1 with h1 | h1
      ·cases h1;exact absurd rfl z
      ·exact .inr ⟨h1,h2⟩
  ·rw[GY d]
   rcases h with h | ⟨h1,h2⟩
   ·exact .inl h
   ·rcases eY.mp h1 with h1 | h1
    ·cases h1;exact absurd rfl d
    ·exact .inr ⟨h1,h2⟩
theorem jL : ∀{names:List (Str×ny)} {k:Nat} {acc:List (Str×g6)},(n,c)∈mZ k names acc->(n,c)∈acc\/(k<=c/\(n,gx)∈names)
 | [],_,_,h=> .inl h
 | (m,kd)::r,k,acc,h=>by
  unfold mZ at h;split at h
  ·rename_i d
   have z:kd=gx:=by simpa using d
   subst z;rcases jL h with h | ⟨h1,h2⟩
   ·rcases eY.mp h with h | h
    ·cases h;exact .inr ⟨eW _,fw⟩
    ·exact .inl h
   ·exact .inr ⟨by omega,ft _ h2⟩
  ·rcases jL h with h | ⟨h1,h2⟩
   ·exact .inl h
   ·exact .inr ⟨h1,ft _ h2⟩
theorem qi : ∀{names:List (Str×ny)} {k:Nat} {acc:List (Str×g6)},(∀p∈acc,∀q∈acc,p.2=q.2->p.1=q.1)->(∀p∈acc,p.2<k)->
 ∀p∈mZ k names acc,∀q∈mZ k names acc,p.2=q.2->p.1=q.1
 | [],_,_,h,_=>h
 | (m,kd)::r,k,acc,h,hl=>by
  unfold mZ;split
  ·refine qi (λp d q z e=>?_) (λp d=>?_)
   ·rcases eY.mp d with rfl | d<;>rcases eY.mp z with rfl | z
    ·rfl
    ·have B:k=q.2:=e
     exact absurd (B ▸ hl q z)<|gd _
    ·have B:p.2=k:=e
     exact absurd (B ▸ hl p d)<|gd _
    ·exact h p d q z e
   ·rcases eY.mp d with rfl | d
    ·exact ie _
    ·exact fW<|hl p d
  ·exact qi h hl
theorem kP : ∀{names:List (Str×ny)} {h:h9} {acc:List (Str×g6)} {n:Str} {c:g6},(n,c)∈mZ h.objs.size names acc->(n,c)∈acc\/(oj h names).IsCell c f6
 | [],_,_,_,_,hm=> .inl hm
 | (m,kd)::r,h,acc,n,c,hm=>by
  unfold mZ at hm;unfold oj;split at hm
  ·rename_i d
   rw[GJ d];have e:h.objs.size+1=(h.push {cls:= .type "cell",data:= .cell f6}).objs.size:=(fT ..).symm;rw[e]at hm;rcases kP hm with hm | hm
   ·rcases eY.mp hm with hm | hm
    ·cases hm
     have z:(h.push {cls:= .type "cell",data:= .cell f6}).IsCell h.objs.size f6:=⟨{cls:= .type "cell",data:= .cell f6},fv _ rfl,rfl⟩;exact .inr (z.keeps λb o q=>iH _ _ b o q)
    ·exact .inl hm
   ·exact .inr hm
  ·rename_i d
   rw[GY d];exact kP hm
theorem qN{t:Type}{l:List (Str×t)}(g:(l.map (·.1)).Nodup) : ∀{n:Str} {a:t},(n,a)∈l->l.lookup n=dV a:=by
 induction l with
 | nil=>intro n a h;cases h
 | cons p r d=>
  intro n a h;obtain⟨m,b⟩:=p;rw[fO,gG]at g;rw[fI];rcases eY.mp h with h | h
  ·cases h;simp
  ·have z:(n==m)=f9:=by
    have:n≠m:=λe=>g.1 (by rw[<- e];exact gH.mpr ⟨(n,a),h,rfl⟩);simpa using this
   rw[z];exact d g.2 h
theorem qU(scope:i8)(env:mD)(x:Str):(nF scope env).names.lookup x =
 (scope.names.lookup x).map λk=>if (k==fu && env.scope.kind == .function && env.kindOf x==dV .cell)then gx else k:=by
 unfold nF;dsimp only;generalize scope.names=l
 induction l with
 | nil=>rfl
 | cons p r z=>
  obtain⟨n,k⟩:=p;rw[fO];cases hx:x==n with
  | true=>
   have e:x=n:=by simpa using hx
   subst e;rw[fI,fI];dsimp only;by_cases d:(k==fu && env.scope.kind == .function && env.kindOf x==dV .cell)=e6
   ·rw[GJ d,beq_self_eq_true];dsimp only[lq];rw[GJ d]
   ·rw[GY d,beq_self_eq_true];dsimp only[lq];rw[GY d]
  | false=>
   have : ∀B,List.lookup x ((n,B)::(r.map λx=>match x with | (n,k)=>if (k==fu && env.scope.kind == .function && env.kindOf n==dV .cell)=e6 then (n,gx)else (n,k)))=List.lookup x (r.map λx=>match x with | (n,k)=>if (k==fu && env.scope.kind == .function && env.kindOf n==dV .cell)=e6 then (n,gx)else (n,k)):=λB=>by rw[fI,hx]
   rw[fI (k:=n),hx];dsimp only;split
   ·rw[this];exact z
   ·rw[this];exact z
noncomputable def xr(scope:i8)(env:mD)(L:g6):mD:=
 {scope:=nF scope env,locals:=L,globals:=env.globals,cells:=mZ (L+1) scope.names<|yV env.cells scope.names [],qual:=env.qual,func:=f6,code:=env.code,frame:=env.frame,builtins:=env.builtins}
noncomputable def zO(X:Cx)(scope:i8)(d:List Str)(fp:List g6)(g:hL)(t:Hp):Cx:=
 {X with N:=d,mx:=g,o6:=t,env:=xr scope X.env<|g.heap.objs.size+1,outer:=X.stack,stack:=X.stack,ex:=fp,fn:=λx=>scope.names.lookup x==dV .cell,pn:=[],xe:=λ_ _=>False}
structure nJ(X:Cx)(scope:i8)(fr:List (Str×Nat)):Prop where
 kind:scope.kind = .function
 nd:(scope.names.map (·.1)).Nodup
 free : ∀p∈scope.names,p.2=fu->X.env.kindOf p.1=dV .cell\/X.env.kindOf p.1=dV .free
 fr : ∀p∈fr,scope.names.lookup p.1=dV .free/\X.N[p.2]? = dV p.1
noncomputable def XU(own:List Str)(g:List (Str×Nat))(t:St):St:=own.map (λ_=>f6)++g.map λp=>(t[p.2]?).join
abbrev wm:mI:={cls:= .type "list",data:= .seq #[]}
abbrev Ka:mI:={cls:= .type "dict",data:= .dict #[]}
theorem Xs{X:Cx}{C:GW}{H:St}{G:Hp}{g:hL}{scope:i8}{own:List Str}{t:List (Str×Nat)}{fp:List g6}(I:Inv X C H G g)(ok:nJ X scope t)
 (W : ∀b∈fp,ZO X C G b) (Z : ∀b∈fp,∃o,g.heap.get? b=dV o) :
 Inv (zO X scope (own++t.map (·.1)) fp g G) [] (XU own t H) (upd G g.heap.objs.size<|.lst []) {g with heap:=oj ((g.heap.push wm).push Ka) scope.names}:=by
 have P:(g.heap.push wm).objs.size=g.heap.objs.size+1:=fT ..;have z2:((g.heap.push wm).push Ka).objs.size=g.heap.objs.size+2:=by rw[fT,P]
 have J : ∀n c,(n,c)∈yV X.env.cells scope.names []->(n,fu)∈scope.names/\X.env.cells.lookup n=dV c:=λn c h=>(w6 h).resolve_left ⋯;have a5 : ∀n c,X.env.cells.lookup n=dV c->c<g.heap.objs.size:=λn c h=>by obtain⟨v,q⟩:=I.cell n c h;exact q.lt
 have as : ∀p∈yV X.env.cells scope.names [],p.2<g.heap.objs.size+1+1:=λp B=>by exact fW<|fW<|a5 p.1 p.2 (J p.1 p.2 B).2
 have hC:(xr scope X.env<|g.heap.objs.size+1).cells=mZ (g.heap.objs.size+2) scope.names (yV X.env.cells scope.names []):=rfl;have a : ∀x c,(xr scope X.env<|g.heap.objs.size+1).cells.lookup x=dV c->((x,fu)∈scope.names/\X.env.cells.lookup x=dV c)\/(g.heap.objs.size+2<=c/\(x,gx)∈scope.names):=λx c h=>by
  rcases jL (mem_of_lookup h)with h | h
  ·exact .inl<|J x c h
  ·exact .inr h
 have A : ∀x,(x,fu)∈scope.names->∃c,X.env.cells.lookup x=dV c/\(xr scope X.env<|g.heap.objs.size+1).cells.lookup x=dV c:=λx O=>by
  obtain⟨c,M⟩:=I.ok.has x<|ok.free (x,.free) O rfl;have r:((yV X.env.cells scope.names []).lookup x).isSome=e6:=kL<|.inr ⟨O,by rw[M];rfl⟩;have j:=gU scope.names (g.heap.objs.size+2) (yV X.env.cells scope.names [])<|.inr r;obtain⟨L,E⟩:=iD.mp j;refine⟨c,M,?_⟩;rcases a x L E with⟨_,q⟩ | ⟨_,q⟩
  ·rw[M]at q;cases q;exact E
  ·exact absurd ((qN ok.nd q).symm.trans (qN ok.nd O)) ⋯
 have keep : ∀b o,g.heap.get? b=dV o->(oj ((g.heap.push wm).push Ka) scope.names).get? b=dV o:=λb o e=>
  iH _ _ b o (eQ _<|eQ _ e)
 have a9 : ∀b∈fp,b<g.heap.objs.size:=λb d=>by obtain⟨o,e⟩:=Z b d;exact ff e
 have fresh:G g.heap.objs.size=f6:=I.i5.fresh<|eW _;have F : ∀c,g.heap.objs.size<c->(upd G g.heap.objs.size<|.lst []) c=f6:=λc M=>by rw[zx (gS M)];exact I.i5.fresh<|lL M
 obtain⟨m0,Q⟩ : ∃m,(oj ((g.heap.push wm).push Ka) scope.names).Ns (g.heap.objs.size+1) m:=by have q:=(Heap.Ns.new (g.heap.push wm) (.type "dict")).keeps (λb o e=>iH scope.names _ b o e);rw[P]at q;exact⟨_,q⟩
 refine⟨⟨I.ok.mod,ok.kind,I.ok.glob,I.ok.blt,Nat.le_succ _,λx y c r j=>?_,λx O=>?_,λx c hf h=>?_,I.ok.hd,I.ok.frames,.inl rfl,λb d=>⟨?_,λx c h z=>?_⟩,λb o e=>I.bs b o e,?_,λb o e d=>?_,λb d hs=>?_,I.stack,I.sv⟩,
  rfl,I.bare,Un.laid keep (eW _) fresh,⟨m0,Q,λi x v N f e3=>?_⟩,λx c h=>?_,?_,λx c h=>?_,λp B=>?_,?_,?_⟩
 ·have q:=qi (names:=scope.names) (k:=g.heap.objs.size+2) (acc:=yV X.env.cells scope.names []) (λp B q hq e=>I.ok.inj p.1 q.1 p.2 (J _ _ B).2 (by rw[e];exact(J _ _ hq).2)) as
  exact q (x,c) (mem_of_lookup r) (y,c) (mem_of_lookup j) rfl
 ·have R:(nF scope X.env).names.lookup x=dV .cell\/(nF scope X.env).names.lookup x=dV .free:=O
  have:scope.names.lookup x=dV .cell\/scope.names.lookup x=dV .free:=by
   rw[qU]at R;cases e:scope.names.lookup x with
   | none=>rw[e]at R;simp at R
   | some k=>
    rw[e]at R;cases k<;>simp at R ⊢
  rcases this with h | h
  ·exact iD.mp<|gU scope.names _ _<|.inl h
  ·obtain⟨c,_,j⟩:=A x<|mem_of_lookup h;exact⟨c,j⟩
 ·have S:(scope.names.lookup x==dV .cell)=e6:=hf
  have T:scope.names.lookup x=dV .cell:=by simpa using S
  rcases a x c h with⟨q,_⟩ | ⟨q,_⟩
  ·exact absurd ((qN ok.nd q).symm.trans T) ⋯
  ·exact fU (gc _ 2) q
 ·exact fF<|fW<|a9 b d
 ·rcases a x c h with⟨_,q⟩ | ⟨q,_⟩
  ·exact(W b d).2.2.2.2.1 x c q z
  ·exact absurd (fg (a9 b d)<|fU (gc _ 2)<|z ▸ q)<|gd _
 ·exact fU I.ok.og I.sz
 ·rcases (W b d).2.2.2.1 with q | q
  ·exact I.ok.pq b o e q
  ·exact absurd (fg (ff e)<|fU I.ok.og q)<|gd _
 ·rcases eY.mp (I.rN b hs)with q | q
  ·exact(W b d).2.1 q
  ·exact(W b d).2.2.1 q
 ·have hi:i<(own++t.map (·.1)).length:=(eU.mp N).1
  by_cases l:i<own.length
  ·unfold XU at f
   rw[fG (by simpa using l)]at f;simp[fP,l]at f
  ·have hj : ∃p,t[i - own.length]? = dV p/\p.1=x/\(H[p.2]?).join=dV v:=by
    unfold XU at f;have U:(own++t.map (·.1))[i]? = dV x:=N;rw[fC ⋯,fP]at U;rw[fC (by simpa using l),fP,gy]at f;cases q:t[i - own.length]? with
    | none=>rw[q]at U;cases U
    | some p=>
     rw[q]at U f;exact⟨p,rfl,by simpa using U,by simpa using f⟩
   obtain⟨p,B,b7,Y⟩:=hj;obtain⟨g1,g2⟩:=ok.fr p<|gJ B;rw[b7]at g1 g2;have s:H[p.2]? = dV (dV v):=by
    cases q:H[p.2]? with
    | none=>rw[q]at Y;cases Y
    | some o=>rw[q]at Y;simpa using Y
   have K:=ok.free (x,.free) (mem_of_lookup g1) rfl;obtain⟨m,hn,hl⟩:=I.loc;obtain⟨u,ru,lk⟩:=hl p.2 x v g2 s (by rcases K with k | k;exact .inr<|.inl k;exact .inr<|.inr k);refine⟨u,ru,.inr ?_⟩;obtain⟨c,be,bg⟩:=A x<|mem_of_lookup g1;have bi:g.heap.IsCell c (dV u):=by
    rcases lk with⟨k,_⟩ | ⟨_,L,e,z⟩
    ·rcases K with k' | k'<;>rw[k]at k'<;>cases k'
    ·rw[be]at e;cases e;exact z
   refine⟨?_,c,bg,bi.keeps keep⟩;show(nF scope X.env).names.lookup x=dV .cell\/(nF scope X.env).names.lookup x=dV .free;rw[qU,g1];dsimp only[lq];split
   ·exact .inl rfl
   ·exact .inr rfl
 ·rcases jL (mem_of_lookup h)with q | q
  ·obtain⟨v,w⟩:=I.cell x c (J x c q).2
   exact⟨v,w.keeps keep⟩
  ·have q2:=mem_of_lookup h
   have q3:(x,c)∈mZ ((g.heap.push wm).push Ka).objs.size scope.names (yV X.env.cells scope.names []):=by rw[z2];exact q2
   rcases kP q3 with q4 | q4
   ·obtain⟨v,w⟩:=I.cell x c (J x c q4).2
    exact⟨v,w.keeps keep⟩
   ·exact⟨f6,q4⟩
 ·exact F _<|ie _
 ·rcases a x c h with⟨_,q⟩ | ⟨q,_⟩
  ·rw[zx (fF<|a5 x c q)];exact I.nO x c q
  ·exact F c<|fg (fW<|ie _) q
 ·exact absurd (show p∈([]:GW)from B) ⋯
 ·refine I.i5.laid keep (eW _) ⟨gj _,[],0,.nil,?_⟩
  exact iH _ _ _ _<|eQ _<|fv _ rfl
 ·show(XU own t H).length=(own++t.map (·.1)).length
  simp[XU]
theorem qR(I:Nat->hL->Prop)
 (W : ∀n s,I n s->wpAny (hO prog w) A (pR it) (λr d=>match r with
   | none=>R (.ok .next) d
   | some v=>wpAny (hO prog w) A (pN target it v) (λ_ d=>wpAny (hO prog w) A (oN target env v) (λ_ B=>
    wpAny (hO prog w) A (forIn ifs e6 λc r=>if r=e6 then do let ok <- ph c env (hI c env);pure (iM ok)else pure (iM r)) (λok z=>
     if ok=e6 then wpAny (hO prog w) A (hI elt env) (λx J=>
      wpAny (hO prog w) A (call (.builtin "list.append") [acc,x]) (λ_ M=>∃m,m<n/\I m M) (λ_ _=>False) J) (λ_ _=>False) z
     else ∃m,m<n/\I m z) (λ_ _=>False) B) (λ_ _=>False) d) (λ_ _=>False) d) (λ_ _=>False) s)
 (n:Nat) (h:I n s) :
 codeAny (hO prog w) A (.compLoop (.ListComp elt [⟨target,iter,ifs,0⟩] scope pos) 0 it acc env) R s:=by
 refine codeAny_loop rfl I (λn s Y=>?_) n h;show wpAny _ A ((compTurn (.ListComp elt [⟨target,iter,ifs,0⟩] scope pos) 0 it acc env).onRaise (λx=>do noteFrame x env;theTreesLotGoes x)) _ _ s;refine wpAny_noted ?_;rw[compTurn_list];refine eP<|wpAny_standAt<|eP<|gY (W n s Y) (λr d O=>?_) λ_ _ a=>a.elim;cases r with
 | none=>exact eX O
 | some v=>
  refine eP<|gY O (λ_ i g=>?_) λ_ _ a=>a.elim;refine eP<|gY g (λ_ B b=>eP<|gY b (λok z U=>?_) λ_ _ a=>a.elim) λ_ _ a=>a.elim;cases ok with
  | false=>exact eX ⟨rfl,U⟩
  | true=>
   exact eP<|eP<|gY U (λx J e=>eP<|gY e (λ_ M f=>eX<|eX ⟨rfl,f⟩) λ_ _ a=>a.elim) λ_ _ a=>a.elim
noncomputable def VU(X:Cx)(g:List hH)(t:TT):Prop:=
 ∀(a:GW) (s:hL) (b:St) (H:Hp) (Q:Bool->Hp->Prop),Inv X a b H s->t b H Q->
  wpAny (hO X.prog X.w) X.A (forIn g e6 λc r=>if r=e6 then do let ok <- ph c X.env (hI c X.env);pure (iM ok)else pure (iM r)) (TP X a b Q) X.xe s
def WL:TT:=λ_ H Q=>Q e6 H
theorem wX:VU X [] WL:=λ_ _ _ H _ I h=>wpAny_tests_nil ⟨H,I,h⟩
noncomputable def CW(J:It)(g:TG)(C:TT)(t:TE)(D:g6)(Q:VK)(W:Nat->Nat->List V->St->Hp->Prop):Prop:=
 ∀i m a h H,W i m a h H->H D=dV (.lst a)/\((J.stop i H/\Q (.ref D) H)\/(J.go i H/\a.length<lV/\∀x f,J.nR i H x f->g x h f λd j=>C d j λb z=>
  if b=e6 then t d z λv B=>B D=dV (.lst a)/\∃e,e<m/\W (i+1) e (a++[v]) d (upd B D<|.lst<|a++[v])else ∃e,e<m/\W (i+1) e a d z))
noncomputable def XF(X:Cx)(g:GW)(H:Hp)(L:g6):Prop:=
 H L=f6/\L≠X.env.locals/\X.mx.heap.objs.size<=L/\(∀x c,X.env.cells.lookup x=dV c->c≠L)/\∀p∈X.pn++g,p.1≠L
theorem XA
 (hc:X.calm=e6) (I:Inv X pins σ H2 s2) (ok:nJ X scope fr) (T:Turn X.prog X.w X.K tg J fp it tn) (st:tn 0 s2.heap) (O : ∀b∈fp,ZO X pins H2 b)
 (hg:PG (zO X scope (own++fr.map (·.1)) fp s2 H2) tg g) (ht:VU (zO X scope (own++fr.map (·.1)) fp s2 H2) ifs tt) (he:PE (zO X scope (own++fr.map (·.1)) fp s2 H2) elt te)
 (hW : ∀D,H2 D=f6->∃W:Nat->Nat->List V->St->Hp->Prop,(∃m,W 0 m [] (XU own fr σ) (upd H2 D<|.lst []))/\CW J g tt te D Q W) :
 wpAny (hO X.prog X.w) X.A (newList []) (λacc G=>wpAny (hO X.prog X.w) X.A (sf scope X.env.globals (yV X.env.cells scope.names []) [] X.env.qual f6 .none (dV X.env)) (λa7 H=>
  codeAny (hO X.prog X.w) X.A (.compStart (.ListComp elt [⟨tg,iter,ifs,0⟩] scope pos) 0 (.ref it) acc {a7 with scope:=nF scope X.env})
   (λr C=>(∃f,r = .ok f)/\∃D t,acc = .ref D/\Inv X pins σ t C/\Q (.ref D) t/\(∃m,C.heap.Ns a7.locals m)/\XF X pins t a7.locals) H) E G) E s2:=by
 have ax : ∀b∈fp,∃o,s2.heap.get? b=dV o:=λb B=>by obtain⟨o,e,_⟩:=T.obj 0 _ st b B;exact⟨o,e⟩
 have P:=Xs (own:=own) I ok O ax;obtain⟨W,⟨m0,w0⟩,cw⟩:=hW _ I.fresh;refine fY<|j5 ?_;have z1:(s2.heap.push wm).objs.size=s2.heap.objs.size+1:=fT ..;show codeAny _ _ (.compStart _ 0 (.ref it) (.ref s2.heap.objs.size) {scope:=nF scope X.env,locals:=(s2.heap.push wm).objs.size,globals:=X.env.globals,cells:=mZ ((s2.heap.push wm).objs.size+1) scope.names<|yV X.env.cells scope.names [],qual:=X.env.qual,func:=f6,code:=X.env.code,frame:=X.env.frame,builtins:=X.env.builtins})
  (λr C=>(∃f,r = .ok f)/\∃D t,fS s2.heap.objs.size = .ref D/\Inv X pins σ t C/\Q (.ref D) t/\(∃m,C.heap.Ns (s2.heap.push wm).objs.size m)/\XF X pins t (s2.heap.push wm).objs.size) {s2 with heap:=oj ((s2.heap.push wm).push Ka) scope.names}
 rw[z1];have b0:tn 0 (oj ((s2.heap.push wm).push Ka) scope.names):=T.keep 0 _ _ st λb _ o e=>iH _ _ b o<|eQ _<|eQ _ e;have c2 : ∀b∈fp,b<s2.heap.objs.size:=λb B=>by obtain⟨o,e⟩:=ax b B;exact ff e
 have a8 : ∀{t:Hp},(∀b∈fp,t b=f6)->∀b∈fp,ZO (zO X scope (own++fr.map (·.1)) fp s2 H2) [] t b:=λhn b B=>
  ⟨hn b B,(P.ok.pK b B).1,P.ok.pe b B,.inl B,(P.ok.pK b B).2,λp hp=>absurd (show p∈([]:GW)from hp) ⋯⟩
 have b1:codeAny (hO X.prog X.w) X.A (.compLoop (.ListComp elt [⟨tg,iter,ifs,0⟩] scope pos) 0 (.ref it) (.ref s2.heap.objs.size)<|xr scope X.env<|s2.heap.objs.size+1)
  (λr C=>(∃f,r = .ok f)/\∃D t,fS s2.heap.objs.size = .ref D/\Inv X pins σ t C/\Q (.ref D) t/\(∃m,C.heap.Ns (s2.heap.objs.size+1) m)/\XF X pins t (s2.heap.objs.size+1)) {s2 with heap:=oj ((s2.heap.push wm).push Ka) scope.names}:=by
  refine qR (λn C=>∃i l s t,Inv (zO X scope (own++fr.map (·.1)) fp s2 H2) [] s t C/\tn i C.heap/\(∀b∈fp,t b=f6)/\W i n l s t) ?_ m0
   ⟨0,[],_,_,P,b0,λb B=>by rw[zx (fF<|c2 b B)];exact(O b B).1,w0⟩
  rintro n s3 ⟨i,l,a,L,I3,j,b4,w3⟩;obtain⟨hD,c4⟩:=cw i n l a L w3;rcases c4 with⟨k,qn⟩ | ⟨go,hz,step⟩
  ·refine hR (T.done (zO X scope (own++fr.map (·.1)) fp s2 H2) rfl rfl rfl hc i [] s3 a L _ I3 (a8 b4) j k) λr s4 M=>?_
   obtain⟨hr,R⟩:=M;subst hr;refine⟨⟨_,rfl⟩,_,L,rfl,I.sN (ch:=fp) R.os R.base R.i5 R.bare<|λb B=>⟨(O b B).2.2.2.1,(O b B).2.1,(O b B).2.2.2.2.1,(O b B).2.2.2.2.2⟩,qn,?_,R.free,?_,?_,?_,?_⟩
   ·obtain⟨m,hn,_⟩:=R.loc
    exact⟨m,hn⟩
   ·exact gS<|fW I.lt
   ·exact Nat.le_succ_of_le I.sz
   ·intro x c e z
    obtain⟨v,q⟩:=I.cell x c e;exact absurd (fW q.lt) (by rw[z];exact gd _)
   ·intro p hp z
    exact absurd (fW<|ff (I.pin p hp).1) (by rw[z];exact gd _)
  ·refine hR (T.item (zO X scope (own++fr.map (·.1)) fp s2 H2) rfl rfl rfl hc i [] s3 a L _ I3 (a8 b4) j go) λr s4 M=>?_
   obtain⟨u,hr,h4⟩:=M;subst hr;refine hR h4 λ_ s5 M=>?_;obtain⟨x,H5,I5,r5,y5,am,cd⟩:=M;have ce:=I5.pinned (a8 cd)<|T.obj _ _ am;refine hR (hg _ s5 a H5 x u _ ce r5<|step x H5 y5) λ_ s6 M=>?_;obtain⟨h,H6,I6,q6⟩:=M;refine hR (ht _ s6 h H6 _ I6 q6) λb s7 M=>?_;obtain⟨H7,S,Z⟩:=M;have after : ∀{y:St} {N:Hp} {U:hL},Inv (zO X scope (own++fr.map (·.1)) fp s2 H2) ([]++vj fp s5.heap) y N U->tn (i+1) U.heap/\∀b∈fp,N b=f6:=λ{y N U} Y=>by refine⟨T.keep _ _ _ am λb B o e=>(Y.pin (b,o)<|fL _<|fL _<|qM B e).1,λb B=>?_⟩;obtain⟨o,e,d⟩:=T.obj _ _ am b B;exact(Y.pin (b,o)<|fL _<|fL _<|qM B e).2.1
   cases b with
   | false=>
    rw[GY fm]at Z ⊢;obtain⟨m',hm,w7⟩:=Z;exact⟨m',hm,i+1,l,h,H7,S.pB,(after S).1,(after S).2,w7⟩
   | true=>
    rw[GJ rfl]at Z ⊢;refine hR (he _ s7 h H7 _ S Z) λv8 U M=>?_;obtain⟨x8,N,Y,r8,b9,m',hm,w8⟩:=M;obtain⟨z8,bb,n8,rv,d3,e8⟩:=Y.rD b9;refine iC F.slot_list_append ⟨_,e8,rfl⟩ F.entry_list_append (F.args_list_append_2 _ _) (PySem.list_append _ bb.toArray n8 v8<|by rw[fi];omega) ⟨e8,?_⟩;have I9:=Y.rC (its':=bb++[v8]) (f:=(·.push v8)) (t':=U.toks) b9 e8 ⋯ (rv.append<|.cons r8 .nil) (by rw[gp,ia];omega);exact⟨m',hm,i+1,l++[x8],h,_,I9.pB,(after I9).1,(after I9).2,w8⟩
 exact codeAny_compStart_list b1<|T.self _ 0 _ _ _ b0 b1
noncomputable def QM(G:TI)(own:List Str)(t:List (Str×Nat))(g:TG)(C:TT)(z:TE):TE:=λb H Q=>G b H λJ a=>∀D,a D=f6->
 ∃W:Nat->Nat->List V->St->Hp->Prop,(∃m,W 0 m [] (XU own t b) (upd a D<|.lst []))/\CW J g C z D Q W
section
variable{X:Cx}{scope:i8}{own:List Str}{fr:List (Str×Nat)}{elt tg iter:hH}{ifs:List hH}{pos:i7}{wi:TI}{g:TG}{tt:TT}{te:TE}
theorem Zg
 (d:X.calm=e6) (ok:nJ X scope fr) (Z:PI X tg iter wi) (z : ∀fp C t,PG (zO X scope (own++fr.map (·.1)) fp C t) tg g)
 (B : ∀fp C t,VU (zO X scope (own++fr.map (·.1)) fp C t) ifs tt) (M : ∀fp C t,PE (zO X scope (own++fr.map (·.1)) fp C t) elt te)
 (I:Inv X pins σ H s) (h:QM wi own fr g tt te σ H Q)
 (O : ∀D G P L,Inv X pins σ G P->Q (.ref D) G->(∃m,P.heap.Ns L m)->XF X pins G L->
   compPost (hO X.prog X.w) X.A X.xe use R (.ref D) L (.ok .next) P)
 (U : ∀x,nq iter X.env x=pure x:=by intro _;rfl) :
 wpAny (hO X.prog X.w) X.A (comprehension (.ListComp elt [⟨tg,iter,ifs,0⟩] scope pos) scope X.env (firstIterPos [⟨tg,iter,ifs,0⟩] pos) (newList []) f9 (hI iter X.env) use) R X.xe s:=by
 refine wpAny_comprehension_free rfl U (yJ λn a=>I.ok.has n<|ok.free (n,.free) a rfl) ok.kind (λx W e=>by rw[<- e];exact qN ok.nd<|show(x.1,x.2)∈scope.names from W) ?_;refine hR (Z pins s σ H _ I h) λv s1 l=>hR l λam C o=>?_;obtain⟨it,fp,tn,J,t,e,Y,T,i,f2,K⟩:=o;subst e;refine hR (XA (own:=own) (Q:=Q) (E:=X.xe) d Y ok T i f2 (z fp C t) (B fp C t) (M fp C t) K) λacc s3 p=>hR p λj s4 u=>lT u λr P F=>?_;obtain⟨⟨f,N⟩,D,G,k,b,q,a,y⟩:=F;subst N;subst k;have S:=O D G P j.locals b q a y;cases use<;>exact S
theorem JC(d:X.calm=e6)(ok:nJ X scope fr)(G:PI X tg iter wi)(z : ∀fp C t,PG (zO X scope (own++fr.map (·.1)) fp C t) tg g)
 (B : ∀fp C t,VU (zO X scope (own++fr.map (·.1)) fp C t) ifs tt) (J : ∀fp C t,PE (zO X scope (own++fr.map (·.1)) fp C t) elt te)
 (M : ∀x,nq iter X.env x=pure x:=by intro _;rfl) :
 PE X (.ListComp elt [⟨tg,iter,ifs,0⟩] scope pos) (QM wi own fr g tt te):=by
 intro a s u H Q I h;rw[eval_ListComp];refine Zg (use:=f6) d ok G z B J I h (λD f l L O q k y=>?_) M;obtain⟨m,j⟩:=k;obtain⟨R,U,W,Y,p⟩:=y;refine⟨m,j,λr n=>⟨.ref D,f,O.turned (t':=l.toks) (it:=L) (λb o i e=>n.extBut b o i e) R U (.inr W) Y p,rfl,q⟩⟩
theorem ZA(z:X.N.Nodup)(B:X.N[i]? = dV y)(J:Loc X.env.scope y)(M:X.fn y=e6\/X.env.scope.names.lookup y=dV .local)
 (O:X.calm=e6) (ok:nJ X scope fr) (G:PI X tg iter wi) (U : ∀fp C t,PG (zO X scope (own++fr.map (·.1)) fp C t) tg g)
 (W : ∀fp C t,VU (zO X scope (own++fr.map (·.1)) fp C t) ifs tt) (Y : ∀fp C t,PE (zO X scope (own++fr.map (·.1)) fp C t) elt te)
 (P : ∀x,nq iter X.env x=pure x:=by intro _;rfl) :
 PS X (.Assign [.Name y py] (.ListComp elt [⟨tg,iter,ifs,0⟩] scope pos) spos) (y0 (QM wi own fr g tt te)<|qc i):=by
 have d : ∃b:Bool,nH (.ListComp elt [⟨tg,iter,ifs,0⟩] scope pos) (dV (.Name y py)) spos.line X.env=pure b:=⟨_,rfl⟩;obtain⟨b,d⟩:=d;cases b with
 | false=>
  have F:tx [.Name y py] (.ListComp elt [⟨tg,iter,ifs,0⟩] scope pos) spos.line X.env=nH (.ListComp elt [⟨tg,iter,ifs,0⟩] scope pos) (dV (.Name y py)) spos.line X.env:=rfl;exact XX (JC O ok G U W Y P) (JB z B J M) (by rw[F];exact d)
 | true=>
  intro f s σ H D I h;rw[exec_Assign_Name_used _ _ _ _ d];refine eP<|wpAny_standAt<|eP ?_;show wpAny _ X.A (do let _ <- comprehension (.ListComp elt [⟨tg,iter,ifs,0⟩] scope pos) scope X.env _ (newList []) f9 (hI iter X.env) (dV (oN (.Name y py) X.env))) _ _ s;refine eP<|hR (Zg (R:=λ_ j=>SP X f D .next j) (use:=dV (oN (.Name y py) X.env)) O ok G U W Y I h (λk H' j L n q S yg=>?_) P) λ_ j q=>eX<|eX q;obtain⟨Z,l,y3,y4,y5⟩:=yg;obtain⟨m,Q⟩:=S;show wpAny _ _ (oN (.Name y py) X.env<|.ref k) _ _ _;refine tF<|y9 n z B J (v:= .ref k) rfl (λp r u=>?_) M;obtain⟨a,T,K⟩:=u;have w:L≠a:=by
   rcases K with e | e
   ·rw[e];exact l
   ·exact fH<|y4 _ _ e
  refine⟨m,Q.sameBut T w,λh' E=>⟨_,_,r.turned (t':=p.toks) (it:=L) (λb o d e=>E.extBut b o d e) Z l (.inr y3) y4 y5,q⟩⟩
end
inductive Sk where
 | L | T
 deriving DecidableEq
end L2
namespace DL
open PySem L2
inductive D where
 | i4 | bl (b:Bool) | int (i:Int) | str (x:Str) | tup (xs:List D) | lst (xs:List D)
 | mn (ks vs:List D)
 | md (ks:List (List Int)) (vs:List D)
inductive Cell where
 | no | val (d:D) | own (ds:List D) | nest (rows:List (List D))
abbrev Ctx:=List Cell
abbrev CO (a : Type) := Ctx -> Option a
def lim:Nat:=2500
noncomputable def ju:D->Option (Sk×List D)
 | .tup a=>dV (.T,a)
 | .lst a=>dV (.L,a)
 | _=>f6
def zN(f:CO D)(γ:Ctx):Option (Sk×List D):=(f γ).bind ju
def vN(f:CO (List D))(γ:Ctx):Option D:=(f γ).map D.lst
noncomputable def jS(f:CO (List D))(γ:Ctx):Option (Sk×List D):=(f γ).map λa=>(Sk.L,a)
def Qs:Option Cell->Option D
 | some (.val d)=>dV d
 | _=>f6
noncomputable def xK:Option Cell->Option (Sk×List D)
 | some (.val d)=>ju d
 | some (.own ds)=>dV (.L,ds)
 | _=>f6
def zh(i:Nat)(γ:Ctx):Option D:=Qs γ[i]?
def zk(i:Nat)(γ:Ctx):Option (Sk×List D):=xK γ[i]?
noncomputable def zl(d:D):CO D:=λ_=>dV d
noncomputable def zo(F:D->D->Option D)(g t:CO D)(γ:Ctx):Option D:=(g γ).bind λx=>(t γ).bind λy=>F x y
def nM:D->Option Bool
 | .bl b=>dV b
 | _=>f6
def mF:D->Option Int
 | .int i=>dV i
 | _=>f6
def sB(f:CO D)(γ:Ctx):Option Bool:=(f γ).bind nM
noncomputable def YC(f g:CO Bool)(γ:Ctx):Option Bool:=(f γ).bind λb=>if b=e6 then g γ else dV f9
noncomputable def xc(f g:CO Bool)(γ:Ctx):Option Bool:=(f γ).bind λb=>if b=e6 then dV e6 else g γ
def zW(f:CO Bool)(γ:Ctx):Option Bool:=(f γ).map λb=> !b
noncomputable def vV(f g:CO D)(γ:Ctx):Option D:=((f γ).bind nM).bind λb=>if b=e6 then g γ else dV (.bl f9)
noncomputable def tj(f g:CO D)(γ:Ctx):Option D:=((f γ).bind nM).bind λb=>if b=e6 then dV (.bl e6)else g γ
noncomputable def VZ(f:CO D)(γ:Ctx):Option D:=((f γ).bind nM).map λb=> .bl (!b)
noncomputable def WW(c:CO Bool)(f g:CO D)(γ:Ctx):Option D:=(c γ).bind λb=>if b=e6 then f γ else g γ
def zF:CO (List D):=λ_=>dV []
noncomputable def zc(f:CO D)(g:CO (List D))(γ:Ctx):Option (List D):=(f γ).bind λx=>(g γ).map λr=>x::r
noncomputable def yt(f:CO (List D))(γ:Ctx):Option D:=(f γ).bind λa=>if a.length<=lim then dV (.tup a)else f6
noncomputable def qZ(f:CO (List D))(γ:Ctx):Option (List D):=(f γ).bind λa=>if a.length<=lim then dV a else f6
inductive Res where
 | val (d:D) | own (ds:List D)
inductive Fl where
 | next (γ:Ctx) | brk (γ:Ctx) | cont (γ:Ctx) | ret (r:Res)
def jw(γ:Ctx):Option Fl:=dV (.next γ)
noncomputable def zJ(F G:CO Fl):CO Fl:=λb=>(F b).bind λd=>match d with
 | .next a=>G a
 | f=>dV f
noncomputable def jU(f:CO D)(γ:Ctx):Option Fl:=(f γ).map λd=> .ret (.val d)
noncomputable def dg(f:CO (List D))(γ:Ctx):Option Fl:=(f γ).map λd=> .ret (.own d)
noncomputable def wB:Option Cell->Option Fl
 | some (.val d)=>dV (.ret<|.val d)
 | some (.own ds)=>dV (.ret<|.own ds)
 | _=>f6
def Je(i:Nat)(γ:Ctx):Option Fl:=wB γ[i]?
def eC(γ:Ctx):Option Fl:=dV (.brk γ)
def dA(γ:Ctx):Option Fl:=dV (.cont γ)
def xO:CO Fl:=λ_=>f6
noncomputable def mh(k:CO Bool)(F G:CO Fl)(γ:Ctx):Option Fl:=(k γ).bind λb=>if b=e6 then F γ else G γ
noncomputable def qK(i:Nat)(f:CO D)(γ:Ctx):Option Fl:=(f γ).map λd=> .next (γ.set i<|.val d)
noncomputable def k6(i:Nat)(f:CO (List D))(γ:Ctx):Option Fl:=(f γ).map λa=> .next (γ.set i<|.own a)
def dv(f:CO D)(γ:Ctx):Option Fl:=(f γ).map λ_=> .next γ
noncomputable def qk:Option Cell->Option (List D)
 | some (.own ds)=>dV ds
 | _=>f6
noncomputable def jq(i:Nat)(f:CO D)(γ:Ctx):Option Fl:=(qk γ[i]?).bind λa=>(f γ).bind λd=>if a.length<lim then dV (.next<|γ.set i<|.own<|a++[d])else f6
noncomputable def zY(n:Nat)(g:List D):Ctx:=g.map Cell.val++eS (n - g.length) Cell.no
noncomputable def jo(n:Nat)(F:CO Fl)(ds:List D):Option Res:=(F<|zY n ds).bind λd=>match d with
 | .ret r=>dV r
 | .next _=>dV (.val .i4)
 | _=>f6
def WY:Res->D
 | .val d=>d
 | .own a=> .lst a
noncomputable def zv(F:List D->Option Res)(g:CO (List D))(γ:Ctx):Option D:=(g γ).bind λa=>(F a).map WY
def bO:Res->Option (List D)
 | .own a=>dV a
 | _=>f6
noncomputable def wO(F:List D->Option Res)(g:CO (List D))(γ:Ctx):Option (List D):=(g γ).bind λa=>(F a).bind bO
noncomputable def xj(lo:Int)(n:Nat):List D:=(eZ n).map λ(i:Nat)=>D.int<|lo+(i:Int)
noncomputable def XH(g t:List D):List D:=(g.zip t).map λp=>D.tup [p.1,p.2]
noncomputable def jv(f:CO (Sk×List D))(γ:Ctx):Option (List D):=(f γ).map (·.2)
def inR(i:Int):Bool:=decide<|i.natAbs<2 ^ 62
noncomputable def jg(f:CO D)(γ:Ctx):Option (List D):=((f γ).bind mF).bind λn=>if inR n=e6 then dV (xj 0 n.toNat)else f6
noncomputable def WV(f g:CO D)(γ:Ctx):Option (List D):=((f γ).bind mF).bind λm=>((g γ).bind mF).bind λn=>if inR m=e6/\inR n=e6 then dV (xj m (n - m).toNat)else f6
noncomputable def VY(f g:CO D)(γ:Ctx):Option (List D):=((f γ).bind ju).bind λm=>((g γ).bind ju).map λn=>XH m.2 n.2
inductive Tg where
 | nm (i:Nat) | tp (is:List Nat)
noncomputable def jf:List Nat->List D->Ctx->Ctx
 | i::is,d::ds,γ=>jf is ds<|γ.set i<|.val d
 | _,_,γ=>γ
noncomputable def jT:Tg->D->CO Ctx
 | .nm i,d,γ=>dV (γ.set i<|.val d)
 | .tp is,.tup ds,γ=>if ds.length=is.length then dV (jf is ds γ)else f6
 | _,_,_=>f6
noncomputable def qC(T:Tg)(F:CO Fl):List D->CO Fl
 | [],a=>dV (.next a)
 | d::b,a=>(jT T d a).bind λB=>(F B).bind λI=>match I with
  | .next z=>qC T F b z
  | .cont z=>qC T F b z
  | .brk z=>dV (.next z)
  | .ret r=>dV (.ret r)
noncomputable def wN(g:CO (List D))(T:Tg)(F:CO Fl)(γ:Ctx):Option Fl:=(g γ).bind λa=>qC T F a γ
def kG:Cell->Cell
 | .own _=> .no
 | .nest _=> .no
 | c=>c
noncomputable def jH(n:Nat)(g:List Nat)(γ:Ctx):Ctx:=eS n Cell.no++g.map λj=>kG<|γ[j]?.getD .no
noncomputable def zV(T:Tg)(k:CO Bool)(f:CO D)(γ:Ctx):List D->Option (List D)
 | []=>dV []
 | d::ds=>(jT T d γ).bind λz=>(k z).bind λb=>if b=e6 then (f z).bind λe=>(zV T k f γ ds).map λr=>e::r else zV T k f γ ds
noncomputable def jt(g:CO (List D))(T:Tg)(n:Nat)(t:List Nat)(k:CO Bool)(f:CO D)(γ:Ctx):Option (List D):=(g γ).bind λa=>if a.length<=lim then zV T k f (jH n t γ) a else f6
def qa:CO Bool:=λ_=>dV e6
def Tg.idx:Tg->List Nat
 | .nm i=>[i]
 | .tp is=>is
noncomputable def dI(g:Int->Int->D):D->D->Option D
 | .int i,.int j=>dV (g i j)
 | _,_=>f6
noncomputable def pb(c:Int->Int->Bool)(g:Int->Int->D):D->D->Option D
 | .int i,.int j=>if c i j=e6 then dV (g i j)else f6
 | _,_=>f6
def K7:D->D->Option D:=dI λi j=> .int (i - j)
noncomputable def vQ(i j:Int):Bool:=decide (i.natAbs<2 ^ 64) || decide (j.natAbs<2 ^ 64)
noncomputable def VF(_ j:Int):Bool:=decide (0<j) && decide (j.natAbs<1073741824)
def Zf:D->D->Option D:=pb VF λi j=> .int (i/j)
def Wo(_ j:Int):Bool:=decide<|0<j
def qW:D->D->Option D:=pb Wo λi j=> .int (i%j)
noncomputable def VE(i j:Int):Bool:=decide (0<=j) && decide (j.natAbs<=1000000) && decide (i.natAbs<2 ^ 64)
def K8:D->D->Option D:=pb VE λi j=> .int (i ^ j.toNat)
def oh:D->D->Option D:=dI λi j=> .bl (decide<|i<=j)
def nT:D->D->Option D:=dI λi j=> .bl (decide<|j<i)
def pa:D->D->Option D:=dI λi j=> .bl (decide<|j<=i)
noncomputable def qE:D->D->Option D
 | .int i,.int j=>dV (.int<|i+j)
 | .tup xs,.tup ys=>if xs.length+ys.length<=lim then dV (.tup<|xs++ys)else f6
 | _,_=>f6
noncomputable def xX:D->D->Option D
 | .int i,.int j=>if vQ i j=e6 then dV (.int<|i*j)else f6
 | .tup xs,.int j=>if xs.length*j.toNat<=lim/\inR j=e6 then dV (.tup (eS j.toNat xs).flatten)else f6
 | _,_=>f6
noncomputable def dB(f g:CO (Sk×List D))(γ:Ctx):Option (List D):=(f γ).bind λa=>(g γ).bind λb=>
 match a.1,b.1 with
 | .L,.L=>if a.2.length+b.2.length<=lim then dV (a.2++b.2)else f6
 | _,_=>f6
noncomputable def dh(f:CO (Sk×List D))(g:CO D)(γ:Ctx):Option (List D):=(f γ).bind λa=>((g γ).bind mF).bind λj=>
 match a.1 with
 | .L=>if a.2.length*j.toNat<=lim/\inR j=e6 then dV (eS j.toNat a.2).flatten else f6
 | _=>f6
noncomputable def mC(n:Nat)(i:Int):Option Nat:=if 0<=i/\i<n then dV i.toNat else if i<0/\0<=i+n then dV (i+n).toNat else f6
noncomputable def hF(f:CO (Sk×List D))(g:CO D)(γ:Ctx):Option D:=(f γ).bind λa=>((g γ).bind mF).bind λi=>(mC a.2.length i).bind λk=>a.2[k]?
noncomputable def bF(i:Nat)(g f:CO D)(γ:Ctx):Option Fl:=(f γ).bind λd=>(qk γ[i]?).bind λa=>((g γ).bind mF).bind λk=>(mC a.length k).map λj=> .next (γ.set i<|.own<|a.set j d)
noncomputable def J8(n dflt:Nat):Option Int->Nat
 | none=>dflt
 | some i=>if i<0 then (i+n).toNat else min i.toNat n
noncomputable def Yb(xs:List D)(lo g:Option Int):List D:=(xs.drop<|J8 xs.length 0 lo).take (J8 xs.length xs.length g - J8 xs.length 0 lo)
def V0:CO (Option Int):=λ_=>dV f6
noncomputable def pT(f:CO D)(γ:Ctx):Option (Option Int):=((f γ).bind mF).map dV
noncomputable def WU(f:CO D)(l h:CO (Option Int))(γ:Ctx):Option D:=(f γ).bind λd=>(l γ).bind λlo=>(h γ).bind λa=>match d with
 | .tup b=>dV (.tup<|Yb b lo a)
 | _=>f6
noncomputable def xZ(f:CO (Sk×List D))(γ:Ctx):Option D:=(f γ).map λa=> .int a.2.length
inductive Ty where
 | int | bool | str | tuple | list
 deriving DecidableEq
@[simp] def X8:D->Bool
 | .int _=>e6
 | .bl _=>e6
 | _=>f9
@[simp] def Vv:D->Bool
 | .bl _=>e6
 | _=>f9
@[simp] def X5:D->Bool
 | .str _=>e6
 | _=>f9
@[simp] def X4:D->Bool
 | .tup _=>e6
 | _=>f9
@[simp] def X7:D->Bool
 | .lst _=>e6
 | _=>f9
noncomputable def yG:Ty->D->Bool
 | .int=>X8
 | .bool=>Vv
 | .str=>X5
 | .tuple=>X4
 | .list=>X7
noncomputable def mw(T:Ty)(f:CO D)(γ:Ctx):Option D:=(f γ).map λd=> .bl (yG T d)
noncomputable def aj:Ty->Sk->Bool
 | .tuple,.T=>e6
 | .list,.L=>e6
 | _,_=>f9
noncomputable def et(T:Ty)(f:CO (Sk×List D))(γ:Ctx):Option D:=(f γ).map λa=> .bl (aj T a.1)
@[simp] def sS:D->Bool
 | .i4=>e6
 | _=>f9
@[simp] noncomputable def eqB(a:Bool):D->Bool
 | .bl b=>a==b
 | .int b=>(if a then 1 else 0)==b
 | _=>f9
@[simp] noncomputable def sR(a:Int):D->Bool
 | .bl b=>a==(if b then 1 else 0)
 | .int b=>a==b
 | _=>f9
@[simp] def rm(a:Str):D->Bool
 | .str b=>a==b
 | _=>f9
@[simp] def tJ(a:Str)(i:Option Int):D->Bool
 | _=>f9
mutual
def mq:D->D->Bool
 | .i4,y=>sS y
 | .bl a,y=>eqB a y
 | .int a,y=>sR a y
 | .str a,y=>rm a y
 | .tup xs,y=>match y with
  | .tup e=>nk xs e
  | _=>f9
 | .lst xs,y=>match y with
  | .lst e=>nk xs e
  | _=>f9
 | .mn a b,y=>match y with
  | .mn c d=>nk a c && nk b d
  | _=>f9
 | .md a b,y=>match y with
  | .md c d=>a==c && nk b d
  | _=>f9
def nk:List D->List D->Bool
 | [],[]=>e6
 | x::xs,y::ys=>mq x y && nk xs ys
 | _,_=>f9
end
mutual
def deep:D->Nat
 | .tup a=>nj a+1
 | .lst a=>nj a+1
 | _=>0
def nj:List D->Nat
 | []=>0
 | x::xs=>max (deep x)<|nj xs
end
mutual
def mu:D->Bool
 | .str x=>x.cps.all (· < 0x110000)
 | .mn _ _=>f9
 | .md _ _=>f9
 | .tup a=>m9 a
 | .lst a=>m9 a
 | _=>e6
def m9:List D->Bool
 | []=>e6
 | x::xs=>mu x && m9 xs
end
def mv(d:D):Bool:=decide (deep d<=20) && mu d
noncomputable def lZ(x y:D):Option D:=if mv x=e6/\mv y=e6 then dV (.bl<|mq x y)else f6
noncomputable def mm(x y:D):Option D:=if mv x=e6/\mv y=e6 then dV (.bl<|!mq x y)else f6
noncomputable def jc(f:CO (Sk×List D))(γ:Ctx):Option D:=(f γ).map λa=> .tup a.2
noncomputable def qY(f:CO (Sk×List D))(γ:Ctx):Option (List D):=(f γ).map λa=>a.2
noncomputable def QO:List D->Option Int
 | []=>dV 0
 | .int i::r=>(QO r).map λs=>i+s
 | _::_=>f6
noncomputable def bB(f:CO (Sk×List D))(γ:Ctx):Option D:=(f γ).bind λa=>(QO a.2).map D.int
noncomputable def WH:D->Option Bool
 | .i4=>dV f9
 | .bl b=>dV b
 | .int i=>dV (i != 0)
 | _=>f6
noncomputable def Zv:List D->Option (List Bool)
 | []=>dV []
 | d::r=>(WH d).bind λb=>(Zv r).map λs=>b::s
noncomputable def Yo(f:CO (Sk×List D))(γ:Ctx):Option D:=(f γ).bind λa=>(Zv a.2).map λs=> .bl (s.all id)
noncomputable def eE(f:CO (Sk×List D))(γ:Ctx):Option D:=(f γ).bind λa=>(Zv a.2).map λs=> .bl (s.any id)
noncomputable def Jg(f:CO D)(γ:Ctx):Option D:=(f γ).bind λd=>match d with
 | .int i=>dV (.int i)
 | .bl b=>dV (.int<|if b then 1 else 0)
 | _=>f6
noncomputable def dk(f g:CO D)(γ:Ctx):Option D:=((f γ).bind mF).bind λi=>((g γ).bind mF).map λj=> .int (if j>i then j else i)
noncomputable def df(f:CO (Sk×List D))(γ:Ctx):Option Bool:=(f γ).map λa=> !a.2.isEmpty
noncomputable def ye(F G:D->D->Option D)(g t C:CO D):CO D:=λa=>(g a).bind λx=>(t a).bind λy=>((F x y).bind nM).bind λb=>if b=e6 then (C a).bind λz=>G y z else dV (.bl f9)
noncomputable def QR(T:Tg)(f:CO D)(γ:Ctx):Option Fl:=(f γ).bind λd=>(jT T d γ).map .next
def dN:D->Option Int
 | .tup (.int k::_)=>dV k
 | _=>f6
noncomputable def Vm:List D->Option (List Int)
 | []=>dV []
 | d::r=>(dN d).bind λk=>(Vm r).map λl=>k::l
noncomputable def bZ:List Int->Bool
 | a::b::r=>decide (a<b) && bZ (b::r)
 | _=>e6
noncomputable def dH(g:List Int):Nat:=(g.dropLast.filter λk=>decide<|k<g.getLast?.getD 0).length
noncomputable def dO(q:Nat)(g:List D):List D:=g.dropLast.take q++(g.drop (g.length - 1)++g.dropLast.drop q)
noncomputable def WS(g:List D):Option (List D):=(Vm g).bind λa=>if (1<=g.length/\g.length<=8)/\bZ a.dropLast=e6/\decide (a.getLast?.getD 0∈a.dropLast)=f9 then dV (dO (dH a) g)else f6
noncomputable def WT(f:CO (Sk×List D))(γ:Ctx):Option (List D):=(f γ).bind λa=>match a.1 with
 | .L=>WS a.2
 | _=>f6
noncomputable def aA:D->Bool
 | .tup _=>f9
 | .lst _=>f9
 | .mn _ _=>f9
 | .md _ _=>f9
 | _=>e6
end DL
namespace L2
open PySem PySem.Spec PyProof.Rows
noncomputable def my(k:Sk)(h:h9)(i l:g6)(n:Nat):Prop:=match k with
 | .L=>h.IsListIter i l n
 | .T=>h.IsTupleIter i l n
noncomputable def mK(k:Sk)(h:h9)(l:g6)(xs:Array hA):Prop:=match k with
 | .L=>h.IsList l xs
 | .T=>h.IsTuple l xs
noncomputable def mG(k:Sk)(l:g6):mI:=match k with
 | .L=>{cls:= .type "list_iterator",data:= .fields #[.ref l,.int 0 0]}
 | .T=>{cls:= .type "tuple_iterator",data:= .fields #[.ref l,.int 0 0]}
theorem my.at(x:my k h i l n)(e : ∀o,h.get? i=dV o->h'.get? i=dV o):my k h' i l n:=by cases k<;>exact let ⟨o,d,r⟩:=x;⟨o,e _ d,r⟩
theorem mK.at(x:mK k h l xs)(e : ∀o,h.get? l=dV o->h'.get? l=dV o):mK k h' l xs:=by cases k<;>exact let ⟨o,d,r⟩:=x;⟨o,e _ d,r⟩
theorem my.obj(x:my k h i l n) : ∃o,h.get? i=dV o/\∀v,o.data ≠ .cell v:=by cases k<;>exact let ⟨o,B,_,d⟩:=x;⟨o,B,λv z=>by rw[d]at z;cases z⟩
theorem mK.lt(x:mK k h l xs):l<h.objs.size:=by cases k<;>exact let ⟨o,d,_⟩:=x;ff d
theorem Zd(k:Sk)(h:h9)(l:g6):my k (h.push<|mG k l) h.objs.size l 0:=by cases k<;>exact⟨_,fv _ rfl,rfl,rfl⟩
section
variable{prog:ma}{w:j1}{A:mS}{E:GQ}{s:hL}
theorem Zc(d:mK k s.heap l xs)(z:Q (.ref s.heap.objs.size) {s with heap:=s.heap.push (mG k l)}):wpAny (hO prog w) A (pQ<|.ref l) Q E s:=by
 cases k
 ·exact lR d z
 ·exact wpAny_pyIter_tuple d z
theorem kH(B:my k s.heap it l i)(I:mK k s.heap l items)(J:items[i]? = dV x)
 (M : ∀h',my k h' it l (i+1)->iB it s.heap h'->Q x {s with heap:=h'}):wpAny (hO prog w) A (fE<|.ref it) Q E s:=by
 cases k with
 | L=>exact wpAny_nextOf_list_item B I J M
 | T=>
  have z:s.heap.IsTupleIter it l i:=B;obtain⟨o,d,O,a⟩:=id z;obtain⟨W,R,_,Y,U⟩:=(show s.heap.IsTuple l items from I);unfold fE;refine eP (gi (name:=gg "__next__") z.typeIs iG (gE iG z.typeIs sP ?_ (sM _)));refine eP (m:=field (.ref it) 0) (fZ d a (x:= .ref l) rfl ?_);show wpAny _ _ (if (fS l==gO)=e6 then _ else _) _ _ s;rw[GY (show ¬((fS l==gO)=e6)from fm)];refine eP (m:=field (.ref it) 1) (fZ d a (x:= .int i 0) rfl ?_);refine eP (m:=seqItems? (.ref l)) (gF R U ?_);simp only[lI,J];refine eP (wpAny_setField d a ⋯ (eX ⟨x,rfl,eX (M _ ?_ (iB.update ..))⟩));show Heap.IsTupleIter _ it l (i+1);exact⟨_,Heap.get?_update_self _ d (Obj.isFreed_of_fields (Obj.data_mapFields a _)),(Obj.cls_mapFields ..).trans O,by rw[Obj.data_mapFields a];simp[pS]⟩
theorem w4(d:A.handled=f6)(I:my k s.heap it l i)(J:mK k s.heap l items)(M:items[i]? = f6)
 (O : ∀h' e,Heap.ExtBut it s.heap h'->(∃o,h'.get? e=dV o/\o.cls = .type "StopIteration")->E (.ref e) {s with heap:=h'}):wpAny (hO prog w) A (fE (.ref it)) Q E s:=by
 cases k with
 | L=>exact wpAny_nextOf_list_end d I J M O
 | T=>
  have z:s.heap.IsTupleIter it l i:=I;obtain⟨o,B,W,b⟩:=id z;obtain⟨Y,R,_,f,U⟩:=(show s.heap.IsTuple l items from J);unfold fE;refine eP (gi (name:=gg "__next__") z.typeIs iG (gE iG z.typeIs sP ?_ (sM _)));refine eP (m:=field (.ref it) 0) (fZ B b (x:= .ref l) rfl ?_);show wpAny _ _ (if (fS l==gO)=e6 then _ else _) _ _ s;rw[GY (show ¬((fS l==gO)=e6)from fm)];refine eP (m:=field (.ref it) 1) (fZ B b (x:= .int i 0) rfl ?_);refine eP (m:=seqItems? (.ref l)) (gF R U ?_);simp only[lI,M];refine eP (lQ (eP (wpAny_setField B b ⋯ ?_)));refine eP (m:=newExc (.type "StopIteration") []) ?_;simp only[newExc,newTuple];refine eP (fY ?_ (by size_fits));refine eP (m:=sT _ _) (wpAny_of_eq (a:=gO) (by first | rfl | (simp only[sT];rfl)) ?_);refine fY ?_ (by size_fits);simp only[raiseNew];refine eP (wpAny_handled ?_)
  first | rw[show A.in1.handled=f6 from d] | rw[d]
  exact eP<|eX<|wpAny_throw<|O _ _ (((iB.update ..).extBut.push _).push _) ⟨_,fv _ rfl,rfl⟩
theorem ZR{C G:Sk}{z TI TO B I g t:g6}{H L:Nat}{xs ys:Array hA}{x y a b:hA}{Q:GQ}(D:rd z TI TO B I g t)
 (U:nv s.heap z TI TO .none) (b6:mH s.heap TI (.ref B) (.ref I)) (b7:mH s.heap TO a b)
 (h1:my C s.heap B g H) (h2:my G s.heap I t L) (b8:mK C s.heap g xs) (b9:mK G s.heap t ys) (hx:xs[H]? = dV x) (hy:ys[L]? = dV y)
 (hQ : ∀h',nv h' z TI TO (pS s.heap.objs.size)->mH h' TO x y->my C h' B g (H+1)->my G h' I t (L+1)->mH h' s.heap.objs.size x y->h'.objs.size=s.heap.objs.size+1->
   (∀c o,c≠z->c≠TO->c≠B->c≠I->s.heap.get? c=dV o->h'.get? c=dV o)->Q (.ref s.heap.objs.size) {s with heap:=h'}) :
 wpAny (hO prog w) A (oJ.«zip.__next__» ⟨[.ref z],[]⟩) (λbg s'=>∃v,bg = .done (.ret v)/\Q v s') E s:=by
 refine eP (m:=field (.ref z) 2)<|fZ U rfl (x:= .bool f9) rfl ?_;refine eP (m:=field (.ref z) 3)<|fZ U rfl (x:= .ref TI) rfl ?_;refine eP<|gF b6 rfl ?_;refine eP (m:=fX<|.ref z) ?_;unfold fX;refine eP<|fZ U rfl (x:= .none) rfl<|eX ?_;simp only[if_true];refine eP<|lQ<|eP<|fZ U rfl (x:= .ref TO) rfl ?_;refine eP<|hV U ⋯ λg1 l J=>?_;replace l:nv g1 z TI TO .ellipsis:=l;refine eP ?_;simp only[List.zipIdx_cons,List.zipIdx_nil,List.forIn_cons,List.forIn_nil];refine eP<|eP<|lN ?_;refine eP (m:=fE<|.ref B)<|kH (h1.at λo e=>J.extBut _ _ D.i1z e) (b8.at λo e=>J.extBut _ _ D.l1z e) hx λg2 bm O=>eX ?_;have K:mH g2 TO a b:=O.extBut _ _ D.TOi1<|J.extBut _ _ D.TOz b7;refine eP<|gF K rfl<|eP<|lA K λg3 n R=>?_;replace n:mH g3 TO x b:=n;refine eP<|wpAny_letGo<|eX<|eP<|eP<|lN ?_;refine eP (m:=fE<|.ref I)<|kH (h2.at λo e=>R.extBut _ _ D.TOi2.symm<|O.extBut _ _ D.i12.symm<|J.extBut _ _ D.i2z e) (b9.at λo e=>R.extBut _ _ D.l2TO<|O.extBut _ _ D.l2i1<|J.extBut _ _ D.l2z e) hy λg4 c0 W=>eX ?_;have N:mH g4 TO x b:=W.extBut _ _ D.TOi2 n;refine eP<|gF N rfl<|eP<|lA N λd h Y=>?_;replace h:mH d TO x y:=h;refine eP<|wpAny_letGo<|eX<|eX<|eP<|gF h rfl<|eP<|wpAny_newTuple ?_;have P:d.objs.size=s.heap.objs.size:=by rw[Y.1,W.1,R.1,O.1,J.1]
 have S:nv d z TI TO .ellipsis:=Y.extBut _ _ D.TOz.symm (W.extBut _ _ D.i2z.symm (R.extBut _ _ D.TOz.symm (O.extBut _ _ D.i1z.symm l)));have c5 : ∀c o,c≠z->c≠TO->c≠B->c≠I->s.heap.get? c=dV o->d.get? c=dV o:=λc o M j u F e=>Y.extBut _ _ j (W.extBut _ _ F (R.extBut _ _ j (O.extBut _ _ u (J.extBut _ _ M e))));have c6:my C d B g (H+1):=bm.at λo e=>Y.extBut _ _ D.TOi1.symm (W.extBut _ _ D.i12 (R.extBut _ _ D.TOi1.symm e));have c7:my G d I t (L+1):=c0.at λo e=>Y.extBut _ _ D.TOi2.symm e;have T:z<d.objs.size:=ff S;refine eP (m:=iy (.ref z) (.ref d.objs.size)) ?_;unfold iy;have c8:nv (d.push {cls:= .type "tuple",data:= .seq #[x,y]}) z TI TO .ellipsis:=eQ _ S;refine eP (hV c8 ⋯ λg7 p r=>?_);replace p:nv g7 z TI TO (pS d.objs.size):=p;refine hV p ⋯ λf i as=>?_;replace i:nv f z TI TO (pS d.objs.size):=i;have k : ∀c o,c≠z->d.get? c=dV o->f.get? c=dV o:=λc o M e=>as.extBut _ _ M (r.extBut _ _ M (eQ _ e));have X:mH f d.objs.size x y:=as.extBut _ _ (gS T) (r.extBut _ _ (gS T) (fv _ rfl));have Z:f.objs.size=d.objs.size+1:=by rw[as.1,r.1,fT]
 rw[P]at i X Z;refine eX ⟨_,rfl,?_⟩;show Q (.ref d.objs.size) _;rw[P];exact hQ f i (k _ _ D.TOz h) (c6.at λo e=>k _ o D.i1z e) (c7.at λo e=>k _ o D.i2z e) X Z λc o M j u F e=>k c o M<|c5 c o M j u F e
theorem QF{k1 k2:Sk}{z TI TO I O t C:g6}{G H:Nat}{xs ys:Array hA}{a b:hA}{Q:Fin->hL->Prop}(Z:A.handled=f6)(D:rd z TI TO I O t C)
 (Y:nv s.heap z TI TO .none) (b0:mH s.heap TI (.ref I) (.ref O)) (b1:mH s.heap TO a b)
 (P:my k1 s.heap I t G) (h2:my k2 s.heap O C H) (L:mK k1 s.heap t xs) (b2:mK k2 s.heap C ys) (b3:xs[G]? = f6\/ys[H]? = f6)
 (hE : ∀h' e,(∀c o,c≠z->c≠TO->c≠I->c≠O->s.heap.get? c=dV o->h'.get? c=dV o)->(∃o,h'.get? e=dV o/\o.cls = .type "StopIteration")->E (.ref e) {s with heap:=h'}) :
 wpAny (hO prog w) A (oJ.«zip.__next__» ⟨[.ref z],[]⟩) Q E s:=by
 refine eP (m:=field (.ref z) 2) (fZ Y rfl (x:= .bool f9) rfl ?_);refine eP (m:=field (.ref z) 3) (fZ Y rfl (x:= .ref TI) rfl ?_);refine eP (gF b0 rfl ?_);refine eP (m:=fX (.ref z)) ?_;unfold fX;refine eP (fZ Y rfl (x:= .none) rfl (eX ?_));simp only[if_true];refine eP (lQ (eP (fZ Y rfl (x:= .ref TO) rfl ?_)));refine eP (hV Y ⋯ λg1 i d=>?_);replace i:nv g1 z TI TO .ellipsis:=i;refine eP ?_;simp only[List.zipIdx_cons,List.zipIdx_nil,List.forIn_cons,List.forIn_nil];refine eP (eP (lN ?_));have n : ∀{g e:_} {R:mI},nv g z TI TO .ellipsis->(∀c o,c≠z->c≠TO->c≠I->c≠O->s.heap.get? c=dV o->g.get? c=dV o)->g.get? e=dV R->R.cls = .type "StopIteration"->
  wpAny (hO prog w) A (setField (.ref z) 0 .none) (λ_ F=>E (.ref e) F) E {s with heap:=g}:=λ{g e R} p hk J U=>by
  have u:e≠z:=λq=>by subst q;rw[p]at J;cases J;simp at U
  exact hV p ⋯ λg3 _ M=>hE g3 e (λc o W j f k q=>M.extBut _ _ W<|hk c o W j f k q) ⟨R,M.extBut _ _ u J,U⟩
 cases hx:xs[G]? with
 | none=>
  refine eP (m:=fE<|.ref I)<|w4 Z (P.at λo e=>d.extBut _ _ D.i1z e) (L.at λo e=>d.extBut _ _ D.l1z e) hx λg2 e B l=>?_;obtain⟨R,J,U⟩:=l;exact n (B _ _ D.i1z.symm i) (λc o W _ f _ q=>B _ _ f<|d.extBut _ _ W q) J U
 | some x=>
  have y:ys[H]? = f6:=by rcases b3 with h | h;rw[hx]at h;cases h;exact h
  refine eP (m:=fE<|.ref I)<|kH (P.at λo e=>d.extBut _ _ D.i1z e) (L.at λo e=>d.extBut _ _ D.l1z e) hx λg2 K B=>eX ?_;have as:mH g2 TO a b:=B.extBut _ _ D.TOi1<|d.extBut _ _ D.TOz b1;refine eP<|gF as rfl<|eP<|lA as λg3 N M=>?_;refine eP<|wpAny_letGo<|eX<|eP<|eP<|lN ?_;refine eP (m:=fE<|.ref O)<|w4 Z (h2.at λo e=>M.extBut _ _ D.TOi2.symm<|B.extBut _ _ D.i12.symm<|d.extBut _ _ D.i2z e) (b2.at λo e=>M.extBut _ _ D.l2TO<|B.extBut _ _ D.l2i1<|d.extBut _ _ D.l2z e) y λS e r l=>?_;obtain⟨R,J,U⟩:=l;exact n (r _ _ D.i2z.symm<|M.extBut _ _ D.TOz.symm<|B.extBut _ _ D.i1z.symm i) (λc o W j f k q=>r _ _ k<|M.extBut _ _ j<|B.extBut _ _ f<|d.extBut _ _ W q) J U
end
def xF(a b:hA):mI:={cls:= .type "tuple",data:= .seq #[a,b]}
noncomputable def WD(TI TO:g6):mI:={cls:= .type "zip",data:= .fields #[.none,.bool f9,.bool f9,.ref TI,.ref TO]}
noncomputable def kW(d z:Sk)(h:h9)(g t:g6):h9:=
 fN (fN (fN (fN (fN h<|mG d g)<|mG z t)<|xF (.ref h.objs.size)<|.ref<|h.objs.size+1)<|xF .none .none) (WD (h.objs.size+2)<|h.objs.size+3)
theorem QE(z B:Sk)(t C:g6)(xs ys:Array hA) :
 pF (oJ.«zip.__new__» ⟨[.type "zip",.ref t,.ref C],[]⟩) (λ_ R s=>mK z s.heap t xs/\mK B s.heap C ys/\
  R (.ok<|.ret<|.ref<|s.heap.objs.size+4) {s with heap:=kW z B s.heap t C}):=
 .of_wp λa w A R s h=>by
  obtain⟨I,g,d,J,os⟩:=s;obtain⟨M,O,h⟩:=h;have Y:=sub_zip;have U:mK z (Shared.heap ⟨I,g,d,J,os⟩) t xs:=M;have W:mK B (Shared.heap ⟨I.push<|mG z t,g,d,J,os⟩) C ys:=O.at λo e=>eQ _ e
  wp_walk using Zc U,Zc W
  refine⟨_,rfl,?_⟩;simp only[kW,xF,WD,fT]at h ⊢;exact h
section
variable{X:Cx}{pins:GW}{σ:St}{H:Hp}{s:hL}{h':h9}
theorem Inv.sF{t':Nat}{fp:List g6}{a:g6}{o:HO}(I:Inv X pins σ H s)(k : ∀b u,b∉fp->s.heap.get? b=dV u->h'.get? b=dV u)(J : ∀b∈fp,ZO X pins H b)
 (O:s.heap.objs.size<=a) (new:mr X.prog X.w (upd H a o) h' a o):Inv X pins σ (upd H a o) {s with heap:=h',toks:=t'}:=by
 have f:H a=f6:=I.i5.fresh O;have R : ∀b u,H b=dV u->b∉fp:=λb u e z=>by rw[(J b z).1]at e;cases e
 have U : ∀b u,s.heap.get? b=dV u->b≠a:=λb u e=>fF<|fg (ff e) O;refine I.step (g':=s.gens) (d':=s.drawn) (ch:=fp) (λb d=>⟨(J b d).2.2.2.1,(J b d).2.1,(J b d).2.2.2.2.1,(J b d).2.2.2.2.2⟩) (λb u _ _ B e _=>k b u B e) (λb u _ _ B e _=>⟨u.slots,k b u B e⟩)
  (λb u _ e n=>by rw[zx (U b u e)];exact n) (λb u B e=>⟨u,k b u B e⟩) (λb g e=>by rw[zx (zM e f)];exact e) (λb M g e=>by rw[zx (zM e f)];exact e)
  (λb j e=>⟨#[],by rw[zx (zM e f),e];simp⟩) (λm i=>?_) (λb u e=>?_) I.bare
 ·obtain⟨M,h,W,Y,r⟩:=i
  refine⟨M,h,W,k _ M (λz=>(J _ z).2.1 rfl) Y,r⟩
 ·by_cases d:b=a
  ·subst d;rw[zu]at e;cases e;exact new
  ·rw[zx d]at e
   refine(I.i5 b u e).oH (λc v B q=>k c v ?_ q) (λc q=>by rw[zx (zM q f)];exact q) λc g q=>by rw[zx (zM q f)];exact q
   rcases B with z | z
   ·rw[z];exact R b u e
   ·exact R c _ z
theorem Inv.sG{t':Nat}{fp:List g6}(I:Inv X pins σ H s)(k : ∀b u,b∉fp->s.heap.get? b=dV u->h'.get? b=dV u)(B : ∀b∈fp,ZO X pins H b):Inv X pins σ H {s with heap:=h',toks:=t'}:=by
 have O : ∀b u,H b=dV u->b∉fp:=λb u e z=>by rw[(B b z).1]at e;cases e
 refine I.step (g':=s.gens) (d':=s.drawn) (ch:=fp) (λb J=>⟨(B b J).2.2.2.1,(B b J).2.1,(B b J).2.2.2.2.1,(B b J).2.2.2.2.2⟩) (λb u _ _ d e _=>k b u d e) (λb u _ _ d e _=>⟨u.slots,k b u d e⟩)
  (λb u _ e n=>n) (λb u d e=>⟨u,k b u d e⟩) (λb a e=>e) (λb M a e=>e)
  (λb h e=>⟨#[],by rw[e];simp⟩) (λm g=>?_) (λb u e=>?_) I.bare
 ·obtain⟨M,f,R,U,r⟩:=g
  refine⟨M,f,R,k _ M (λz=>(B _ z).2.1 rfl) U,r⟩
 ·refine(I.i5 b u e).oH (λc v d q=>k c v ?_ q) (λc q=>q) λc a q=>q
  rcases d with z | z
  ·rw[z];exact O b u e
  ·exact O c _ z
end
noncomputable def mz(k:Sk)(K:eO)(H:Hp)(a:g6)(xs:List V):Prop:=match k with
 | .L=>i2 K H a xs
 | .T=>i3 K H a xs
theorem Inv.sq(I:Inv X pins σ H s)(h:mz k X.K H a xs) :
 ∃d:List hA,i0 xs d/\mK k s.heap a d.toArray/\xs.length<=lV:=by
 cases k with
 | L=>obtain⟨d,r,p,z⟩:=I.list h;exact⟨d,r,p.isList,z⟩
 | T=>obtain⟨d,r,p,z⟩:=I.tuple h;exact⟨d,r,p,z⟩
theorem Inv.su(I:Inv X pins σ H s)(h:mz k X.K H a xs)(h':mz k X.K H a ys):xs=ys:=by
 cases k with
 | L=>exact I.rB h h'
 | T=>exact I.sE h h'
noncomputable def p8(d z:Sk)(K:eO)(a b:g6):It:=
 ⟨λi H=>∃e f,mz d K H a e/\mz z K H b f/\i<e.length/\i<f.length,
  λi H x g=>∃p u v,x = .ref p/\H p=f6/\g=upd H p (.tup [u,v])/\(∀e,mz d K H a e->e[i]? = dV u)/\(∀f,mz z K H b f->f[i]? = dV v),
  λi H=>∃e f,mz d K H a e/\mz z K H b f/\(e.length<=i\/f.length<=i)⟩
theorem QJ{P:ma}{w:j1}{K:eO}{elts:List hH}{x1:Nat}{nQ:i7}(k1 k2:Sk){z TI TO R U a b:g6}(D:rd z TI TO R U a b) :
 Turn P w K (.Tuple elts x1 nQ) (p8 k1 k2 K a b) [z,TI,TO,R,U] z (λi h=>nv h z TI TO .none/\mH h TI (.ref R) (.ref U)/\(∃c d,mH h TO c d)/\my k1 h R a i/\my k2 h U b i) where
 mem:=by simp
 obj:=λi h ⟨J,O,⟨c,d,W⟩,h1,h2⟩ y hy=>by
  simp only[eY,fD,or_false]at hy;rcases hy with rfl | rfl | rfl | rfl | rfl
  ·exact⟨_,J,λv q=>by cases q⟩
  ·exact⟨_,O,λv q=>by cases q⟩
  ·exact⟨_,W,λv q=>by cases q⟩
  ·exact h1.obj
  ·exact h2.obj
 keep:=λi h h' ⟨J,O,⟨c,d,W⟩,h1,h2⟩ k=>
  ⟨k z ⋯ _ J,k TI ⋯ _ O,⟨c,d,k TO ⋯ _ W⟩,h1.at λo e=>k R ⋯ o e,h2.at λo e=>k U ⋯ o e⟩
 item:=by
  rintro X hP hw hK hc i pins s σ H E I hf ⟨J,O,⟨c,d,W⟩,h1,h2⟩ ⟨xs,ys,ac,am,b9,bb⟩;subst hP hw hK;obtain⟨bd,ar,p1,z1⟩:=I.sq ac;obtain⟨bg,ax,p2,z2⟩:=I.sq am;have hx:xs[i]? = dV xs[i]:=eT b9;have hy:ys[i]? = dV ys[i]:=eT bb;obtain⟨u1,bl,bm⟩:=ar.get hx;obtain⟨u2,bn,bv⟩:=ax.get hy;have hT:s.TypeIs (.ref z) "zip":=⟨_,J,rfl⟩;unfold pR;refine eP (wpAny_attempt (gi (name:=gg "__next__") hT iW (gE iW hT F.entry_zip_next
   (ZR D J O W h1 h2 p1 p2 (x:=u1) (y:=u2) (by simpa using bl) (by simpa using bn) λg a1 a2 a3 a4 a5 a6 a7=>eX ⟨_,rfl,?_⟩) (F.args_zip_next_1 _))))
  refine wpAny_letOwnedTupleGo_zip a1 λg2 c5 Y=>?_;have lt : ∀{c o},s.heap.get? c=dV o->s.heap.objs.size≠c:=λe=>gS<|ff e;have c6:mH g2 s.heap.objs.size u1 u2:=Y.extBut _ _ (lt J) a5;have kk : ∀M u,M ∉ [z,TI,TO,R,U]->s.heap.get? M=dV u->g2.get? M=dV u:=λM u B e=>by simp only[eY,fD,or_false,not_or]at B;exact Y.extBut _ _ B.1<|a7 M u B.1 B.2.2.1 B.2.2.2.1 B.2.2.2.2 e
  have I1:Inv X pins σ (upd H s.heap.objs.size<|.tup [xs[i],ys[i]]) {s with heap:=g2,toks:=s.toks}:=
   I.sF (fp:=[z,TI,TO,R,U]) kk hf (eW _) ⟨by show 2<=lV;decide,[u1,u2],.cons bm<|.cons bv .nil,⟨_,c6,rfl,_,rfl⟩⟩
  have c8:H s.heap.objs.size=f6:=I.fresh;refine⟨.ref s.heap.objs.size,_,I1,rfl,⟨_,_,_,rfl,c8,rfl,λcl b3=>by rw[I.su b3 ac];exact hx,λcm b3=>by rw[I.su b3 am];exact hy⟩,?_,λM B=>?_⟩
  ·exact⟨c5,Y.extBut _ _ D.TIz<|a7 _ _ D.TIz D.TITO D.TIi1 D.TIi2 O,⟨_,_,Y.extBut _ _ D.TOz a2⟩,a3.at λo e=>Y.extBut _ _ D.i1z e,a4.at λo e=>Y.extBut _ _ D.i2z e⟩
  ·have c9:M≠s.heap.objs.size:=by
    simp only[eY,fD,or_false]at B;rcases B with rfl | rfl | rfl | rfl | rfl
    ·exact(lt J).symm
    ·exact(lt O).symm
    ·exact(lt W).symm
    ·obtain⟨o,e,_⟩:=h1.obj;exact(lt e).symm
    ·obtain⟨o,e,_⟩:=h2.obj;exact(lt e).symm
   rw[zx c9];exact(hf M B).1
 done:=by
  rintro X hP hw hK hc i pins s σ H E I hf ⟨J,O,⟨c,d,W⟩,h1,h2⟩ ⟨xs,ys,ac,am,hi⟩;subst hP hw hK;obtain⟨bd,ar,p1,z1⟩:=I.sq ac;obtain⟨bg,ax,p2,z2⟩:=I.sq am;have hT:s.TypeIs (.ref z) "zip":=⟨_,J,rfl⟩;have l1:=ar.length;have l2:=ax.length;unfold pR;refine eP (wpAny_attempt (gi (name:=gg "__next__") hT iW (gE iW hT F.entry_zip_next
   (QF (show X.A.handled=f6 from I.ok.hd hc) D J O W h1 h2 p1 p2 (by rcases hi with q | q;left;simp;omega;right;simp;omega) λg e hk he=>?_) (F.args_zip_next_1 _))))
  obtain⟨o,ho,ch⟩:=he;refine eP (wpAny_isInstance (T:="StopIteration") (b:=e6) ⟨o,ho,ch⟩ isSubtype_stop (eX ⟨rfl,?_⟩));refine I.sG (t':=s.toks) (fp:=[z,TI,TO,R,U]) (λM u B e=>?_) hf;simp only[eY,fD,or_false,not_or]at B;exact hk M u B.1 B.2.2.1 B.2.2.2.1 B.2.2.2.2 e
 self:=λ_ _ _ _ _ st h=>wpAny_pyIter_zip st.1 h
noncomputable def dP(K:eO)(g:TA):TI:=λj H R=>g j H λf e=>∃d z a b,f=[.ref a,.ref b]/\(∃h,mz d K e a h)/\(∃i,mz z K e b i)/\R (p8 d z K a b) e
theorem YW{X:Cx}{L t:hH}{P:TA}{p pos:i7}{C:List hH}{x1:Nat}{G:i7}(hg:Gl X "zip")(hm:X.mg "zip" = f6)(ha:PA X [L,t] P)
 (hv:oB "zip" = dV (.type "zip")) (hs:i6 [L,t] X.env=[(f9,hI L X.env),(f9,hI t X.env)]:=by rfl) (U:i6 [t] X.env=[(f9,hI t X.env)]:=by rfl) :
 PI X (.Tuple C x1 G) (.Call (.Name "zip" p) [L,t] [] pos) (dP X.K P):=by
 intro i s x H R I h;refine Call_ (qV I hg hm hv<|gz (hR (ha pos i s x H _ I h) λus f hZ=>?_) (by rw[hs,U])<|by rw[U];rfl);obtain⟨vs,j,B,r1,q1⟩:=hZ;obtain⟨d,z,a,b,e,⟨xs,A⟩,⟨ys,E⟩,q⟩:=q1;subst e;obtain⟨w1,w2,T,N,Q⟩:=WG r1;subst T;cases N;cases Q;obtain⟨as,bb,W,z1⟩:=B.sq A;obtain⟨S,be,r,z2⟩:=B.sq E;have la:=W.lt;have lb:=r.lt;refine callType_new F.called_zip ⋯ (F.typeCall_zip_2 _ _) (F.newCall_zip_2 _ _) (λobj=>F.args_object_init_3 obj _ _) F.entry_zip_new (QE d z a b as.toArray S.toArray) ⟨W,r,?_⟩;have keep : ∀c o,f.heap.get? c=dV o->(kW d z f.heap a b).get? c=dV o:=λc o e=>
  eQ _ (eQ _<|eQ _<|eQ _<|eQ _ e)
 have Y:(fN f.heap<|mG d a).objs.size=f.heap.objs.size+1:=fT ..;have u:(fN (fN f.heap<|mG d a)<|mG z b).objs.size=f.heap.objs.size+2:=by rw[fT,Y]
 have w:(fN (fN (fN f.heap<|mG d a)<|mG z b)<|xF (.ref f.heap.objs.size)<|.ref<|f.heap.objs.size+1).objs.size=f.heap.objs.size+3:=by rw[fT,u]
 have y4:(fN (fN (fN (fN f.heap<|mG d a)<|mG z b)<|xF (.ref f.heap.objs.size)<|.ref<|f.heap.objs.size+1)<|xF .none .none).objs.size=f.heap.objs.size+4:=by rw[fT,w]
 have Z:my d (kW d z f.heap a b) f.heap.objs.size a 0:=(Zd d f.heap a).at λo e=>eQ _<|eQ _<|eQ _<|eQ _ e;have g1:my z (kW d z f.heap a b) (f.heap.objs.size+1) b 0:=by have q:=Zd z (fN f.heap<|mG d a) b;rw[Y]at q;exact q.at λo e=>eQ _<|eQ _<|eQ _ e
 have g2:mH (kW d z f.heap a b) (f.heap.objs.size+2) (.ref f.heap.objs.size) (.ref<|f.heap.objs.size+1):=by have q:_=dV (xF (.ref f.heap.objs.size)<|.ref<|f.heap.objs.size+1):=fv (fN (fN f.heap<|mG d a)<|mG z b) (o:=xF (.ref f.heap.objs.size)<|.ref<|f.heap.objs.size+1) rfl;rw[u]at q;exact eQ _<|eQ _ q
 have g3:mH (kW d z f.heap a b) (f.heap.objs.size+3) .none .none:=by have q:_=dV (xF .none .none):=fv (fN (fN (fN f.heap<|mG d a)<|mG z b)<|xF (.ref f.heap.objs.size)<|.ref<|f.heap.objs.size+1) (o:=xF .none .none) rfl;rw[w]at q;exact eQ _ q
 have O:nv (kW d z f.heap a b) (f.heap.objs.size+4) (f.heap.objs.size+2) (f.heap.objs.size+3) .none:=by have q:=fv (fN (fN (fN (fN f.heap<|mG d a)<|mG z b)<|xF (.ref f.heap.objs.size)<|.ref<|f.heap.objs.size+1)<|xF .none .none) (o:=WD (f.heap.objs.size+2)<|f.heap.objs.size+3) rfl;rw[y4]at q;exact q
 refine⟨⟨_,O,rfl⟩,wpAny_pyIter_zip (s:={f with heap:=kW d z f.heap a b}) O ?_⟩;have y:Inv X i x j {f with heap:=kW d z f.heap a b,toks:=f.toks}:=B.kept keep;have nn : ∀m:Nat,f.heap.objs.size≠f.heap.objs.size+m+1:=λm=>by omega
 have J : ∀m:Nat,a≠f.heap.objs.size+m:=λm=>fF<|fg la<|gc _ m;have M : ∀m:Nat,b≠f.heap.objs.size+m:=λm=>fF<|fg lb<|gc _ m;have g : ∀m n:Nat,m≠n->(f.heap.objs.size+m:Nat)≠f.heap.objs.size+n:=λm n h=>by omega
 have D:rd (f.heap.objs.size+4) (f.heap.objs.size+2) (f.heap.objs.size+3) f.heap.objs.size (f.heap.objs.size+1) a b:=
  ⟨g 2 4 ⋯,g 3 4 ⋯,g 0 4 ⋯,g 1 4 ⋯,g 2 3 ⋯,g 2 0 ⋯,g 2 1 ⋯,g 3 0 ⋯,g 3 1 ⋯,g 0 1 ⋯,
   J 4,J 3,J 0,J 1,M 4,M 3,M 0,M 1⟩
 refine⟨_,[f.heap.objs.size+4,f.heap.objs.size+2,f.heap.objs.size+3,f.heap.objs.size,f.heap.objs.size+1],_,_,j,rfl,y,QJ d z D,⟨O,g2,⟨_,_,g3⟩,Z,g1⟩,λc l=>?_,q⟩;have k:f.heap.objs.size<=c:=by
  simp only[eY,fD,or_false]at l;rcases l with rfl | rfl | rfl | rfl | rfl
  ·exact gc _ _
  ·exact gc _ _
  ·exact gc _ _
  ·exact eW _
  ·exact gc _ _
 exact B.pf k<|B.i5.fresh k
noncomputable def rV(k:Sk)(K:eO)(a:g6):It:=match k with
 | .L=>p7 K a
 | .T=>rW K a
noncomputable def dQ(K:eO)(g:TE):TI:=λe H R=>g e H λx b=>∃a k,x = .ref a/\(∃d,mz k K b a d)/\R (rV k K a) b
theorem YX(B:PE X l tl):PI X tg l (dQ X.K tl):=by
 intro f s j H R I h;refine hR (B f s j H _ I h) λv g J=>?_;obtain⟨x,i,d,M,O⟩:=J;obtain⟨a,k,e,⟨r,U⟩,q⟩:=O;subst e;cases M;have z : ∀b ∈ [g.heap.objs.size],ZO X f i b:=λb W=>by
  have e:b=g.heap.objs.size:=by simpa using W
  subst e;exact d.pf (eW _)<|d.i5.fresh<|eW _
 obtain⟨Y,n,p,m⟩:=d.sq U;cases k with
 | L=>exact lR p ⟨g.heap.objs.size,[g.heap.objs.size],_,_,i,rfl,d.kept (t':=g.toks) λb o e=>eQ _ e,yY a _,⟨_,fv _ rfl,rfl,rfl⟩,z,q⟩
 | T=>exact wpAny_pyIter_tuple p ⟨g.heap.objs.size,[g.heap.objs.size],_,_,i,rfl,d.kept (t':=g.toks) λb o e=>eQ _ e,Zs a _,⟨_,fv _ rfl,rfl,rfl⟩,z,q⟩
section
variable{P:ma}{w:j1}{H:Hp}{h:h9}{a:g6}
theorem WZ(ok:ml P w H h)(e:Rd H a u):mr P w H h a u:=e.ok ok
theorem aD(ok:ml P w H h)(e:Rd H a (.dK nr)):nr.length<=lV/\(a==pV)=f9/\∃g,KV nr g/\h.DictOf (yF P w) a g:=
 show mr P w H h a (.dK nr)from WZ ok e
theorem aE(ok:ml P w H h)(e:H a=dV (.dK nr)):nr.length<=lV/\(a==pV)=f9/\∃g,KV nr g/\h.DictOf (yF P w) a g:=aD ok<|.inl e
end
end L2
namespace DL
open PySem PySem.Spec PyProof.Rows L2
noncomputable def rR:List Str:=["NoPrime","Nought","NoTable","NoWidths","NoRow","Unlike","TooMany","NoTurn","NoLine","Nothing","NoArrow","NoText","NoRoom"]
noncomputable def VV(K:eO)(c:Str):Option g6:=match iN K mQ c with
 | some (dV (.ref C))=>dV C
 | _=>f6
noncomputable def cR(K:eO)(C:g6):Bool:=
 ["int","bool","str","tuple","list"].all (λt=>gm K (.ref C) (.type t)==dV f9) && gm K (.ref C) (.type "ValueError")==dV e6 &&
 iw K (.ref C) "__getattribute__" == dV (dV (.builtin "BaseException.__getattribute__")) && iw K (.ref C) "__getattr__" == dV f6 &&
 iw K (.ref C) "__class__" == dV (dV (.builtin "object.__class__")) && PySem.W.mroIn K C (.type "object")==dV e6 && PySem.W.mroIn K C (.type "BaseException")==dV e6 &&
 PySem.W.specialIn K (.builtin "object.__class__") "__get__" == dV (dV (.builtin "getset_descriptor.__get__")) && PySem.W.takesIn K (.builtin "object.__class__")==dV e6 &&
 (PySem.W.clsIn K C).any (λd=> !d.hasDel) && PySem.W.typeIn K (.ref C)==dV (.type "type")
noncomputable def cS(K:eO):Bool:=match VV K "SplitError" with
 | some S=>rR.all λc=>match VV K c with
  | some C=>cR K C && gm K (.ref C) (.ref S)==dV e6 && rR.all λd=>match VV K d with
   | some z=>gm K (.ref C) (.ref z)==dV (c==d)
   | none=>f9
  | none=>f9
 | none=>f9
noncomputable def dZ(h:h9)(a:g6)(C:g6):Prop:=∃o b,h.get? a=dV o/\o.cls = .ref C/\o.data = .fields b
structure rb(K:eO)(H:Hp)(c:Str)(n:Option Int)(a:g6):Prop where
 all:cS K=e6
 mem:c∈rR
 ex : ∃C φ,VV K c=dV C/\H a=dV (.ext φ)/\(∀h,φ h->dZ h a C)/\
  match n with
  | none=>True
  | some i=>∃d,(∀h,φ h->∃o,h.get? a=dV o/\o.dict=dV d)/\H d=dV (.xd [(if c==("NoRoom" : Str)then "room" else "at",.int i)])
theorem rb.mono{K:eO}{H g:Hp}{c:Str}{n:Option Int}{a:g6}(e : ∀b o,H b=dV o->g b=dV o)(h:rb K H c n a):rb K g c n a:=by
 obtain⟨f,j,C,k,B,I,J,z⟩:=h;refine⟨f,j,C,k,B,e _ _ I,J,?_⟩;cases n with
 | none=>exact z
 | some i=>obtain⟨d,M,O⟩:=z;exact⟨d,M,e _ _ O⟩
abbrev St:=L2.St
noncomputable def ai:D->Option Key
 | .int i=>dV (.inl i)
 | .str x=>dV (.inr x)
 | _=>f6
noncomputable def X2:List D->Option (List Key)
 | []=>dV []
 | d::ds=>(ai d).bind λk=>(X2 ds).map λr=>k::r
noncomputable def o3(H:Hp)(a:g6)(g:List D)(xs:List V):Prop:=∃b,X2 g=dV b/\b.length=xs.length/\H a=dV (.dK<|b.zip xs)
noncomputable def WI(k:List Int):Int:=reduceHash<|Builtin.Tuple.tupleHashOf<|k.map hashInt
noncomputable def eh(o:mI)(xs:List (List Int×g6×hA)):Prop:=o.ExactDict/\∃a d,o.data = .dict a d/\a.toList=xs.map (λx=>⟨WI x.1,.ref x.2.1,x.2.2⟩)/\(xs.map (·.1)).Nodup
def rf(a:g6)(o:mI):HO:= .ext λh=>h.get? a=dV o
noncomputable def o4(K:eO)(H:Hp)(a:g6)(g:List (List Int))(ys:List V):Prop:=
 (a==pV)=f9/\∃o b,H a=dV (rf a o)/\eh o b/\b.map (·.1)=g/\b.length<=lV/\(∀x∈b,i3 K H x.2.1<|x.1.map V.int)/\i0 ys (b.map (·.2.2))
mutual
def Rep(K:eO)(H:Hp):D->V->Prop
 | .i4,v=>v = .i4
 | .bl b,v=>v = .bl b
 | .int i,v=>v = .int i
 | .str x,v=>v = .str x
 | .tup ds,v=>∃a d,v = .ref a/\i3 K H a d/\g9 K H ds d
 | .lst ds,v=>∃a d,v = .ref a/\i2 K H a d/\g9 K H ds d
 | .mn ks vs,v=>∃a d,v = .ref a/\o3 H a ks d/\g9 K H vs d
 | .md ks vs,v=>∃a d,v = .ref a/\o4 K H a ks d/\g9 K H vs d
def g9(K:eO)(H:Hp):List D->List V->Prop
 | [],xs=>xs=[]
 | d::ds,xs=>∃x r,xs=x::r/\Rep K H d x/\g9 K H ds r
end
theorem mE{K:eO}{H g:Hp}{a:g6}{xs:List V}(e:i1 H g)(h:i3 K H a xs):i3 K g a xs:=by
 rcases h with(h | ⟨o,h⟩) | h
 ·exact .inl<|.inl<|e _ _ h
 ·exact .inl<|.inr ⟨o,e _ _ h⟩
 ·exact .inr h
theorem vb{k:Sk}{K:eO}{H g:Hp}{a:g6}{xs:List V}(e:i1 H g)(h:mz k K H a xs):mz k K g a xs:=by
 cases k
 ·exact e.seq h
 ·exact mE e h
mutual
theorem Rep.mono{K:eO}{H g:Hp}(e:i1 H g) : ∀{d:D} {v:V},Rep K H d v->Rep K g d v
 | .i4,_,h=>h
 | .bl _,_,h=>h
 | .int _,_,h=>h
 | .str _,_,h=>h
 | .tup ds,v,h=>by obtain⟨a,b,f,j,i⟩:=(show ∃a b,v = .ref a/\i3 K H a b/\g9 K H ds b from h);exact(show ∃a b,v = .ref a/\i3 K g a b/\g9 K g ds b from⟨a,b,f,mE e j,g9.mono e i⟩)
 | .lst ds,v,h=>by obtain⟨a,b,f,j,i⟩:=(show ∃a b,v = .ref a/\i2 K H a b/\g9 K H ds b from h);exact(show ∃a b,v = .ref a/\i2 K g a b/\g9 K g ds b from⟨a,b,f,e.seq j,g9.mono e i⟩)
 | .mn ks vs,v,h=>by obtain⟨a,b,f,⟨k,z,B,I⟩,i⟩:=(show ∃a b,v = .ref a/\o3 H a ks b/\g9 K H vs b from h);exact(show ∃a b,v = .ref a/\o3 g a ks b/\g9 K g vs b from⟨a,b,f,⟨k,z,B,e _ _ I⟩,g9.mono e i⟩)
 | .md ks vs,v,h=>by obtain⟨a,b,f,⟨z,o,l,B,I,J,M,O,R⟩,i⟩:=(show ∃a b,v = .ref a/\o4 K H a ks b/\g9 K H vs b from h);exact(show ∃a b,v = .ref a/\o4 K g a ks b/\g9 K g vs b from⟨a,b,f,⟨z,o,l,e _ _ B,I,J,M,λx U=>mE e<|O x U,R⟩,g9.mono e i⟩)
theorem g9.mono{K:eO}{H t:Hp}(e:i1 H t) : ∀{g:List D} {xs:List V},g9 K H g xs->g9 K t g xs
 | [],_,h=>h
 | d::g,xs,h=>by obtain⟨x,r,a,b,f⟩:=(show ∃x r,xs=x::r/\Rep K H d x/\g9 K H g r from h);exact(show ∃x r,xs=x::r/\Rep K t d x/\g9 K t g r from⟨x,r,a,Rep.mono e b,g9.mono e f⟩)
end
section
variable{K:eO}{H:Hp}
theorem g9.nil:g9 K H [] []:=(show([]:List V)=[]from rfl)
theorem g9.cons(h:Rep K H d x)(t:g9 K H ds xs):g9 K H (d::ds) (x::xs):=⟨x,xs,rfl,h,t⟩
theorem g9.nD(h:g9 K H [] xs):xs=[]:=h
theorem g9.m8(h:g9 K H (d::ds) xs) : ∃x r,xs=x::r/\Rep K H d x/\g9 K H ds r:=h
theorem g9.length : ∀{g:List D} {xs:List V},g9 K H g xs->xs.length=g.length
 | [],xs,h=>by rw[h.nD];rfl
 | d::g,xs,h=>by obtain⟨x,r,e,_,t⟩:=h.m8;rw[e,gN,gN,g9.length t]
theorem g9.get : ∀{g:List D} {xs:List V} {i:Nat} {d:D},g9 K H g xs->g[i]? = dV d->∃x,xs[i]? = dV x/\Rep K H d x
 | [],_,_,_,_,e=>by simp at e
 | c::g,xs,0,d,h,e=>by obtain⟨x,r,a,b,_⟩:=h.m8;simp at e;subst e;exact⟨x,by rw[a];rfl,b⟩
 | c::g,xs,i+1,d,h,e=>by obtain⟨x,r,a,_,t⟩:=h.m8;obtain⟨y,z,B⟩:=g9.get (i:=i) (d:=d) t (by simpa using e);exact⟨y,by rw[a];simpa using z,B⟩
theorem g9.pL{g:List D}{xs:List V}{i:Nat}{x:V}(h:g9 K H g xs)(e:xs[i]? = dV x) : ∃d,g[i]? = dV d/\Rep K H d x:=by
 have b:i<g.length:=by rw[<- h.length];exact(eU.mp e).1
 obtain⟨y,a,r⟩:=h.get<|eT b;rw[e]at a;cases a;exact⟨_,eT b,r⟩
theorem g9.append : ∀{z C:List D} {xs ys:List V},g9 K H z xs->g9 K H C ys->g9 K H (z++C) (xs++ys)
 | [],_,xs,_,h,g=>by rw[h.nD];exact g
 | d::z,C,xs,ys,h,g=>by obtain⟨x,r,e,a,t⟩:=h.m8;rw[e];exact g9.cons a<|g9.append t g
theorem g9.drop : ∀{g:List D} {xs:List V} (n:Nat),g9 K H g xs->g9 K H (g.drop n) (xs.drop n)
 | _,_,0,h=>h
 | [],xs,n+1,h=>by rw[h.nD];exact g9.nil
 | d::g,xs,n+1,h=>by obtain⟨x,r,e,_,t⟩:=h.m8;rw[e];exact g9.drop n t
theorem g9.take : ∀{g:List D} {xs:List V} (n:Nat),g9 K H g xs->g9 K H (g.take n) (xs.take n)
 | _,_,0,h=>by simp;exact g9.nil
 | [],xs,n+1,h=>by rw[h.nD];exact g9.nil
 | d::g,xs,n+1,h=>by obtain⟨x,r,e,a,t⟩:=h.m8;rw[e];exact g9.cons a<|g9.take n t
end
structure Ext(H0 H nK H':Hp):Prop where
 s0:i1 H0 nK
 s1:i1 H H'
 sub:i1 nK H'
 new : ∀a,H0 a=f6->H a≠f6->nK a=f6
theorem Ext.refl(s:i1 H0 H):Ext H0 H H0 H:=⟨i1.refl _,i1.refl _,s,λ_ h _=>h⟩
theorem Ext.trans(a:Ext H0 H H1 G1)(b:Ext H1 G1 H2 G2):Ext H0 H H2 G2:=
 ⟨a.s0.trans b.s0,a.s1.trans b.s1,b.sub,λc e d=>b.new c (a.new c e d) (by
  cases q:H c with
  | none=>exact absurd q d
  | some o=>rw[a.s1 c o q];simp)⟩
theorem zC(h:H p=f6)(o:HO):i1 H (upd H p o):=λb u q=>by rw[zx (zM q h)];exact q
theorem je(s:i1 H0 H)(h:H p=f6):H0 p=f6:=s.free h
theorem Jc(s:i1 H0 H):i1 (upd H0 p o) (upd H p o):=λb u q=>by
 by_cases e:b=p
 ·subst e;rw[zu]at q ⊢;exact q
 ·rw[zx e]at q ⊢;exact s b u q
theorem Ext.alloc(s:i1 H0 H)(h:H p=f6)(o:HO):Ext H0 H (upd H0 p o) (upd H p o):=
 ⟨zC (je s h) o,zC h o,Jc s,λa b d=>by rw[zx (λe=>d<|by rw[e];exact h)];exact b⟩
theorem Ext.hide(s:i1 H0 H)(h:H p=f6)(o:HO):Ext H0 H H0 (upd H p o):=
 ⟨i1.refl _,zC h o,s.trans<|zC h o,λa b _=>b⟩
theorem Ext.show(e:Ext H0 H nK H')(g:H a=f6)(t:nK a=f6)(B:H' a=dV o)(s:i1 H0 H):Ext H0 H (upd nK a o) H':=
 ⟨e.s0.trans<|zC t o,e.s1,λb u q=>by
  by_cases z:b=a
  ·subst z;rw[zu]at q;rw[B];exact q
  ·rw[zx z]at q;exact e.sub b u q,λb I d=>by
  rw[zx (λz=>d<|by rw[z];exact g)];exact e.new b I d⟩
structure ot(K:eO)(H0 H:Hp)(rows:List (List D))(a:g6)(bs:List g6):Prop where
 a0:H0 a=f6
 ha:H a=dV (.lst<|bs.map V.ref)
 nd:(a::bs).Nodup
 len:bs.length=rows.length
 row : ∀(k:Nat) b row,bs[k]? = dV b->rows[k]? = dV row->H0 b=f6/\∃xs,H b=dV (.lst xs)/\g9 K H0 row xs
theorem ot.at{K:eO}{t H:Hp}{g:List (List D)}{a:g6}{bs:List g6}(n:ot K t H g a bs){b:g6}(d:b∈a::bs):t b=f6/\∃xs,H b=dV (.lst xs):=by
 rcases eY.mp d with rfl | d
 ·exact⟨n.a0,_,n.ha⟩
 ·obtain⟨k,z⟩:=List.getElem?_of_mem d
  have B:=(eU.mp z).1;rw[n.len]at B;obtain⟨e,xs,f,_⟩:=n.row k b _ z<|eT B;exact⟨e,xs,f⟩
theorem ot.move{K:eO}{G H t C:Hp}{g:List (List D)}{a:g6}{bs:List g6}(n:ot K G H g a bs)(s:i1 G t)(d : ∀b∈a::bs,t b=f6)(h : ∀b∈a::bs,C b=H b):ot K t C g a bs:=
 ⟨d a fw,by rw[h a fw];exact n.ha,n.nd,n.len,λk b row z I=>by obtain⟨_,f,e,J⟩:=n.row k b row z I;have B:b∈a::bs:=ft _<|gJ z;exact⟨d b B,f,by rw[h b B];exact e,J.mono s⟩⟩
noncomputable def mM(K:eO)(t H:Hp)(g:St)(γ:Ctx):Prop:=
 (∀(i:Nat) b,γ[i]? = dV (.nest b)->∃a bs,g[i]? = dV (dV (.ref a))/\ot K t H b a bs/\∀(j:Nat) e c,γ[j]? = dV (.own e)->g[j]? = dV (dV (.ref c))->c∉a::bs)/\
 ∀(i j:Nat) d z,γ[i]? = dV (.nest d)->γ[j]? = dV (.nest z)->i=j
theorem mM.pj{K:eO}{t H:Hp}{C:St}{γ:Ctx}(h : ∀(i:Nat) g,γ[i]? ≠ dV (.nest g)):mM K t H C γ:=⟨λi g e=>absurd e<|h i g,λi j d z e=>absurd e<|h i d⟩
theorem mM.move{K:eO}{G H t I:Hp}{C:St}{γ:Ctx}(n:mM K G H C γ)(s:i1 G t)(h : ∀(i:Nat) g a bs,γ[i]? = dV (.nest g)->C[i]? = dV (dV (.ref a))->ot K G H g a bs->(∀(j:Nat) J c,γ[j]? = dV (.own J)->C[j]? = dV (dV (.ref c))->c∉a::bs)->∀b∈a::bs,t b=f6/\I b=H b):mM K t I C γ:=
 ⟨λi g e=>by obtain⟨a,bs,f,k,d⟩:=n.1 i g e;exact⟨a,bs,f,k.move s (λb z=>(h i g a bs e f k d b z).1)<|λb z=>(h i g a bs e f k d b z).2,d⟩,n.2⟩
theorem mM.ext{K:eO}{C H g t:Hp}{G:St}{γ:Ctx}(n:mM K C H G γ)(e:Ext C H g t):mM K g t G γ:=
 n.move e.s0 λi f a bs _ _ h _ b z=>by obtain⟨B,j,d⟩:=h.at z;exact⟨e.new b B (by rw[d];simp),by rw[e.s1 b _ d,d]⟩
structure RC(K:eO)(H0 H:Hp)(σ:St)(γ:Ctx):Prop where
 sub:i1 H0 H
 len:σ.length=γ.length
 val : ∀(i:Nat) d,γ[i]? = dV (.val d)->∃v,σ[i]? = dV (dV v)/\Rep K H0 d v
 own : ∀(i:Nat) ds,γ[i]? = dV (.own ds)->∃a xs,σ[i]? = dV (dV (.ref a))/\H0 a=f6/\H a=dV (.lst xs)/\g9 K H0 ds xs
 ne : ∀(i j:Nat) a ds es,γ[i]? = dV (.own ds)->γ[j]? = dV (.own es)->σ[i]? = dV (dV (.ref a))->σ[j]? = dV (dV (.ref a))->i=j
 nZ:mM K H0 H σ γ
theorem RC.ext{K:eO}{C H g t:Hp}{G:St}{γ:Ctx}(r:RC K C H G γ)(e:Ext C H g t):RC K g t G γ:=
 ⟨e.sub,r.len,λi d h=>let ⟨v,b,f⟩:=r.val i d h;⟨v,b,f.mono e.s0⟩,
  λi j h=>let ⟨a,k,b,f,z,B⟩:=r.own i j h;⟨a,k,b,e.new a f (by rw[z];simp),e.s1 _ _ z,B.mono e.s0⟩,r.ne,r.nZ.ext e⟩
noncomputable def tV(K:eO)(f:CO D):TE:=λh H Q=>∃e g d,RC K e H h g/\f g=dV d/\∀v b a,Ext e H a b->Rep K a d v->Q v b
noncomputable def tQ(K:eO)(f:CO (Sk×List D)):TE:=λj H Q=>∃g i k h,RC K g H j i/\f i=dV (k,h)/\∀a e d b,Ext g H b d->mz k K d a e->(k = .T->i3 K b a e)->g9 K b h e->Q (.ref a) d
noncomputable def tO(K:eO)(f:CO (List D)):TE:=λj H Q=>∃e i g,RC K e H j i/\f i=dV g/\
 ∀a h d b,Ext e H b d->H a=f6->b a=f6->d a=dV (.lst h)->g9 K b g h->Q (.ref a) d
noncomputable def tT(K:eO)(f:CO Bool):TT:=λh H Q=>∃e g b,RC K e H h g/\f g=dV b/\∀d a,Ext e H a d->Q b d
noncomputable def tA(K:eO)(f:CO (List D)):TA:=λi H Q=>∃d h e,RC K d H i h/\f h=dV e/\∀g b a,Ext d H a b->g9 K a e g->Q g b
abbrev PV(X:Cx)(e:hH)(f:CO D):Prop:=PE X e (tV X.K f)
abbrev PQ(X:Cx)(e:hH)(f:CO (Sk×List D)):Prop:=PE X e (tQ X.K f)
abbrev PO(X:Cx)(e:hH)(f:CO (List D)):Prop:=PE X e (tO X.K f)
abbrev mO(X:Cx)(e:hH)(f:CO Bool):Prop:=PT X e (tT X.K f)
abbrev ow(X:Cx)(e:hH)(f:CO Bool):Prop:=PW X e (tT X.K f)
abbrev oa(X:Cx)(es:List hH)(f:CO (List D)):Prop:=PA X es (tA X.K f)
theorem jm(h:PE X e t)(i : ∀g H Q,t' g H Q->t g H Q):PE X e t':=λa s g H Q I q=>h a s g H Q I<|i g H Q q
theorem Jp(h:PT X e t)(i : ∀g H Q,t' g H Q->t g H Q):PT X e t':=λa s g H Q I q=>h a s g H Q I<|i g H Q q
theorem YI(h:PW X e t)(i : ∀g H Q,t' g H Q->t g H Q):PW X e t':=λd a s g H Q I q=>h d a s g H Q I<|i g H Q q
theorem Y8(h:PA X es t)(i : ∀g H Q,t' g H Q->t g H Q):PA X es t':=λpos a s g H Q I q=>h pos a s g H Q I<|i g H Q q
theorem yz{X:Cx}{st:jz}{t t':TS}(h:PS X st t)(i : ∀D g H,t' D g H->t D g H):PS X st t':=λa s g H D I q=>h a s g H D I<|i D g H q
theorem XW{X:Cx}{st:List jz}{t t':TS}(h:mN X st t)(i : ∀D g H,t' D g H->t D g H):mN X st t':=λa s g H D I q=>h a s g H D I<|i D g H q
theorem JA(h:PI X tg e t)(i : ∀g H R,t' g H R->t g H R):PI X tg e t':=λa s g H R I q=>h a s g H R I<|i g H R q
theorem q8(h:n<=lim):n<=lV:=fU h ⋯
section
variable{X:Cx}{e a b c:hH}{pos:i7}
theorem PV.q(h:PV X e f):PQ X e (zN f):=jm h λt H Q J=>by
 obtain⟨s,p,k,i,rc,B,q⟩:=J;unfold zN at B;cases e1:f p with
 | none=>rw[e1]at B;cases B
 | some d=>
  rw[e1]at B;refine⟨s,p,d,rc,e1,λv o b ext r=>?_⟩;cases d with
  | tup m=>
   obtain⟨l,I⟩:k = .T/\i=m:=by simp[ju]at B;exact⟨B.1.symm,B.2.symm⟩
   subst l I;obtain⟨a,g,rfl,j,n⟩:=(show ∃a g,v = .ref a/\i3 X.K b a g/\g9 X.K b i g from r);exact q a g o b ext (mE ext.sub j) (λ_=>j) n
  | lst m=>
   obtain⟨l,I⟩:k = .L/\i=m:=by simp[ju]at B;exact⟨B.1.symm,B.2.symm⟩
   subst l I;obtain⟨a,g,rfl,j,n⟩:=(show ∃a g,v = .ref a/\i2 X.K b a g/\g9 X.K b i g from r);exact q a g o b ext (ext.sub.seq j) (λz=>nomatch z) n
  | _=>simp[ju]at B
theorem PO.v(h:PO X e f):PV X e (vN f):=jm h λo H Q J=>by
 obtain⟨j,i,d,rc,z,q⟩:=J;unfold vN at z;cases e1:f i with
 | none=>rw[e1]at z;cases z
 | some b=>
  rw[e1]at z;cases z;refine⟨j,i,b,rc,e1,λa m n k ext l g M r=>?_⟩;exact q _ _ _ (ext.show l g M rc.sub) (show ∃B I,V.ref a = .ref B/\i2 X.K _ B I/\g9 X.K _ b I from⟨a,m,rfl,i2.of zu,r.mono<|zC g _⟩)
theorem PO.q(h:PO X e f):PQ X e (jS f):=jm h λs H Q B=>by
 obtain⟨j,g,k,m,rc,d,q⟩:=B;unfold jS at d;cases e1:f g with
 | none=>rw[e1]at d;cases d
 | some n=>
  rw[e1]at d;cases d;exact⟨j,g,_,rc,e1,λa l i b ext o p I r=>q a l i b ext (i2.of I) (λz=>nomatch z) r⟩
theorem YJ(i:Nat)(h:PE X e (Kk i)):PV X e (zh i):=jm h λm H Q B=>by
 obtain⟨b,j,d,rc,z,q⟩:=B;unfold zh at z;cases e1:j[i]? with
 | none=>rw[e1]at z;cases z
 | some c=>
  rw[e1]at z;cases c with
  | val k=>
   cases z;obtain⟨v,f,g⟩:=rc.val i d e1;exact⟨v,f,q v H b (Ext.refl rc.sub) g⟩
  | no=>cases z
  | own l=>cases z
  | nest a=>cases z
theorem YT(i:Nat)(h:PE X e (Kk i)):PQ X e (zk i):=jm h λr H Q O=>by
 obtain⟨f,p,k,g,rc,B,q⟩:=O;unfold zk at B;cases e1:p[i]? with
 | none=>rw[e1]at B;cases B
 | some c=>
  rw[e1]at B;cases c with
  | no=>cases B
  | nest o=>cases B
  | own j=>
   cases B;obtain⟨a,b,m,n,R,U⟩:=rc.own i g e1;exact⟨_,m,q a b H f (Ext.refl rc.sub) (i2.of R) (λz=>nomatch z) U⟩
  | val d=>
   obtain⟨v,m,n⟩:=rc.val i d e1;refine⟨v,m,?_⟩;cases d with
   | tup j=>
    obtain⟨l,J⟩:k = .T/\g=j:=by simp[xK,ju]at B;exact⟨B.1.symm,B.2.symm⟩
    subst l J;obtain⟨a,b,rfl,I,M⟩:=(show ∃a b,v = .ref a/\i3 X.K f a b/\g9 X.K f g b from n);exact q a b H f (Ext.refl rc.sub) (mE rc.sub I) (λ_=>I) M
   | lst j=>
    obtain⟨l,J⟩:k = .L/\g=j:=by simp[xK,ju]at B;exact⟨B.1.symm,B.2.symm⟩
    subst l J;obtain⟨a,b,rfl,I,M⟩:=(show ∃a b,v = .ref a/\i2 X.K f a b/\g9 X.K f g b from n);exact q a b H f (Ext.refl rc.sub) (rc.sub.seq I) (λz=>nomatch z) M
   | _=>simp[xK,ju]at B
theorem yw(h:PE X e (tC v))(r : ∀H,Rep X.K H d v):PV X e (zl d):=jm h λg H Q z=>by obtain⟨a,f,b,rc,B,q⟩:=z;cases B;exact q v H a (Ext.refl rc.sub)<|r a
theorem zd:PV X (.Constant (.int i) j pos) (zl<|.int i):=yw Y5 λ_=>(show V.int i = .int i from rfl)
theorem xE:PV X (.Constant (.bool x) j pos) (zl<|.bl x):=yw aa λ_=>(show V.bl x = .bl x from rfl)
theorem kn:PV X (.Constant (.str x) j pos) (zl<|.str x):=yw Y0 λ_=>(show V.str x = .str x from rfl)
noncomputable def mB(K:eO)(r:R2)(F:D->D->Option D):Prop:=∀b H x y f z d Q,i1 b H->Rep K b f x->Rep K b z y->F f z=dV d->(∀v e a,Ext b H a e->Rep K a d v->Q v e)->r x y H Q
theorem zb(h:o.bind f=dV y) : ∃x,o=dV x/\f x=dV y:=by
 cases o with
 | none=>cases h
 | some x=>exact⟨x,rfl,h⟩
theorem wa{K:eO}{r:R2}{F:D->D->Option D}{t C:CO D}(I:mB K r F) : ∀g H Q,tV K (zo F t C) g H Q->pA r (tV K t) (tV K C) g H Q:=λg H Q J=>by obtain⟨h,e,d,rc,z,q⟩:=J;obtain⟨x,j,z⟩:=zb z;obtain⟨y,k,z⟩:=zb z;refine⟨h,e,x,rc,j,λM n O b R=>⟨O,e,y,rc.ext b,k,λU i W B Y=>?_⟩⟩;exact I W i M U x y d Q B.sub (R.mono B.s0) Y z λv f a m l=>q v f a (b.trans<|B.trans m) l
theorem yf(d:lY X (nN op) r)(z:mB X.K r F)(g:PV X a fa)(B:PV X b fb):PV X (.BinOp a op b pos) (zo F fa fb):=
 jm (W9 d g B) (wa z)
theorem wW(d:lY X (mL op) r)(z:mB X.K r F)(g:PV X a fa)(B:PV X b fb)(t:oy op b=f9):PV X (.Compare a [op] [b] pos) (zo F fa fb):=
 jm (JD d g B t) (wa z)
theorem kf{d:D}{b:Bool}(h:nM d=dV b):d = .bl b:=by cases d<;>simp[nM]at h;rw[h]
theorem vZ(B:lY X (mL op) r)(I:mB X.K r F)(t:PV X a fa)(J:PV X b fb)(C:oy op b=f9):mO X (.Compare a [op] [b] pos) (sB<|zo F fa fb):=
 Jp (Jo B t J C) λj H Q M=>by obtain⟨g,i,k,rc,z,q⟩:=M;obtain⟨d,h,z⟩:=zb z;refine wa I j H _ ⟨g,i,d,rc,h,λv f e x r=>?_⟩;rw[kf z]at r;exact⟨k,r,q f e x⟩
theorem zI{f:CO D}(h:PV X e f)(I : ∀B,ph e X.env B=(do let v <- B;standAt e.pos;holding [v] (truthy v)):=by intro _;rfl):mO X e (sB f):=
 Jp (YN h I) λl H Q J=>by obtain⟨g,j,k,rc,z,q⟩:=J;obtain⟨d,i,z⟩:=zb z;refine⟨g,j,d,rc,i,λv b a x r=>?_⟩;rw[kf z]at r;exact⟨k,r,q b a x⟩
theorem QV(h:mO X a f):ow X (.BoolOp .And [a] pos) f:=KC h
theorem jx(h:mO X a f):ow X (.BoolOp .Or [a] pos) f:=YG h
theorem KB{f g:CO Bool}{qT:List hH}(t:mO X a f)(z:ow X (.BoolOp .And (b::qT) pos) g):ow X (.BoolOp .And (a::b::qT) pos) (YC f g):=
 YI (YH t z) λn H Q B=>by
  obtain⟨j,h,k,rc,d,q⟩:=B;obtain⟨c,m,d⟩:=zb d;refine⟨j,h,c,rc,m,λi e x=>?_⟩;cases c with
  | true=>rw[GJ rfl]at d ⊢;exact⟨e,h,k,rc.ext x,d,λl I J=>q l I<|x.trans J⟩
  | false=>rw[GY fm]at d ⊢;cases d;exact q i e x
theorem z9{f g:CO Bool}{qT:List hH}(t:mO X a f)(z:ow X (.BoolOp .Or (b::qT) pos) g):ow X (.BoolOp .Or (a::b::qT) pos) (xc f g):=
 YI (W3 t z) λn H Q B=>by
  obtain⟨j,h,k,rc,d,q⟩:=B;obtain⟨c,m,d⟩:=zb d;refine⟨j,h,c,rc,m,λi e x=>?_⟩;cases c with
  | true=>rw[GJ rfl]at d ⊢;cases d;exact q i e x
  | false=>rw[GY fm]at d ⊢;exact⟨e,h,k,rc.ext x,d,λl I J=>q l I<|x.trans J⟩
theorem zG(t:mO X a f):mO X (.UnaryOp .Not a pos) (zW f):=
 Jp (YO t) λi H Q z=>by
  obtain⟨h,e,k,rc,d,q⟩:=z;unfold zW at d;cases e1:f e with
  | none=>rw[e1]at d;cases d
  | some c=>rw[e1]at d;cases d;exact⟨h,e,c,rc,e1,λg b x=>q g b x⟩
theorem xl(h:ow X e f):mO X e f:=h.pt
theorem qr(h:PV X a f):PV X (.BoolOp op [a] pos) f:=Y1 h
theorem qt{f g:CO D}{qT:List hH}(t:PV X a f)(B:PV X (.BoolOp .And (b::qT) pos) g):PV X (.BoolOp .And (a::b::qT) pos) (vV f g):=
 jm (Y6 t B) λn H Q I=>by
  obtain⟨k,i,d,rc,z,q⟩:=I;obtain⟨c,h,z⟩:=zb z;obtain⟨m,J,h⟩:=zb h;refine⟨k,i,m,rc,J,λv j e x r=>?_⟩;rw[kf h]at r;refine⟨c,r,?_⟩;cases c with
  | true=>rw[GJ rfl]at z ⊢;exact⟨e,i,d,rc.ext x,z,λM l O R U=>q M l O (x.trans R) U⟩
  | false=>rw[GY fm]at z ⊢;cases z;exact q _ j e x (show V.bl f9 = .bl f9 from rfl)
theorem XT(t:PV X a f):PV X (.UnaryOp .Not a pos) (VZ f):=
 jm (Y2 t) λj H Q B=>by
  obtain⟨i,g,d,rc,z,q⟩:=B;unfold VZ at z;cases e1:f g with
  | none=>rw[e1]at z;cases z
  | some e=>
   rw[e1]at z;refine⟨i,g,e,rc,e1,λv h b x r=>?_⟩;cases e with
   | bl c=>cases z;exact⟨c,r,q _ h b x<|show V.bl (!c) = .bl (!c)from rfl⟩
   | _=>cases z
theorem wV(O:mO X c k)(C:PV X a f)(R:PV X b g):PV X (.IfExp c a b pos) (WW k f g):=
 jm (Xh O C R) λn H Q U=>by
  obtain⟨j,i,d,rc,z,q⟩:=U;obtain⟨t,l,z⟩:=zb z;refine⟨j,i,t,rc,l,λm e x=>?_⟩;cases t with
  | true=>rw[GJ rfl]at z ⊢;exact⟨e,i,d,rc.ext x,z,λB h I J M=>q B h I (x.trans J) M⟩
  | false=>rw[GY fm]at z ⊢;exact⟨e,i,d,rc.ext x,z,λB h I J M=>q B h I (x.trans J) M⟩
theorem KR:oa X [] zF:=Y8 jQ λf H Q d=>by obtain⟨a,e,b,rc,z,q⟩:=d;cases z;exact q [] H a (Ext.refl rc.sub) g9.nil
theorem Xj(t:PV X e f)(B:oa X es g)(I:i6 (e::es) X.env=(f9,hI e X.env)::i6 es X.env:=by rfl):oa X (e::es) (zc f g):=
 Y8 (zX t B I) λo H Q J=>by
  obtain⟨i,b,n,rc,d,q⟩:=J;obtain⟨x,k,d⟩:=zb d;cases a:g b with
  | none=>rw[a]at d;cases d
  | some r=>
   rw[a]at d;cases d;exact⟨i,b,x,rc,k,λv m M h O=>⟨M,b,r,rc.ext h,a,λl j R z U=>q (v::l) j R (h.trans z)<|g9.cons (O.mono z.s0) U⟩⟩
theorem xk(h:oa X es f):PV X (.Tuple es g pos) (yt f):=
 jm (XY h) λn H Q M=>by
  obtain⟨i,l,d,rc,z,q⟩:=M;obtain⟨b,j,z⟩:=zb z;by_cases B:b.length<=lim
  ·rw[GJ B]at z;cases z
   refine⟨i,l,b,rc,j,λk m O g I=>⟨q8 (by rw[I.length];exact B),λp J=>?_⟩⟩;exact q _ _ _ (g.trans<|Ext.alloc g.sub J _) (show ∃a e,V.ref p = .ref a/\i3 X.K _ a e/\g9 X.K _ b e from⟨p,k,rfl,i3.of zu,I.mono<|zC (je g.sub J) _⟩)
  ·rw[GY B]at z;cases z
theorem kv(h:oa X es f):PO X (.List es pos) (qZ f):=
 jm (Y3 h) λl H Q O=>by
  obtain⟨b,j,d,rc,B,q⟩:=O;obtain⟨e,g,B⟩:=zb B;by_cases J:e.length<=lim
  ·rw[GJ J]at B;cases B
   refine⟨b,j,_,rc,g,λi k R a M=>⟨q8 (by rw[M.length];exact J),λp I=>?_⟩⟩;exact q p i _ R (a.trans<|Ext.hide a.sub I _) (by
    cases z:H p with
    | none=>rfl
    | some o=>rw[a.s1 p o z]at I;cases I) (je a.sub I) zu M
  ·rw[GY J]at B;cases B
end
noncomputable def eD(i:Nat)(f:CO D)(γ:Ctx):Option D:=(qk γ[i]?).bind λa=>(f<|γ.set i<|.val<|.lst a).bind λd=>if aA d=e6 then dV d else f6
noncomputable def dC(i:Nat)(f:CO Bool)(γ:Ctx):Option Bool:=(qk γ[i]?).bind λa=>f<|γ.set i<|.val<|.lst a
noncomputable def bM(i:Nat)(γ:Ctx):Option Fl:=(qk γ[i]?).map λ_=> .next (γ.set i<|.own [])
noncomputable def kN(g:List D):List D:=(eZ g.length).map λ(i:Nat)=>D.tup [.int i,g[i]?.getD .i4]
noncomputable def du(f:CO D)(γ:Ctx):Option (List D):=(f γ).bind λd=>match d with
 | .tup a=>dV (kN a)
 | _=>f6
noncomputable def JV:List D->Option (List Int)
 | []=>dV []
 | .int i::r=>(JV r).map λl=>i::l
 | _::_=>f6
noncomputable def bH(f:CO D)(g:CO (Sk×List D))(γ:Ctx):Option D:=(f γ).bind λd=>(g γ).bind λa=>(mF d).bind λi=>(JV a.2).map λl=> .bl (decide<|i∈l)
noncomputable def J3(k:Int):List Int->Option Nat
 | []=>f6
 | i::r=>if i=k then dV 0 else (J3 k r).map (· + 1)
noncomputable def eA(f g:CO D)(γ:Ctx):Option D:=(f γ).bind λd=>((g γ).bind mF).bind λk=>match d with
 | .tup a=>(JV a).bind λl=>(J3 k l).map λ(j:Nat)=>D.int (j:Int)
 | _=>f6
noncomputable def J9(T:Tg)(f:CO (List D))(γ:Ctx):List D->Option (List<|List D)
 | []=>dV []
 | d::ds=>(jT T d γ).bind λz=>(f z).bind λe=>(J9 T f γ ds).map λr=>e::r
noncomputable def bL(g:CO (List D))(T:Tg)(n:Nat)(t:List Nat)(f:CO (List D))(γ:Ctx):Option (List<|List D):=(g γ).bind λa=>if a.length<=lim then J9 T f (jH n t γ) a else f6
noncomputable def yK:Option Cell->Option (List<|List D)
 | some (.nest rows)=>dV rows
 | _=>f6
noncomputable def XQ(γ:Ctx)(j i:Nat)(r:List D):Ctx:=(γ.set j .no).set i (.own r)
noncomputable def Ze(j i:Nat)(g f:CO D)(γ:Ctx):List (List D)->Option (List<|List D)
 | []=>dV []
 | r::rs=>(f<|XQ γ j i r).bind λd=>((g<|XQ γ j i r).bind mF).bind λk=>(mC r.length k).bind λm=>(Ze j i g f γ rs).map λt=>r.set m d::t
noncomputable def WX(j i:Nat)(g f:CO D)(γ:Ctx):Option Fl:=(yK γ[j]?).bind λa=>if i=j\/γ.length<=i then f6 else (Ze j i g f γ a).map λd=> .next ((γ.set j<|.nest d).set i .no)
noncomputable def eB(i:Nat)(F:CO Fl)(γ:Ctx):Option Fl:=(qk γ[i]?).bind λa=>F<|γ.set i<|.val<|.lst a
noncomputable def dr(i:Nat)(F:CO Fl)(γ:Ctx):Option Fl:=(yK γ[i]?).bind λa=>F<|γ.set i<|.val<|.lst<|a.map D.lst
noncomputable def bE(is:List Nat)(f:CO D)(γ:Ctx):Option Fl:=(f γ).bind λd=>match d with
 | .lst a=>if a.length=is.length then dV (.next<|jf is a γ)else f6
 | _=>f6
noncomputable def k5:List D->Option (List Str)
 | []=>dV []
 | .str x::r=>(k5 r).map λl=>x::l
 | _::_=>f6
def zT(x:Str):Bool:=decide<|x.length<=1000
noncomputable def vU(f:CO D)(g:CO (Sk×List D))(γ:Ctx):Option D:=(f γ).bind λd=>(g γ).bind λa=>match d,a.1 with
 | .str sep,.L=>(k5 a.2).bind λl=>if l.length<=lim/\l.all zT=e6/\zT sep=e6 then dV (.str<|lP sep l)else f6
 | _,_=>f6
noncomputable def qS(f g:CO D)(γ:Ctx):Option D:=(f γ).bind λd=>((g γ).bind mF).bind λi=>match d with
 | .str z=>if zT z=e6 then (mC z.cps.toList.length i).bind λk=>z.cps.toList[k]?.map λc=> .str ⟨#[c]⟩else f6
 | _=>f6
noncomputable def Zw(f:CO D)(γ:Ctx):Option D:=(f γ).bind λd=>match d with
 | .str z=>if zT z=e6 then dV (.int z.length)else f6
 | _=>f6
noncomputable def dw(z I B J:Str)(f:CO D)(γ:Ctx):Option D:=(f γ).bind λd=>match d with
 | .str x=>if z=B then f6 else if x=z then dV (.str I)else if x=B then dV (.str J)else f6
 | _=>f6
noncomputable def dj(f g:CO D)(γ:Ctx):Option D:=((f γ).bind mF).bind λi=>((g γ).bind mF).map λj=> .int (if j<i then j else i)
abbrev Xn:=Str×Option Int
end DL
namespace DL
open PySem L2
open PySem.W (KasT kas_sort)
def XN(z:Str):List D:=z.cps.toList.map λc=>D.str ⟨#[c]⟩
noncomputable def bC(f:CO D)(γ:Ctx):Option (List D):=(f γ).bind λd=>match d with
 | .str z=>if zT z=e6 then dV (XN z)else f6
 | _=>f6
noncomputable def bI(f:CO D)(γ:Ctx):Option (List D):=(f γ).bind λd=>match d with
 | .str z=>if zT z=e6 then dV (kN<|XN z)else f6
 | _=>f6
noncomputable def XO(f:CO D)(γ:Ctx):Option (List D):=(f γ).bind λd=>match d with
 | .lst a=>dV (kN a)
 | _=>f6
noncomputable def ey(f:CO D)(g:CO (Sk×List D))(γ:Ctx):Option D:=(f γ).bind λd=>(g γ).bind λa=>match d with
 | .str x=>(k5 a.2).map λl=> .bl (l.any λy=>y==x)
 | _=>f6
noncomputable def ab:D->Option (Int×Int)
 | .tup [.int a,.int b]=>dV (a,b)
 | _=>f6
noncomputable def X0:List D->Option (List<|Int×Int)
 | []=>dV []
 | d::r=>(ab d).bind λp=>(X0 r).map λl=>p::l
noncomputable def dJ(x y:Int×Int):Bool:=if x.1=y.1 then decide (x.2<y.2)else decide (x.1<y.1)
noncomputable def bN{g:Type}(lt:Nat->Nat->Bool):KasT g->g
 | .ret a=>a
 | .ask i j k=>bN lt<|k<|lt i j
noncomputable def W8(g:List (Int×Int)):List Nat:=if g.length<2 then eZ g.length else (bN (λi j=>dJ (g.getD i (0,0))<|g.getD j (0,0))<|kas_sort g.length).toList
noncomputable def WR(g:List D):Option (List D):=(X0 g).bind λa=>if g.length<64 then dV ((W8 a).map λi=>g.getD i .i4)else f6
noncomputable def bD(f:CO (Sk×List D))(γ:Ctx):Option (List D):=(f γ).bind λa=>match a.1 with
 | .L=>WR a.2
 | _=>f6
end DL
namespace DL
open PySem L2
noncomputable def JW:List D->Option (List Int)
 | []=>dV []
 | .int i::r=>(JW r).map λl=>i::l
 | _::_=>f6
noncomputable def aF(g t:List D):Option D:=match JW g with
 | some a=>if g.length=t.length/\a.Nodup/\g.length<=lim then dV (.mn g t)else f6
 | none=>f6
open PySem.Spec PyProof.Rows
structure RS(K:eO)(E0 E H0 H:Hp)(σ:St)(γ:Ctx):Prop where
 rc:RC K H0 H σ γ
 ext:Ext E0 E H0 H
 fresh : ∀(i:Nat) ds a,γ[i]? = dV (.own ds)->σ[i]? = dV (dV (.ref a))->E a=f6
 nV : ∀(i:Nat) rows a xs,γ[i]? = dV (.nest rows)->σ[i]? = dV (dV (.ref a))->H a=dV (.lst xs)->E a=f6/\∀b,V.ref b∈xs->E b=f6
noncomputable def Sat(K:eO)(E0 E:Hp)(D:Ends):Fl->Prop
 | .next f=>∀e H b,RS K E0 E b H e f->D.nx e H
 | .brk f=>∀e H b,RS K E0 E b H e f->D.bk e H
 | .cont f=>∀e H b,RS K E0 E b H e f->D.ct e H
 | .ret (.val d)=>∀v H b,Ext E0 E b H->Rep K b d v->D.rt v H
 | .ret (.own es)=>∀a g H b,Ext E0 E b H->E a=f6->b a=f6->H a=dV (.lst g)->g9 K b es g->D.rt (.ref a) H
noncomputable def tS(K:eO)(F:CO Fl):TS:=λD e H=>∃E0 E b a d,RS K E0 E b H e a/\F a=dV d/\Sat K E0 E D d
abbrev mP(X:Cx)(st:jz)(F:CO Fl):Prop:=PS X st (tS X.K F)
abbrev ZN(X:Cx)(tu:List jz)(F:CO Fl):Prop:=mN X tu (tS X.K F)
section
variable{K:eO}{E0 E H0 H nK H':Hp}{σ:St}{γ:Ctx}
theorem RS.step(r:RS K E0 E H0 H σ γ)(e:Ext H0 H nK H'):RS K E0 E nK H' σ γ:=⟨r.rc.ext e,r.ext.trans e,r.fresh,λi b a h f g B=>by obtain⟨I,bs,d,z,_⟩:=r.rc.nZ.1 i b f;rw[g]at d;cases d;have:=e.s1 a _ z.ha;rw[B]at this;cases this;exact r.nV i b a _ f g z.ha⟩
theorem zr{g:Type}{l:List g}{i j:Nat}{x y:g}(h:(l.set i x)[j]? = dV y):(j=i/\y=x/\i<l.length)\/(j≠i/\l[j]? = dV y):=by
 by_cases e:i=j
 ·subst e
  by_cases d:i<l.length
  ·rw[fj d]at h;cases h;exact .inl ⟨rfl,rfl,d⟩
  ·rw[List.set_eq_of_length_le ⋯]at h
   exact absurd (eU.mp h).1 d
 ·rw[eR e]at h;exact .inr ⟨fH e,h⟩
theorem mM.mR{i:Nat}{d:D}{v:V}(n:mM K H0 H σ γ):mM K H0 H (σ.set i<|some v) (γ.set i<|.val d):=
 ⟨λj b e=>by
  rcases zr e with⟨_,z,_⟩ | ⟨I,z⟩
  ·cases z
  ·obtain⟨a,bs,l,m,J⟩:=n.1 j b z
   refine⟨a,bs,by rw[eR (fH I)];exact l,m,λk h c g f=>?_⟩;rcases zr g with⟨_,z,_⟩ | ⟨M,B⟩
   ·cases z
   ·rw[eR (fH M)]at f;exact J k h c B f,
 λj k O R g f=>by
  rcases zr g with⟨_,z,_⟩ | ⟨_,B⟩
  ·cases z
  ·rcases zr f with⟨_,z,_⟩ | ⟨_,U⟩
   ·cases z
   ·exact n.2 j k O R B U⟩
theorem RC.mR{i:Nat}{d:D}{v:V}(r:RC K H0 H σ γ)(h:Rep K H0 d v):RC K H0 H (σ.set i<|some v) (γ.set i<|.val d):=by
 refine⟨r.sub,by simp[r.len],λj f e=>?_,λj b e=>?_,λj k a b m g l M O=>?_,r.nZ.mR⟩
 ·rcases zr e with⟨rfl,z,R⟩ | ⟨B,z⟩
  ·cases z;exact⟨v,fj (by rw[r.len];exact R),h⟩
  ·obtain⟨U,I,J⟩:=r.val j f z
   exact⟨U,by rw[eR (fH B)];exact I,J⟩
 ·rcases zr e with⟨rfl,z,R⟩ | ⟨B,z⟩
  ·cases z
  ·obtain⟨a,n,I,J⟩:=r.own j b z
   exact⟨a,n,by rw[eR (fH B)];exact I,J⟩
 ·rcases zr g with⟨_,z,_⟩ | ⟨B,W⟩
  ·cases z
  ·rcases zr l with⟨_,z,_⟩ | ⟨Y,o⟩
   ·cases z
   ·rw[eR (fH B)]at M
    rw[eR (fH Y)]at O;exact r.ne j k a b m W o M O
theorem RS.mR{i:Nat}{d:D}{v:V}(r:RS K E0 E H0 H σ γ)(h:Rep K H0 d v):RS K E0 E H0 H (σ.set i<|some v) (γ.set i<|.val d):=
 ⟨r.rc.mR h,r.ext,λj g a f b=>by
  rcases zr f with⟨_,z,_⟩ | ⟨B,z⟩
  ·cases z
  ·rw[eR (fH B)]at b;exact r.fresh j g a z b,
 λj e a k f b I=>by
  rcases zr f with⟨_,z,_⟩ | ⟨B,z⟩
  ·cases z
  ·rw[eR (fH B)]at b;exact r.nV j e a k z b I⟩
theorem kJ : ∀{d bs:List g6},d.map V.ref=bs.map V.ref->d=bs
 | [],[],_=>rfl
 | [],_::_,h=>by cases h
 | _::_,[],h=>by cases h
 | a::d,b::bs,h=>by rw[fO,fO]at h;injection h with h1 h2;injection h1 with h1;rw[h1,kJ h2]
theorem RS.sr{i:Nat}{L:List D}{a:g6}{xs:List V}{C G:Hp}(r:RS K E0 E C G σ γ)(e:Ext C G H0 H)(t:G a=f6)(P:H0 a=f6)(Z:H a=dV (.lst xs))(h4:g9 K H0 L xs) :
 RS K E0 E H0 H (σ.set i<|some (.ref a)) (γ.set i<|.own L):=by
 have rc:=r.rc.ext e;have no : ∀(j:Nat) h,γ[j]? = dV (.own h)->¬σ[j]? = dV (dV (.ref a)):=λj h g z=>by obtain⟨b,p,B,d,U,_⟩:=r.rc.own j h g;rw[z]at B;cases B;rw[t]at U;cases U
 refine⟨⟨rc.sub,by simp[rc.len],λj u g=>?_,λj h g=>?_,λj k b h fs n l M O=>?_,⟨λj f g=>?_,λj k A F B d=>?_⟩⟩,r.ext.trans e,λj h b B d=>?_,λj f b xs B d U=>?_⟩
 ·rcases zr g with⟨_,z,_⟩ | ⟨I,z⟩
  ·cases z
  ·obtain⟨N,B,d⟩:=rc.val j u z
   exact⟨N,by rw[eR (fH I)];exact B,d⟩
 ·rcases zr g with⟨rfl,z,J⟩ | ⟨I,z⟩
  ·cases z;exact⟨a,xs,fj (by rw[rc.len];exact J),P,Z,h4⟩
  ·obtain⟨b,p,B,d⟩:=rc.own j h z
   exact⟨b,p,by rw[eR (fH I)];exact B,d⟩
 ·rcases zr n with⟨rfl,z,J⟩ | ⟨I,R⟩
  ·rcases zr l with⟨rfl,_,_⟩ | ⟨W,Y⟩
   ·rfl
   ·rw[fj (by rw[rc.len];exact J)]at M
    rw[eR (fH W)]at O;cases M;exact absurd O<|no k fs Y
  ·rcases zr l with⟨rfl,z,J⟩ | ⟨W,Y⟩
   ·rw[fj (by rw[rc.len];exact J)]at O
    rw[eR (fH I)]at M;cases O;exact absurd M<|no j h R
   ·rw[eR (fH I)]at M
    rw[eR (fH W)]at O;exact rc.ne j k b h fs R Y M O
 ·rcases zr g with⟨_,z,_⟩ | ⟨I,z⟩
  ·cases z
  ·obtain⟨b,bs,B,d,U⟩:=r.rc.nZ.1 j f z
   obtain⟨S,m,f1,f2,x⟩:=rc.nZ.1 j f z;rw[B]at f1;cases f1;have w:m.map V.ref=bs.map V.ref:=by have:=e.s1 b _ d.ha;rw[f2.ha]at this;injection this with this;injection this
   have s:m=bs:=kJ w;subst s;refine⟨b,m,by rw[eR (fH I)];exact B,f2,λk h c n l=>?_⟩;rcases zr n with⟨rfl,_,J⟩ | ⟨W,R⟩
   ·rw[fj (by rw[rc.len];exact J)]at l;cases l
    intro y;obtain⟨_,Q,q⟩:=d.at y;rw[t]at q;cases q
   ·rw[eR (fH W)]at l;exact x k h c R l
 ·rcases zr B with⟨_,z,_⟩ | ⟨_,R⟩
  ·cases z
  ·rcases zr d with⟨_,z,_⟩ | ⟨_,Y⟩
   ·cases z
   ·exact rc.nZ.2 j k A F R Y
 ·rcases zr B with⟨rfl,z,J⟩ | ⟨I,z⟩
  ·rw[fj (by rw[rc.len];exact J)]at d;cases d
   cases q:E a with
   | none=>rfl
   | some o=>rw[r.ext.s1 a o q]at t;cases t
  ·rw[eR (fH I)]at d;exact r.fresh j h b z d
 ·rcases zr B with⟨_,z,_⟩ | ⟨I,z⟩
  ·cases z
  ·rw[eR (fH I)]at d;exact(r.step e).nV j f b xs z d U
theorem RS.rewrite{i:Nat}{t G:List D}{a:g6}{xs ys:List V}(r:RS K E0 E H0 H σ γ)(C:γ[i]? = dV (.own t))(B:σ[i]? = dV (dV (.ref a)))(L:g9 K H0 G ys) :
 RS K E0 E H0 (upd H a<|.lst ys) σ (γ.set i<|.own G):=by
 obtain⟨F,N,g1,U,g3,S⟩:=r.rc.own i t C;rw[B]at g1;cases g1;have P:i<γ.length:=(eU.mp C).1;refine⟨⟨λb o q=>?_,by simp[r.rc.len],λj u g=>?_,λj fs g=>?_,λj k b fs gs h e O w=>?_,⟨λj f g=>?_,λj k y A h e=>?_⟩⟩,⟨r.ext.s0,λb o q=>?_,λb o q=>?_,r.ext.new⟩,λj fs b h e=>?_,λj f b m h e O=>?_⟩
 ·rw[zx (λz=>by rw[z,U]at q;cases q)];exact r.rc.sub b o q
 ·rcases zr g with⟨_,z,_⟩ | ⟨R,z⟩
  ·cases z
  ·exact r.rc.val j u z
 ·rcases zr g with⟨rfl,z,T⟩ | ⟨R,z⟩
  ·cases z;exact⟨a,ys,B,U,zu,L⟩
  ·obtain⟨b,m,d,I,J,x⟩:=r.rc.own j fs z
   refine⟨b,m,d,I,?_,x⟩;rw[zx (λq=>R<|r.rc.ne j i a fs t z C (by rw[d,q]) B)];exact J
 ·have p : ∃l,γ[j]? = dV (.own l):=by
   rcases zr h with⟨q,_,_⟩ | ⟨_,z⟩
   ·exact⟨t,by rw[q];exact C⟩
   ·exact⟨fs,z⟩
  have s : ∃l,γ[k]? = dV (.own l):=by
   rcases zr e with⟨q,_,_⟩ | ⟨_,z⟩
   ·exact⟨t,by rw[q];exact C⟩
   ·exact⟨gs,z⟩
  obtain⟨d,M⟩:=p;obtain⟨I,W⟩:=s;exact r.rc.ne j k b d I M W O w
 ·rcases zr g with⟨_,z,_⟩ | ⟨R,z⟩
  ·cases z
  ·obtain⟨b,bs,d,I,J⟩:=r.rc.nZ.1 j f z
   have n:=J i t a C B;refine⟨b,bs,d,I.move (i1.refl _) (λc Y=>(I.at Y).1)<|λc Y=>zx λq=>n<|q ▸ Y,λk fs c h e=>?_⟩;rcases zr h with⟨q,_,_⟩ | ⟨_,M⟩
   ·rw[q,B]at e;cases e;exact n
   ·exact J k fs c M e
 ·rcases zr h with⟨_,z,_⟩ | ⟨_,M⟩
  ·cases z
  ·rcases zr e with⟨_,z,_⟩ | ⟨_,W⟩
   ·cases z
   ·exact r.rc.nZ.2 j k y A M W
 ·rw[zx (λz=>by rw[z,r.fresh i t a C B]at q;cases q)];exact r.ext.s1 b o q
 ·rw[zx (λz=>by rw[z,U]at q;cases q)];exact r.ext.sub b o q
 ·rcases zr h with⟨q,_,_⟩ | ⟨_,z⟩
  ·rw[q]at e;exact r.fresh i t b C e
  ·exact r.fresh j fs b z e
 ·rcases zr h with⟨_,z,_⟩ | ⟨R,z⟩
  ·cases z
  ·obtain⟨Q,bs,d,I,J⟩:=r.rc.nZ.1 j f z
   rw[e]at d;cases d;rw[zx (show b≠a from λq=>J i t a C B<|by rw[q];exact fw)]at O;exact r.nV j f b m z e O
end
section
variable{X:Cx}{e a b c:hH}{pos:i7}{st:jz}{qT:List jz}
theorem zD:ZN X [] jw:=XW Jr λD b H d=>by obtain⟨E0,E,a,e,J,z,B,I⟩:=d;cases B;exact I b H a z
theorem ze{F G:CO Fl}(g:mP X st F)(t:ZN X qT G):ZN X (st::qT) (zJ F G):=XW (jd g t) λD k H I=>by
 obtain⟨E0,E,e,h,J,M,d,z⟩:=I;obtain⟨B,f,d⟩:=zb d;refine⟨E0,E,e,h,B,M,f,?_⟩;cases B with
 | next a=>exact λi j b O=>⟨E0,E,b,a,J,O,d,z⟩
 | brk a=>cases d;exact z
 | cont a=>cases d;exact z
 | ret r=>cases d;cases r<;>exact z
theorem zg(g:mP X st F):ZN X [st] F:=ko g
theorem zm(h:o.map f=dV y) : ∃x,o=dV x/\f x=y:=by
 cases o with
 | none=>cases h
 | some x=>exact⟨x,rfl,by simpa using h⟩
theorem zt{f:CO D}(h:PV X e f):mP X (.Return (dV e) pos) (jU f):=yz (Ju h) λD k H I=>by obtain⟨E0,E,g,j,M,B,z,J⟩:=I;obtain⟨d,i,z⟩:=zm z;subst z;exact⟨g,j,d,B.rc,i,λv b a x r=>J v b a (B.ext.trans x) r⟩
theorem jP:mP X st xO:=yz Xc λD e H ⟨E0,E,a,b,z,B,d,I⟩=>by cases d
theorem ja{k:CO Bool}{F G:CO Fl}{x y:List jz}(J:mO X c k)(g:ZN X x F)(M:ZN X y G):mP X (.If c x y pos) (mh k F G):=yz (YR J g M) λD i H O=>by
 obtain⟨E0,E,e,b,B,z,d,I⟩:=O;obtain⟨t,f,d⟩:=zb d;refine⟨e,b,t,z.rc,f,λh a x=>?_⟩;cases t with
 | true=>rw[GJ rfl]at d ⊢;exact⟨E0,E,a,b,B,z.step x,d,I⟩
 | false=>rw[GY fm]at d ⊢;exact⟨E0,E,a,b,B,z.step x,d,I⟩
theorem Js(i:Nat){f:CO D}(h:PS X st (y0 (tV X.K f)<|qc i)):mP X st (qK i f):=yz h λD k H I=>by obtain⟨E0,E,b,g,M,B,z,J⟩:=I;obtain⟨d,e,z⟩:=zm z;subst z;exact⟨b,g,d,B.rc,e,λv j a x r=>J _ _ a<|(B.step x).mR r⟩
theorem Xa(i:Nat){f:CO (List D)}(h:PS X st (y0 (tO X.K f)<|qc i)):mP X st (k6 i f):=yz h λD p H B=>by obtain⟨E0,E,e,m,M,z,d,I⟩:=B;obtain⟨g,j,d⟩:=zm d;subst d;exact⟨e,m,g,z.rc,j,λa o n b x k l J r=>I _ _ b<|z.sr x k l J r⟩
theorem vB(h:qk o=dV ds):o=dV (.own ds):=by
 cases o with
 | none=>cases h
 | some c=>cases c<;>simp[qk]at h;rw[h]
theorem Zz(i:Nat){f:CO D}(h:PE X e (pX X.K "list" yu (Kk i) (QL (tV X.K f) VX)))(O:nH e f6 pos.line X.env=pure f9:=by rfl):mP X (.Expr e pos) (jq i f):=
 yz (yx h O) λD t H R=>by
  obtain⟨E0,E,l,n,p,B,z,U⟩:=R;obtain⟨j,b,z⟩:=zb z;obtain⟨d,m,z⟩:=zb z;have b:=vB b;by_cases I:j.length<lim
  ·rw[GJ I]at z;cases z
   obtain⟨a,xs,k,s,J,M⟩:=B.rc.own i j b;refine⟨_,k,.inl ⟨rfl,_,i2.of J⟩,l,n,d,B.rc,m,λv o g x r=>?_⟩;have W:=B.step x;have Y:=x.s1 _ _ J;refine⟨a,xs,v,rfl,rfl,Y,?_,?_⟩
   ·exact fg (by rw[M.length];exact I)<|q8<|eW _
   ·exact U _ _ g<|W.rewrite (xs:=xs) b k<|(M.mono x.s0).append (g9.cons r g9.nil)
  ·rw[GY I]at z;cases z
end
noncomputable def ec(K:eO)(g H:Hp)(Q:VK):Res->Prop
 | .val d=>∀v e b,Ext g H b e->Rep K b d v->Q v e
 | .own h=>∀a f e b,Ext g H b e->H a=f6->b a=f6->e a=dV (.lst f)->g9 K b h f->Q (.ref a) e
noncomputable def nG(K:eO)(n:Nat)(F:List D->Option Res):Sp:=λd H Q _=>∃a b r,i1 a H/\g9 K a b d/\b.length=n/\F b=dV r/\ec K a H Q r
theorem nG.len{K:eO}{n:Nat}{F:List D->Option Res}{t:List Str}(z:t.length=n) : ∀g H Q E,nG K n F g H Q E->g.length=t.length:=λg H Q E h=>by obtain⟨d,e,r,_,a,b,_⟩:=h;rw[a.length,b,z]
section
variable{P:ma}{w:j1}{K:eO}{mg:GZ}{base:h9}
theorem wQ(s:i1 H0 H)(h:g9 K H0 ds vs)(t:ds.length<=N.length):RS K H0 H H0 H (yp N vs) (zY N.length ds):=by
 have z:=h.length;refine⟨⟨s,by simp[L2.yp,zY,z],λi d e=>?_,λi g e=>?_,λi j a g fs e _ _ _=>?_,mM.pj λi f e=>?_⟩,Ext.refl s,λi g a e _=>?_,λi f a l e _ _=>?_⟩
 all_goals unfold zY at e
 ·by_cases b:i<ds.length
  ·rw[fG (by simpa using b),fP]at e
   cases e1:ds[i]? with
   | none=>rw[e1]at e;cases e
   | some k=>
    rw[e1]at e;cases e;obtain⟨x,B,I⟩:=h.get e1;refine⟨x,?_,I⟩;unfold L2.yp;rw[fG (by simp;omega),fP,B];rfl
  ·rw[fC (by simpa using b),gV]at e
   split at e<;>cases e
 all_goals
  by_cases b:i<ds.length
  ·rw[fG (by simpa using b),fP]at e
   cases e1:ds[i]? with
   | none=>rw[e1]at e;cases e
   | some k=>rw[e1]at e;cases e
  ·rw[fC (by simpa using b),gV]at e
   split at e<;>cases e
theorem Vz{x qual:Str}{st:jz}{f:g6}{C:mX}{N t:List Str}{k:Nat}{F:CO Fl}(B:L2.om K x qual st f C)(S:o5 N t (zE st))
 (I : ∀(g:hA) (A:mS) (outer:List mD) (s:hL) (H:Hp) (E:XK),mJ k (A.deeper<|envOfC qual (zE st) s.heap.objs.size f g)->ZN (K9 nt P w K mg base N qual (zE st) f g A outer s H E).oW (j8 st) F) :
 nf P w K mg base nt (k+1) f C t (nG K t.length<|jo N.length F):=by
 refine B.ok S (nG.len rfl)<|λg A outer s H y Q E J h=>⟨_,I g A outer s H E J,?_⟩;obtain⟨e,l,r,o,n,u,M,d⟩:=h;obtain⟨z,m,a⟩:=zb M;have R:t.length<=N.length:=by have:=congrArg List.length S.pre;rw[ic]at this;omega
 refine⟨e,H,e,zY N.length l,z,wQ o n ⋯,m,?_⟩;cases z with
 | ret U=>cases a;cases r<;>exact d
 | next i=>cases a;exact λp j b O=>d .i4 j b O.ext (show V.i4 = .i4 from rfl)
 | brk i=>cases a
 | cont i=>cases a
end
section
variable{X:Cx}{es:List hH}{pos p:i7}{k:Nat}{f:g6}{fd:mX}{ps:List Str}{x:Str}{F:List D->Option Res}{g:CO (List D)}
theorem KG{A0:List hH}(G:nf X.prog X.w X.K X.mg X.base nt k f fd ps (nG X.K ps.length F))(L:oa X es g)(O : ∀γ C,g γ=dV C->C.length=ps.length)
 (R : ∀{t:TA},PA X es t->PE X (.Call (.Name x p) es [] pos) (Yv (nG X.K ps.length F) [] E0 t)):PV X (.Call (.Name x p) es [] pos) (zv F g):=
 jm (R L) λA H Q U=>by
  obtain⟨l,γ,d,rc,z,q⟩:=U;obtain⟨C,i,z⟩:=zb z;obtain⟨r,m,z⟩:=zm z;refine⟨l,γ,C,rc,i,λy u W e Y=>⟨W,C,r,e.sub,by simpa using Y,O γ C i,m,?_⟩⟩;subst z;cases r with
  | val d=>exact λv h b B I=>q v h b (e.trans B) I
  | own fs=>
   refine λa s h b B n j o I=>q _ h _ (e.trans<|B.show n j o e.sub) ?_;exact(show ∃J M,V.ref a = .ref J/\i2 X.K _ J M/\g9 X.K _ fs M from⟨a,s,rfl,i2.of zu,I.mono<|zC j _⟩)
end
structure Walk(K:eO)(H0 Hs:Hp)(J:It)(ds:List D):Prop where
 go : ∀i H1,i1 Hs H1->i<ds.length->J.go i H1
 stop : ∀H1,i1 Hs H1->J.stop ds.length H1
 nR : ∀i H1 x rU,i1 Hs H1->i<ds.length->J.nR i H1 x rU->∃d,ds[i]? = dV d/\∀G0,i1 H0 G0->i1 G0 H1->∃rT,Ext G0 H1 rT rU/\Rep K rT d x
theorem Walk.weak{K:eO}{g t d:Hp}{J:It}{z:List D}(w:Walk K g t J z)(s:i1 t d):Walk K g d J z:=
 ⟨λi a h=>w.go i a<|s.trans h,λa h=>w.stop a<|s.trans h,λi a x b h=>w.nR i a x b<|s.trans h⟩
theorem QH{k:Sk}{K:eO}{g t:Hp}{a:g6}{xs:List V}{C:List D}(h:mz k K t a xs)(r:g9 K g C xs):Walk K g t (rV k K a) C:=by
 have I:=r.length;refine⟨λi b s o=>?_,λb s=>?_,λi b x f s o y=>?_⟩
 ·have z:i<xs.length:=by omega
  cases k with
  | L=>exact⟨xs,xs[i],s.seq h,eT z⟩
  | T=>exact⟨xs,xs[i],mE s h,eT z⟩
 ·cases k with
  | L=>exact⟨xs,s.seq h,by omega⟩
  | T=>exact⟨xs,mE s h,by omega⟩
 ·have e:f=b/\xs[i]? = dV x:=by
   cases k with
   | L=>exact⟨y.1,y.2 xs<|s.seq h⟩
   | T=>exact⟨y.1,y.2 xs<|mE s h⟩
  obtain⟨l,m⟩:=e;subst l;obtain⟨d,n,B⟩:=r.pL m;exact⟨d,n,λj p u=>⟨j,Ext.refl u,B.mono p⟩⟩
theorem xC(lo:Int)(n:Nat):(xj lo n).length=n:=by simp[xj]
theorem Zq{K:eO}{g t:Hp}(lo:Int)(n:Nat):Walk K g t (oo lo n) (xj lo n):=by
 refine⟨λi b s a=>?_,λb s=>?_,λi b x e s a y=>?_⟩
 ·rw[xC]at a;exact a
 ·rw[xC];exact eW _
 ·rw[xC]at a
  obtain⟨f,h⟩:=y;subst f h;exact⟨.int<|lo+i,by simp[xj,a],λd k j=>⟨d,Ext.refl j,(show V.int (lo+i) = .int (lo+i)from rfl)⟩⟩
theorem QG{B I:Sk}{K:eO}{C G:Hp}{a b:g6}{xs ys:List V}{g t:List D}(H:mz B K G a xs)(J:g9 K C g xs)(L:mz I K G b ys)(M:g9 K C t ys) :
 Walk K C G (p8 B I K a b) (XH g t):=by
 have F:=J.length;have N:=M.length;have U:(XH g t).length=min g.length t.length:=by simp[XH]
 refine⟨λi f s A=>?_,λf s=>?_,λi f x k s A y=>?_⟩
 ·exact⟨xs,ys,vb s H,vb s L,by omega,by omega⟩
 ·refine⟨xs,ys,vb s H,vb s L,?_⟩
  rw[U];omega
 ·obtain⟨p,u,v,n,z,o,W,Y⟩:=y
  obtain⟨d,w,E⟩:=J.pL<|W xs<|vb s H;obtain⟨c,r,l⟩:=M.pL<|Y ys<|vb s L;refine⟨.tup [d,c],?_,λj h e=>⟨upd j p<|.tup [u,v],?_,?_⟩⟩
  ·have m:(g.zip t)[i]? = dV (d,c):=List.getElem?_zip_eq_some.mpr ⟨w,r⟩
   simp[XH,m]
  ·rw[o];exact Ext.alloc e z _
  ·rw[n]
   exact(show ∃O R,V.ref p = .ref O/\i3 K _ O R/\g9 K _ [d,c] R from⟨p,[u,v],rfl,i3.of zu,g9.cons ((E.mono h).mono (zC (je e z) _))<|g9.cons ((l.mono h).mono (zC (je e z) _)) g9.nil⟩)
noncomputable def sy(K:eO)(g:CO (List D)):TI:=λh H R=>∃d f e,RC K d H h f/\g f=dV e/\∀J b a,Ext d H a b->Walk K a b J e->R J b
noncomputable def rO(K:eO)(g:CO (List D)):TI:=λh H R=>∃d f e,RC K d H h f/\g f=dV e/\∀J b a,Ext d H a b->Walk K a a J e->R J b
abbrev ov(X:Cx)(tg e:hH)(src:CO (List D)):Prop:=PI X tg e (sy X.K src)
abbrev mY(X:Cx)(tg e:hH)(src:CO (List D)):Prop:=PI X tg e (rO X.K src)
section
variable{X:Cx}{tg e a b:hH}{pos p:i7}
theorem mY.c(h:mY X tg e src):ov X tg e src:=JA h λj H R ⟨f,i,g,rc,d,q⟩=>⟨f,i,g,rc,d,λJ b a x w=>q J b a x<|w.weak x.sub⟩
theorem jI(h:PQ X e f):ov X tg e (jv f):=JA (YX h) λt H R d=>by obtain⟨j,p,s,rc,z,q⟩:=d;obtain⟨⟨k,n⟩,l,m⟩:=zm z;subst m;exact⟨j,p,k,n,rc,l,λa o i b x g _ r=>⟨a,k,rfl,⟨o,g⟩,q _ i b x<|QH g r⟩⟩
theorem xu(h:mF d=dV i):d = .int i:=by cases d<;>simp[mF]at h;rw[h]
theorem JZ(h:inR i=e6) : -(2 ^ 62)<=i/\i<2 ^ 62:=by unfold inR at h;have h:=of_decide_eq_true h;omega
theorem ZE(I:Gl X "range")(C:X.mg "range" = f6)(t:PV X a f)(B:i6 [a] X.env=[(f9,hI a X.env)]:=by rfl):mY X tg (.Call (.Name "range" p) [a] [] pos) (jg f):=
 JA (Jz I C (zX t jQ B) B) λo H R J=>by
  obtain⟨i,l,m,rc,z,q⟩:=J;obtain⟨n,e,z⟩:=zb z;obtain⟨d,M,e⟩:=zb e;by_cases g:inR n=e6
  ·rw[GJ g]at z;cases z
   refine⟨i,l,d,rc,M,λv h b x r=>?_⟩;rw[xu e]at r;obtain⟨j,k⟩:=JZ g;exact⟨n,by rw[show v = .int n from r],j,k,q _ h b x<|Zq 0 n.toNat⟩
  ·rw[GY g]at z;cases z
theorem Ja{K:eO}{H:Hp}{d:D}{v:V}{k:Sk}{g:List D}(r:Rep K H d v)(e:ju d=dV (k,g)) : ∃a xs,v = .ref a/\mz k K H a xs/\g9 K H g xs:=by
 cases d with
 | tup fs=>simp[ju]at e;obtain⟨b,f⟩:=e;subst b f;exact r
 | lst fs=>simp[ju]at e;obtain⟨b,f⟩:=e;subst b f;exact r
 | _=>simp[ju]at e
theorem KM{f g:CO D}{t:List hH}{P:Nat}{C:i7}(W:Gl X "zip")(L:X.mg "zip" = f6)(G:PV X a f)(Y:PV X b g)(M:i6 [a,b] X.env=[(f9,hI a X.env),(f9,hI b X.env)]:=by rfl)(I:i6 [b] X.env=[(f9,hI b X.env)]:=by rfl) :
 mY X (.Tuple t P C) (.Call (.Name "zip" p) [a,b] [] pos) (VY f g):=
 JA (YW W L (zX G (zX Y jQ I)<|by rw[M,I]) PyProof.Rows.boot_zip M I) λσ H R A=>by obtain⟨j,i,T,rc,z,q⟩:=A;obtain⟨⟨E,m⟩,h,z⟩:=zb z;obtain⟨d,u,h⟩:=zb h;obtain⟨⟨F,n⟩,J,z⟩:=zm z;obtain⟨c,w,J⟩:=zb J;subst z;refine⟨j,i,d,rc,u,λv S e x r=>⟨e,i,c,rc.ext x,w,λZ k s B K=>?_⟩⟩;obtain⟨l,N,rfl,O,g2⟩:=Ja (r.mono B.s0) h;obtain⟨o,Q,rfl,U,y⟩:=Ja K J;exact⟨E,F,l,o,rfl,⟨N,vb B.sub O⟩,⟨Q,vb B.sub U⟩,q _ k s (x.trans B)<|QG O g2 U y⟩
end
noncomputable def km:List Nat->List V->St->St
 | i::is,v::vs,σ=>km is vs<|σ.set i<|some v
 | _,_,σ=>σ
def gs:List Nat->oM
 | []=>bW
 | i::is=>Vx (qc i)<|gs is
noncomputable def nC(K:eO):Tg->TG
 | .nm i=>qc i
 | .tp is=>bV K is.length<|gs is
theorem yH : ∀{is:List Nat} {g:List V} {t:St} {H:Hp} {Q:St->Hp->Prop},g.length=is.length->Q (km is g t) H->gs is g t H Q
 | [],[],_,_,_,_,q=>⟨rfl,q⟩
 | i::is,v::g,t,H,Q,hl,q=>⟨v,g,rfl,yH (by simpa using hl) q⟩
 | [],_::_,_,_,_,hl,_=>by simp at hl
 | _::_,[],_,_,_,hl,_=>by simp at hl
theorem RS.oX{K:eO}{E0 E G H:Hp} : ∀{is:List Nat} {g:List D} {z:List V} {C:St} {γ:Ctx},RS K E0 E G H C γ->g9 K G g z->RS K E0 E G H (km is z C) (jf is g γ)
 | [],g,z,C,γ,r,h=>by cases g<;>cases z<;>exact r
 | i::is,[],z,C,γ,r,h=>by rw[h.nD];exact r
 | i::is,d::g,z,C,γ,r,h=>by obtain⟨x,t,e,a,b⟩:=h.m8;subst e;show RS K E0 E G H (DL.km is t<|C.set i<|some x) (jf is g<|γ.set i<|.val d);exact RS.oX (r.mR a) b
theorem RC.oX{K:eO}{G H:Hp} : ∀{is:List Nat} {g:List D} {z:List V} {C:St} {γ:Ctx},RC K G H C γ->g9 K G g z->RC K G H (km is z C) (jf is g γ)
 | [],g,z,C,γ,r,h=>by cases g<;>cases z<;>exact r
 | i::is,[],z,C,γ,r,h=>by rw[h.nD];exact r
 | i::is,d::g,z,C,γ,r,h=>by obtain⟨x,t,e,a,b⟩:=h.m8;subst e;show RC K G H (DL.km is t<|C.set i<|some x) (jf is g<|γ.set i<|.val d);exact RC.oX (r.mR a) b
theorem vF{K:eO}{g H:Hp}{T:Tg}{d:D}{v:V}{t:St}{γ z:Ctx}{Q:St->Hp->Prop}(s:i1 g H)(h:Rep K g d v)(e:jT T d γ=dV z)
 (q : ∀B,(RC K g H t γ->RC K g H B z)->(∀E0 E,RS K E0 E g H t γ->RS K E0 E g H B z)->Q B H):nC K T v t H Q:=by
 cases T with
 | nm i=>cases e;exact q _ (λr=>r.mR h) λE0 E r=>r.mR h
 | tp is=>
  cases d with
  | tup j=>
   simp only[jT]at e;by_cases I:j.length=is.length
   ·rw[GJ I]at e;cases e
    obtain⟨a,b,rfl,k,f⟩:=(show ∃a b,v = .ref a/\i3 K g a b/\g9 K g j b from h);have J:b.length=is.length:=by rw[f.length,I]
    exact⟨a,b,rfl,mE s k,J,yH J<|q _ (λr=>r.oX f) λE0 E r=>r.oX f⟩
   ·rw[GY I]at e;cases e
  | _=>simp[jT]at e
theorem Ext.rebase{E0 E d g H B:Hp}(e:Ext E0 E d B)(x:Ext d E g H):Ext E0 E g H:=
 ⟨e.s0.trans x.s0,x.s1,x.sub,λa f b=>x.new a (e.new a f b) b⟩
theorem Ext.base{E0 E d B:Hp}(e:Ext E0 E d B):Ext d E d B:=⟨i1.refl _,e.s1,e.sub,λa h _=>h⟩
theorem Sat.rebase{K:eO}{E0 E I B:Hp}{D:Ends}{z:Fl}(e:Ext E0 E I B)(h:Sat K E0 E D z):Sat K I E D z:=by
 cases z with
 | next g=>exact λf H b r=>h f H b ⟨r.rc,e.rebase r.ext,r.fresh,r.nV⟩
 | brk g=>exact λf H b r=>h f H b ⟨r.rc,e.rebase r.ext,r.fresh,r.nV⟩
 | cont g=>exact λf H b r=>h f H b ⟨r.rc,e.rebase r.ext,r.fresh,r.nV⟩
 | ret r=>
  cases r with
  | val d=>exact λv H b x q=>h v H b (e.rebase x) q
  | own l=>exact λa k H b x i j J q=>h a k H b (e.rebase x) i j J q
section
variable{X:Cx}{tg iter:hH}{body:List jz}{pos:i7}
theorem KH{t:CO (List D)}{T:Tg}{F:CO Fl}(hp:pH (hO X.prog X.w) X.A X.env X.xe)(hc:X.calm=e6)(C:mY X tg iter t)(hg:PG X tg (nC X.K T))(hb:ZN X body F)
 (hs : ∀x,nq iter X.env x=pure x:=by intro _;rfl):mP X (.For tg iter body [] pos) (wN t T F):=
 yz (Jv hp hc C hg hb hs) λD g H hZ=>by
  obtain⟨E0,E,f,b,B,I,z,O⟩:=hZ;obtain⟨a,Z,z⟩:=zb z;refine⟨f,b,a,I.rc,Z,λJ H1 M x1 Y=>?_⟩;have U:=I.step x1;have s:=U.ext;refine⟨λi m g H=>m=a.length - i/\i<=a.length/\∃f b B,RS X.K M E f H g b/\qC T F (a.drop i) b=dV B/\Sat X.K M E D B,⟨_,rfl,gj _,M,b,B,⟨U.rc,s.base,U.fresh,U.nV⟩,z,O.rebase s⟩,?_⟩;rintro i m g H ⟨rfl,C,f,b,B,I,z,O⟩;have h:i1 M H:=I.ext.s0.trans I.ext.sub;by_cases R:i<a.length
  ·refine .inr ⟨Y.go i H h R,λg H=>i+1<=a.length/\∃f b B,RS X.K M E f H g b/\qC T F (a.drop<|i+1) b=dV B/\Sat X.K M E D B,λtH p n=>⟨a.length - (i+1),by omega,rfl,n.1,n.2⟩,λx p y=>?_⟩
   obtain⟨d,u,hx⟩:=Y.nR i H x p h R y;obtain⟨L,G,rg⟩:=hx f I.ext.s0 I.rc.sub;have P:a.drop i=d::a.drop (i+1):=by
    have Q:d=a[i]:=by rw[eT R]at u;exact(fK u).symm
    rw[Q];exact iE R
   rw[P]at z;simp only[qC]at z;obtain⟨l,eb,z⟩:=zb z;obtain⟨f1,eF,z⟩:=zb z;refine vF G.sub rg eb λsJ _ S=>⟨M,E,L,l,f1,S M E<|I.step G,eF,?_⟩;cases f1 with
   | next W=>exact λo N j k=>⟨R,j,W,B,k,z,O⟩
   | cont W=>exact λo N j k=>⟨R,j,W,B,k,z,O⟩
   | brk W=>cases z;exact O
   | ret r=>cases z;cases r<;>exact O
  ·have e:i=a.length:=by omega
   subst e;rw[lM]at z;cases z;exact .inl ⟨Y.stop H h,O g H f I⟩
end
theorem jO(h:(jH n fr γ)[i]? = dV c):c = .no\/(∃d j,c = .val d/\n<=i/\fr[i - n]? = dV j/\γ[j]? = dV (.val d)):=by
 unfold jH at h;by_cases b:i<n
 ·rw[fG (by simpa using b),gV,GJ b]at h
  exact .inl (fK h).symm
 ·rw[fC (by simpa using b),fP,List.length_replicate]at h
  cases e:fr[i - n]? with
  | none=>rw[e]at h;cases h
  | some j=>
   rw[e]at h;have a:kG (γ[j]?.getD .no)=c:=by simpa using h
   cases e2:γ[j]? with
   | none=>rw[e2]at a;exact .inl a.symm
   | some z=>
    rw[e2]at a;cases z with
    | no=>exact .inl a.symm
    | own g=>exact .inl a.symm
    | nest f=>exact .inl a.symm
    | val d=>exact .inr ⟨d,j,a.symm,by omega,rfl,e2⟩
theorem RC.pull{K:eO}{t H:Hp}{C:St}{γ:Ctx}{own:List Str}{g:List (Str×Nat)}(r:RC K t H C γ):RC K t H (L2.XU own g C) (jH own.length (g.map (·.2)) γ):=by
 refine⟨r.sub,by simp[L2.XU,jH],λi d h=>?_,λi e h=>?_,λi j a e l h _ _ _=>?_,mM.pj λi b h=>?_⟩
 ·rcases jO h with z | ⟨d',j,z,hi,B,I⟩
  ·cases z
  ·cases z
   obtain⟨v,f,k⟩:=r.val j d I;refine⟨v,?_,k⟩;rw[fP]at B;cases q:g[i - own.length]? with
   | none=>rw[q]at B;cases B
   | some p=>
    rw[q]at B;have J:p.2=j:=by simpa using B
    unfold L2.XU;rw[fC (by simpa using hi),fP,gy,q];simp[J,f]
 ·rcases jO h with z | ⟨d',j,z,_⟩<;>cases z
 ·rcases jO h with z | ⟨d',j,z,_⟩<;>cases z
 ·rcases jO h with z | ⟨d',j,z,_⟩<;>cases z
theorem RC.weak{K:eO}{C H:Hp}{G:St}{γ γ':Ctx}(r:RC K C H G γ)(B:γ'.length=γ.length)(I : ∀(i:Nat) d,γ'[i]? = dV (.val d)->γ[i]? = dV (.val d))(z : ∀(i:Nat) g,γ'[i]? ≠ dV (.own g))(J : ∀(i:Nat) t,γ'[i]? ≠ dV (.nest t)):RC K C H G γ':=
 ⟨r.sub,by rw[B];exact r.len,λi d h=>r.val i d<|I i d h,λi g h=>absurd h<|z i g,λi j a g b h _ _ _=>absurd h<|z i g,mM.pj J⟩
theorem RC.upd{K:eO}{C H:Hp}{G:St}{γ:Ctx}{D:g6}{o:HO}(r:RC K C H G γ)(B:C D=f6)(d : ∀(i:Nat) g,γ[i]? ≠ dV (.own g))(I : ∀(i:Nat) t,γ[i]? ≠ dV (.nest t)):RC K C (upd H D o) G γ:=
 ⟨λb u q=>by rw[zx (λz=>by rw[z,B]at q;cases q)];exact r.sub b u q,r.len,r.val,λi g h=>absurd h<|d i g,λi j a g e h _ _ _=>absurd h<|d i g,mM.pj I⟩
theorem kj : ∀{is:List Nat} {g:List D} {γ:Ctx},(jf is g γ).length=γ.length
 | [],g,γ=>by cases g<;>rfl
 | i::is,[],γ=>rfl
 | i::is,d::g,γ=>by show(jf is g<|γ.set i<|.val d).length=_;rw[kj];simp
theorem kl : ∀{is:List Nat} {g:List D} {γ:Ctx} {i:Nat},i∉is->(jf is g γ)[i]? = γ[i]?
 | [],g,γ,i,_=>by cases g<;>rfl
 | j::is,[],γ,i,_=>rfl
 | j::is,d::g,γ,i,h=>by show(jf is g<|γ.set j<|.val d)[i]? = _;rw[kl (λz=>h<|ft _ z),eR (λz=>h<|by rw[<- z];exact fw)]
theorem Qy(h:jT T d γ=dV o1):o1.length=γ.length/\∀i,i∉T.idx->o1[i]? = γ[i]? :=by
 cases T with
 | nm j=>cases h;exact⟨by simp,λi a=>eR<|λz=>a<|by simp[Tg.idx,z]⟩
 | tp is=>
  cases d with
  | tup b=>
   simp only[jT]at h;by_cases B:b.length=is.length
   ·rw[GJ B]at h;cases h;exact⟨kj,λi a=>kl a⟩
   ·rw[GY B]at h;cases h
  | _=>simp[jT]at h
section
variable{K:eO}{own:List Str}{fr:List (Str×Nat)}{src:CO (List D)}{T:Tg}{k:CO Bool}{f:CO D}
theorem vA(hT : ∀i∈T.idx,i<own.length)(bi : ∀t H Q,tT K k t H Q->tt t H Q) : ∀t H Q,tO K (jt src T own.length (fr.map (·.2)) k f) t H Q->QM (sy K src) own fr (nC K T) tt (tV K f) t H Q:=λt H Q hZ=>by
 obtain⟨H0,p,ds,rc,O,q⟩:=hZ;obtain⟨I,e1,O⟩:=zb O;by_cases hl:I.length<=lim
 ·rw[GJ hl]at O
  refine⟨H0,p,I,rc,e1,λJ H1 P A wk D Y=>?_⟩;have S : ∀(i:Nat) es,(jH own.length (fr.map (·.2)) p)[i]? ≠ dV (.own es):=λi es h=>by rcases jO h with z | ⟨d',j,z,_⟩<;>cases z
  have X : ∀(i:Nat) u,(jH own.length (fr.map (·.2)) p)[i]? ≠ dV (.nest u):=λi es h=>by rcases jO h with z | ⟨d',j,z,_⟩<;>cases z
  have b1:P D=f6:=je A.sub Y;have bn:H D=f6:=by
   cases z:H D with
   | none=>rfl
   | some o=>rw[A.s1 D o z]at Y;cases Y
  refine⟨λi m l E g=>m=I.length - i/\i<=I.length/\l.length<=i/\g D=dV (.lst l)/\∃a s G,RC K a g E (jH own.length (fr.map (·.2)) p)/\a D=f6/\Ext P H1 a g/\g9 K a s l/\zV T k f (jH own.length (fr.map (·.2)) p) (I.drop i)=dV G/\ds=s++G,
   ⟨_,rfl,gj _,eW _,zu,P,[],ds,((rc.ext A).pull).upd b1 S X,b1,Ext.hide A.sub Y _,g9.nil,O,rfl⟩,?_⟩
  rintro i m l E g ⟨rfl,hi,hy,L,a,s,G,Z,b2,R,r',B,rfl⟩;refine⟨L,?_⟩;by_cases U:i<I.length
  ·refine .inr ⟨wk.go i g R.s1 U,?_,λx am y=>?_⟩
   ·have:=q8<|eW lim;omega
   obtain⟨d,hd,hx⟩:=wk.nR i g x am R.s1 U y;obtain⟨G0,M,rg⟩:=hx a R.s0 Z.sub;have c1:I.drop i=d::I.drop (i+1):=by
    have c2:d=I[i]:=by rw[eT U]at hd;exact(fK hd).symm
    rw[c2];exact iE U
   rw[c1]at B;simp only[zV]at B;obtain⟨n,eb,B⟩:=zb B;obtain⟨b,ek,B⟩:=zb B;have c4:G0 D=f6:=M.new D b2 (by rw[L];simp);have b4:am D=dV (.lst l):=M.s1 _ _ L;obtain⟨bl,bg⟩:=Qy eb;have b5 : ∀{F:St} {G2 H2:Hp},RC K G2 H2 F n->RC K G2 H2 F (jH own.length (fr.map (·.2)) p):=λr=>r.weak bl.symm (λj d' hj=>by
    by_cases hm:j∈T.idx
    ·rcases jO hj with z | ⟨d2,j2,_,hn,_⟩
     ·cases z
     ·exact absurd (hT j hm) ⋯
    ·rw[bg j hm];exact hj) S X
   refine vF M.sub rg eb λsJ b8 _=>bi sJ am _ ⟨G0,n,b,b8<|Z.ext M,ek,λH3 ap W=>?_⟩;have ar:=(b8<|Z.ext M).ext W;have xa:=R.trans<|M.trans W;have bb:ap D=f6:=W.new D c4 (by rw[b4];simp);have as:H3 D=dV (.lst l):=W.s1 _ _ b4;cases b with
   | true=>
    dsimp only;rw[GJ rfl]at B ⊢;obtain⟨e,ee,B⟩:=zb B;obtain⟨qT,er,B⟩:=zm B;refine⟨ap,n,e,ar,ee,λv H4 bd C r4=>?_⟩;have ax:bd D=f6:=C.new D bb (by rw[as];simp);have ce:H4 D=dV (.lst l):=C.s1 _ _ as;have N:=xa.trans C;refine⟨ce,I.length - (i+1),by omega,rfl,U,by rw[gp,ia];omega,zu,bd,s++[e],qT,(b5<|ar.ext C).upd ax S X,ax,?_,(r'.mono<|(M.trans<|W.trans C).s0).append (g9.cons r4 g9.nil),er,?_⟩
    ·exact⟨N.s0,λc o z=>by rw[zx (λw=>by rw[w,Y]at z;cases z)];exact N.s1 c o z,λc o z=>by rw[zx (λw=>by rw[w,ax]at z;cases z)];exact N.sub c o z,N.new⟩
    ·rw[<- B];simp
   | false=>
    dsimp only;rw[GY fm]at B ⊢;exact⟨I.length - (i+1),by omega,rfl,U,by omega,as,ap,s,G,b5 ar,bb,xa,r'.mono<|(M.trans W).s0,B,rfl⟩
  ·have e:i=I.length:=by omega
   subst e;rw[lM]at B;cases B;rw[iP]at q;exact .inl ⟨wk.stop g R.s1,q D l g a (A.trans R) bn b2 L r'⟩
 ·rw[GY hl]at O;cases O
end
section
variable{X:Cx}{scope:i8}{own:List Str}{fr:List (Str×Nat)}{elt tg iter c:hH}{pos:i7}{src:CO (List D)}{T:Tg}{k:CO Bool}{f:CO D}
theorem KL(d:X.calm=e6)(ok:nJ X scope fr)(z : ∀i∈T.idx,i<own.length)(C:ov X tg iter src)(B : ∀fp t g,PG (zO X scope (own++fr.map (·.1)) fp t g) tg<|nC X.K T)
 (I : ∀fp t g,PV (zO X scope (own++fr.map (·.1)) fp t g) elt f) (J : ∀x,nq iter X.env x=pure x:=by intro _;rfl) :
 PO X (.ListComp elt [⟨tg,iter,[],0⟩] scope pos) (jt src T own.length (fr.map (·.2)) qa f):=
 jm (JC d ok C B (λ_ _ _=>wX) I J) (vA z λh H Q ⟨a,e,b,rc,M,q⟩=>by cases M;exact q H a<|Ext.refl rc.sub)
theorem Xd(d:X.N.Nodup)(z:X.N[i]? = dV y)(B:Loc X.env.scope y)(I:X.fn y=e6\/X.env.scope.names.lookup y=dV .local)
 (J:X.calm=e6) (ok:nJ X scope fr) (M : ∀i∈T.idx,i<own.length) (C:ov X tg iter src) (O : ∀fp t g,PG (zO X scope (own++fr.map (·.1)) fp t g) tg<|nC X.K T)
 (R : ∀fp t g,PV (zO X scope (own++fr.map (·.1)) fp t g) elt f) (U : ∀x,nq iter X.env x=pure x:=by intro _;rfl) :
 PS X (.Assign [.Name y py] (.ListComp elt [⟨tg,iter,[],0⟩] scope pos) spos) (y0 (tO X.K<|jt src T own.length (fr.map (·.2)) qa f)<|qc i):=
 yz (ZA d z B I J ok C O (λ_ _ _=>wX) R U) λD a H h=>vA M (λa H Q W=>by obtain⟨e,j,b,rc,Y,q⟩:=W;cases Y;exact q H e<|Ext.refl rc.sub) a H _ h
end
theorem jh{K:eO}{H:Hp}{i:Int}{v:V}(h:Rep K H (.int i) v):v = .int i:=h
theorem QP{K:eO}{g:Int->Int->D}{z:Int->Int->V}(I : ∀H i j,Rep K H (g i j)<|z i j):mB K (ng z) (dI g):=λa H x y b J d Q s M O B q=>by cases b<;>cases J<;>simp[dI]at B;subst B;exact⟨_,_,jh M,jh O,q _ H a (Ext.refl s)<|I a _ _⟩
theorem ZY{K:eO}{C:Int->Int->Prop}{c:Int->Int->Bool}{g:Int->Int->D}{z:Int->Int->V}(I : ∀i j,c i j=e6->C i j)(J : ∀H i j,Rep K H (g i j)<|z i j):mB K (rI C z) (pb c g):=λa H x y b M d Q s O R B q=>by cases b<;>cases M<;>simp[pb]at B;obtain⟨e,f⟩:=B;subst f;exact⟨_,_,jh O,jh R,I _ _ e,q _ H a (Ext.refl s)<|J a _ _⟩
theorem Ko{K:eO}:mB K (ng λi j=> .int (i - j)) K7:=QP λ_ _ _=>rfl
theorem XC(h:vQ i j=e6):oK i j:=by unfold vQ at h;rw[fR,decide_eq_true_eq,decide_eq_true_eq]at h;unfold oK;omega
theorem Kt{K:eO}:mB K (rI cQ λi j=> .int (i/j)) Zf:=ZY (λi j h=>by unfold VF at h;rw[fe,decide_eq_true_eq,decide_eq_true_eq]at h;exact⟨h.1,by omega⟩) λ_ _ _=>rfl
theorem Ks{K:eO}:mB K (rI (λ_ j=>0<j) λi j=> .int (i%j)) qW:=ZY (λi j h=>by unfold Wo at h;exact of_decide_eq_true h) λ_ _ _=>rfl
theorem Kp{K:eO}:mB K (rI cP λi j=> .int (i ^ j.toNat)) K8:=ZY (λi j h=>by unfold VE at h;rw[fe,fe,decide_eq_true_eq,decide_eq_true_eq,decide_eq_true_eq]at h;exact⟨h.1.1,by omega,h.2⟩) λ_ _ _=>rfl
theorem va{K:eO}:mB K (ng λi j=> .bl (decide<|i<=j)) oh:=QP λ_ _ _=>rfl
theorem XM{K:eO}:mB K (ng λi j=> .bl (decide<|j<i)) nT:=QP λ_ _ _=>rfl
theorem Yx{K:eO}:mB K (ng λi j=> .bl (decide<|j<=i)) pa:=QP λ_ _ _=>rfl
section
variable{X:Cx}
noncomputable def XR(K:eO):R2:=λx y H Q=>∃a b d e,x = .ref a/\y = .ref b/\i3 K H a d/\i3 K H b e/\d.length+e.length<=lV/\
 (d=[]->Q (.ref b) H)/\(e=[]->Q (.ref a) H)/\∀p,H p=f6->Q (.ref p) (upd H p<|.tup<|d++e)
theorem Xk:lY X (nN .Add) (XR X.K):=by
 intro k s σ H x y v u Q I P S h;obtain⟨a,b,l,Z,rfl,rfl,C,E,M,G,L,N⟩:=h;cases P;cases S;obtain⟨d,r,O,z1⟩:=I.tuple C;obtain⟨m,B,R,z2⟩:=I.tuple E;by_cases J:l=[]
 ·have e:d=[]:=(r.pO).mpr J
  obtain⟨⟨w,A,i,T⟩,U,W,n,j⟩:=id O;obtain⟨⟨as,p,data2,t⟩,Y,f,F,g⟩:=id R;simp only at W j f g;subst W j f g;exact concat_meets ⟨_,U,rfl⟩ ⟨_,Y,rfl⟩ lU sk iL iI (iA _ _)
   (tuple_addW0 a b d.toArray m.toArray n F A p T t<|by simp[e]) ⟨U,Y,⟨.ref b,H,I,rfl,G J⟩⟩
 ·have e:d ≠ []:=λz=>J ((r.pO).mp z)
  refine HT.aL O R e (λz=>⟨.ref a,H,I,rfl,L<|(B.pO).mp z⟩) (λ_=>?_) (by rw[<- r.length,<- B.length];exact M);refine⟨.ref s.heap.objs.size,_,I.laid (t':=s.toks) (o:= .tup (l++Z)) (λc ob q=>eQ _ q) (eW _) ?_,rfl,N _<|I.i5.fresh<|eW _⟩;exact⟨by rw[gp];exact M,_,r.append B,nL.new _ _⟩
end
noncomputable def qg(scope g:i8):i8:={scope with names:=scope.names.map λp=>if p.2==fu && g.kind == .function && g.names.lookup p.1==dV .cell then (p.1,gx)else (p.1,p.2)}
theorem Zx(scope:i8)(env:mD):nF scope env=qg scope env.scope:=by unfold nF qg;rfl
structure SX(X:Cx)(sc:i8)(N T:List Str)(k:Nat):Prop where
 oE:X.env.scope=sc
 eN:X.N=N
 nd:N.Nodup
 calm:X.calm=e6
 room:mJ k X.A
 fn : ∀x∈T,X.fn x=e6\/sc.names.lookup x=dV .local
noncomputable def kX(g:i8)(N:List Str)(i:Nat)(x:Str):Bool:=
 decide (N[i]? = dV x) && (decide (g.names.lookup x=dV .local) || decide (g.names.lookup x=dV .cell) || decide (g.names.lookup x=dV .free)) && !(x==("__debug__" : Str)) && !(x==("__classdict__" : Str))
noncomputable def xh(g:i8)(N T:List Str)(i:Nat)(x:Str):Bool:=decide (x∈T) && decide (N[i]? = dV x) && (decide (g.names.lookup x=dV .local) || decide (g.names.lookup x=dV .cell))
noncomputable def xp(g:i8)(x:Str):Bool:=decide (g.names.lookup x=dV .globalImplicit) && !(x==("__name__" : Str)) && !(x==("__debug__" : Str))
section
variable{X:Cx}{sc:i8}{N T:List Str}{k:Nat}{i:Nat}{x:Str}{pos:i7}
theorem SX.var(h:SX X sc N T k)(c:kX sc N i x=e6):PE X (.Name x pos) (Kk i):=by
 unfold kX at c;simp only[fe,fR,decide_eq_true_eq,iK]at c;obtain⟨⟨⟨a,h2⟩,d⟩,z⟩:=c;refine YZ (by rw[h.eN];exact a) ?_ d z;unfold ra;rw[h.oE];rcases h2 with(h2 | h2) | h2
 ·exact .inl h2
 ·exact .inr<|.inl h2
 ·exact .inr<|.inr h2
theorem SX.loc(h:SX X sc N T k)(c:xh sc N T i x=e6):X.N[i]? = dV x/\L2.Loc X.env.scope x/\(X.fn x=e6\/X.env.scope.names.lookup x=dV .local):=by
 unfold xh at c;simp only[fe,fR,decide_eq_true_eq]at c;refine⟨by rw[h.eN];exact c.1.2,?_,?_⟩
 ·unfold L2.Loc;rw[h.oE];exact c.2
 ·rw[h.oE];exact h.fn x c.1.1
theorem SX.rE(h:SX X sc N T k):X.N.Nodup:=by rw[h.eN];exact h.nd
theorem SX.nI(h:SX X sc N T k)(i:Nat)(c:xh sc N T i x=e6):PG X (.Name x pos) (qc i):=by obtain⟨a,b,d⟩:=h.loc c;exact JB h.rE a b d
theorem SX.pZ(h:SX X sc N T k)(g:o8 X es (gs is))(t:(ox es X.env).length=is.length:=by rfl)(d:(ox es X.env).findIdx? (·.1)=f6:=by rfl):PG X (.Tuple es j pos) (nC X.K<|.tp is):=
 YY h.calm g t d
theorem SX.set(h:SX X sc N T k)(i:Nat)(c:xh sc N T i x=e6)(d:PE X e te)(z:nH e (dV (.Name x pos')) pos.line X.env=pure f9:=by rfl):PS X (.Assign [.Name x pos'] e pos) (y0 te<|qc i):=by obtain⟨a,b,B⟩:=h.loc c;exact YQ h.rE a b d z B
theorem SX.gl(h:SX X sc N T k)(c:xp sc x=e6):Gl X x/\x ≠ "__name__"/\(x==("__debug__" : Str))=f9:=by
 unfold xp at c;simp only[fe,decide_eq_true_eq,iK]at c;refine⟨?_,?_,c.2⟩
 ·show X.env.scope.names.lookup x=_
  rw[h.oE];exact c.1.1
 ·intro e;rw[e]at c;simp at c
noncomputable def wy(sc scope:i8)(N:List Str)(g:List (Str×Nat)):Bool:=
 decide (scope.kind = .function) && decide ((scope.names.map (·.1)).Nodup) && scope.names.all (λp=> !(p.2==fu) || decide (sc.names.lookup p.1=dV .cell) || decide (sc.names.lookup p.1=dV .free)) &&
 g.all λp=>decide (scope.names.lookup p.1=dV .free) && decide (N[p.2]? = dV p.1)
noncomputable def WQ(own:List Str)(scope:i8)(g:List (Str×Nat)):Bool:=decide ((own++g.map (·.1)).Nodup) && own.all (λx=>decide (scope.names.lookup x=dV .local) || decide (scope.names.lookup x=dV .cell))
theorem SX.sO(h:SX X sc N T k)(c:wy sc scope N fr=e6):nJ X scope fr:=by
 unfold wy at c;simp only[fe,decide_eq_true_eq,fJ,fR,iK]at c;obtain⟨⟨⟨B,I⟩,J⟩,z⟩:=c;refine⟨B,I,λp d M=>?_,λp d=>⟨(z p d).1,by rw[h.eN];exact(z p d).2⟩⟩;have e:X.env.kindOf p.1=sc.names.lookup p.1:=by show X.env.scope.names.lookup p.1=_;rw[h.oE]
 rw[e];rcases J p d with(q | q) | q
 ·rw[M]at q;exact absurd q ⋯
 ·exact .inl q
 ·exact .inr q
theorem kK(scope sc:i8)(x:Str):(qg scope sc).names.lookup x=(scope.names.lookup x).map λk=>if (k==fu && sc.kind == .function && sc.names.lookup x==dV .cell)then gx else k:=by
 unfold qg;dsimp only;generalize scope.names=l
 induction l with
 | nil=>rfl
 | cons p r z=>
  obtain⟨n,B⟩:=p;rw[fO];cases hx:x==n with
  | true=>
   have e:x=n:=by simpa using hx
   subst e;dsimp only;split
   ·rename_i d;rw[fI,fI,beq_self_eq_true];dsimp only[lq];rw[GJ d]
   ·rename_i d;rw[fI,fI,beq_self_eq_true];dsimp only[lq];rw[GY d]
  | false=>
   dsimp only;split
   ·rw[fI,fI,hx];exact z
   ·rw[fI,fI,hx];exact z
theorem SX.comp(h:SX X sc N T k)(c:WQ own scope fr=e6) :
 SX (zO X scope (own++fr.map (·.1)) fp s2 H2) (qg scope sc) (own++fr.map (·.1)) own k:=by
 unfold WQ at c;simp only[fe,decide_eq_true_eq,fJ,fR]at c;refine⟨?_,rfl,c.1,h.calm,h.room,λx d=>?_⟩
 ·show nF scope X.env=_
  rw[Zx,h.oE]
 ·rcases c.2 x d with q | q
  ·right;rw[kK,q];rfl
  ·left
   show(scope.names.lookup x==dV .cell)=e6;rw[q];rfl
end
mutual
def mi:D->PyData
 | .i4=> .none
 | .bl b=> .bool b
 | .int i=> .int i
 | .str x=> .str x
 | .tup a=> .tuple (mW a)
 | .lst a=> .list (mW a)
 | .mn _ _=> .none
 | .md _ _=> .none
def mW:List D->List PyData
 | []=>[]
 | d::ds=>mi d::mW ds
end
theorem n5(h:mu (.mn ks vs)=e6):False:=by simp[mu]at h
theorem n0(h:mu (.md ks vs)=e6):False:=by simp[mu]at h
mutual
theorem rn : ∀x y:D,mu x=e6->mu y=e6->hB (mi x) (mi y)=mq x y
 | .i4,y,_,h=>by cases y<;>first | exact(n5 h).elim | exact(n0 h).elim | simp[mi,hB,mq]
 | .bl a,y,_,h=>by cases y<;>first | exact(n5 h).elim | exact(n0 h).elim | simp[mi,hB,mq]
 | .int a,y,_,h=>by cases y<;>first | exact(n5 h).elim | exact(n0 h).elim | simp[mi,hB,mq]
 | .str a,y,_,h=>by cases y<;>first | exact(n5 h).elim | exact(n0 h).elim | simp[mi,hB,mq]
 | .mn c n,y,h,_=>(n5 h).elim
 | .md c n,y,h,_=>(n0 h).elim
 | .tup xs,y,h1,h2=>by
  cases y with
  | tup b=>simp only[mu]at h1 h2;simp only[mi,hB,mq];exact ro xs b h1 h2
  | mn c n=>exact(n5 h2).elim
  | md c n=>exact(n0 h2).elim
  | _=>simp[mi,hB,mq]
 | .lst xs,y,h1,h2=>by
  cases y with
  | lst b=>simp only[mu]at h1 h2;simp only[mi,hB,mq];exact ro xs b h1 h2
  | mn c n=>exact(n5 h2).elim
  | md c n=>exact(n0 h2).elim
  | _=>simp[mi,hB,mq]
theorem ro : ∀xs ys:List D,m9 xs=e6->m9 ys=e6->iX (mW xs) (mW ys)=nk xs ys
 | [],ys,_,_=>by cases ys<;>simp[mW,iX,nk]
 | x::xs,ys,h1,h2=>by
  cases ys with
  | nil=>simp[mW,iX,nk]
  | cons y ys=>
   simp only[m9,fe]at h1 h2;simp only[mW,iX,nk];rw[rn x y h1.1 h2.1,ro xs ys h1.2 h2.2]
end
mutual
theorem sd : ∀x:D,mu x=e6->(mi x).canLay0=e6
 | .i4,_=>by simp[mi,hJ]
 | .bl a,_=>by simp[mi,hJ]
 | .int a,_=>by simp[mi,hJ]
 | .str a,h=>by simpa[mi,hJ,mu,PyData.strOk]using h
 | .tup xs,h=>by simp only[mu]at h;simp only[mi,hJ];exact rA xs h
 | .lst xs,h=>by simp only[mu]at h;simp only[mi,hJ];exact rA xs h
 | .mn c n,h=>(n5 h).elim
 | .md c n,h=>(n0 h).elim
theorem rA : ∀xs:List D,m9 xs=e6->lp (mW xs)=e6
 | [],_=>by simp[mW,lp]
 | x::xs,h=>by simp only[m9,fe]at h;simp only[mW,lp];rw[sd x h.1,rA xs h.2];rfl
end
mutual
theorem r2 : ∀x:D,(mi x).depth=deep x
 | .i4=>by simp[mi,gM,deep]
 | .bl a=>by simp[mi,gM,deep]
 | .int a=>by simp[mi,gM,deep]
 | .str a=>by simp[mi,gM,deep]
 | .mn c n=>by simp[mi,gM,deep]
 | .md c n=>by simp[mi,gM,deep]
 | .tup b=>by simp only[mi,gM,deep];rw[rj b]
 | .lst b=>by simp only[mi,gM,deep];rw[rj b]
theorem rj : ∀xs:List D,PyData.depthAll (mW xs)=nj xs
 | []=>by simp[mW,PyData.depthAll,nj]
 | x::xs=>by simp only[mW,PyData.depthAll,nj];rw[r2 x,rj xs]
end
theorem qA(h:mv d=e6):mu d=e6:=by unfold mv at h;rw[fe]at h;exact h.2
theorem xi(h:mv d=e6):SeqAt.shaped (mi d)=e6:=by unfold mv at h;rw[fe,decide_eq_true_eq]at h;unfold SeqAt.shaped;rw[sd d h.2,Bool.true_and,r2];exact decide_eq_true ⋯
section
variable{X:Cx}{pins:GW}{σ:St}{H0 H:Hp}{s:hL}
mutual
theorem pw(I:Inv X pins σ H s)(sub:i1 H0 H) : ∀{d:D} {v:V} {u:hA},mu d=e6->Rep X.K H0 d v->RelV v u->∃z,Reads s.heap u (mi d) z
 | .i4,v,u,_,h,r=>by cases (show v = .i4 from h);cases r;exact⟨_,.none⟩
 | .bl b,v,u,_,h,r=>by cases (show v = .bl b from h);cases r;exact⟨_,.bool b⟩
 | .int i,v,u,_,h,r=>by cases (show v = .int i from h);obtain⟨t,rfl⟩:=r;exact⟨_,.int i t⟩
 | .str x,v,u,_,h,r=>by cases (show v = .str x from h);obtain⟨t,rfl⟩:=r;exact⟨_,.str x t⟩
 | .mn c n,v,u,o,_,_=>(n5 o).elim
 | .md c n,v,u,o,_,_=>(n0 o).elim
 | .tup ds,v,u,o,h,r=>by obtain⟨a,e,rfl,f,g⟩:=(show ∃a e,v = .ref a/\i3 X.K H0 a e/\g9 X.K H0 ds e from h);cases r;simp only[mu]at o;obtain⟨R,B,⟨U,J,M,n,j⟩,W⟩:=I.tuple<|mE sub f;obtain⟨z,O⟩:=rH I sub o g B;exact⟨z,.tuple J M j<|by simpa using O⟩
 | .lst ds,v,u,o,h,r=>by obtain⟨a,e,rfl,f,g⟩:=(show ∃a e,v = .ref a/\i2 X.K H0 a e/\g9 X.K H0 ds e from h);cases r;simp only[mu]at o;obtain⟨R,B,p,W⟩:=I.list<|sub.seq f;obtain⟨U,J,M,n,j⟩:=p.isList;obtain⟨z,O⟩:=rH I sub o g B;exact⟨_,.list J M j<|by simpa using O⟩
theorem rH(I:Inv X pins σ H s)(sub:i1 H0 H) : ∀{g:List D} {xs:List V} {C:List hA},m9 g=e6->g9 X.K H0 g xs->i0 xs C->∃z,ReadsAll s.heap C (mW g) z
 | [],xs,C,_,h,r=>by rw[h.nD]at r;cases r;exact⟨_,.nil⟩
 | d::g,xs,C,o,h,r=>by
  obtain⟨x,t,e,a,b⟩:=h.m8;subst e;simp only[m9,fe]at o;cases r with
  | cons B J=>
   obtain⟨z,M⟩:=pw I sub o.1 a B;obtain⟨bs,O⟩:=rH I sub o.2 b J;exact⟨_,.cons M O⟩
end
end
noncomputable def bQ(K:eO):R2:=λx y H Q=>∃a b d,i1 a H/\Rep K a b x/\Rep K a d y/\mv b=e6/\mv d=e6/\Q (.bl<|mq b d) H
noncomputable def bP(K:eO):R2:=λx y H Q=>∃a b d,i1 a H/\Rep K a b x/\Rep K a d y/\mv b=e6/\mv d=e6/\Q (.bl<|!mq b d) H
theorem X1(B:X.A.units+64<cLine):lY X (mL .Eq) (bQ X.K):=by intro a s f H x y v u Q I J M h;obtain⟨b,e,Y,sub,O,R,d,z,q⟩:=h;obtain⟨as,U⟩:=pw I sub (qA d) O J;obtain⟨bs,W⟩:=pw I sub (qA z) R M;exact eq_dataH U W (xi d) (xi z) B ⟨.bl _,H,I,by rw[rn _ _ (qA d) (qA z)];rfl,q⟩
theorem Vd(B:X.A.units+64<cLine):lY X (mL .NotEq) (bP X.K):=by intro a s f H x y v u Q I J M h;obtain⟨b,e,Y,sub,O,R,d,z,q⟩:=h;obtain⟨as,U⟩:=pw I sub (qA d) O J;obtain⟨bs,W⟩:=pw I sub (qA z) R M;exact ne_dataH U W (xi d) (xi z) B ⟨.bl _,H,I,by rw[rn _ _ (qA d) (qA z)];rfl,q⟩
theorem ZZ{K:eO}:mB K (bQ K) lZ:=λa H x y b B d Q s I J z q=>by
 unfold lZ at z;split at z
 ·rename_i h;cases z;exact⟨a,b,B,s,I,J,h.1,h.2,q _ H a (Ext.refl s) rfl⟩
 ·cases z
theorem Kq{K:eO}:mB K (bP K) mm:=λa H x y b B d Q s I J z q=>by
 unfold mm at z;split at z
 ·rename_i h;cases z;exact⟨a,b,B,s,I,J,h.1,h.2,q _ H a (Ext.refl s) rfl⟩
 ·cases z
theorem SX.rQ(h:SX X sc N T k):X.A.units+64<cLine:=by have:=h.room.un;omega
section
variable{X:Cx}{sc:i8}{N T:List Str}{k:Nat}{a b c:hH}{pos p:i7}{fa fb fc:CO D}
theorem wU(g:PV X a fa)(d:PV X b fb):PV X (.BinOp a .Sub b pos) (zo K7 fa fb):=yf Va Ko g d
theorem vg(g:PV X a fa)(d:PV X b fb):PV X (.BinOp a .FloorDiv b pos) (zo Zf fa fb):=yf KU Kt g d
theorem jr(g:PV X a fa)(d:PV X b fb):PV X (.BinOp a .Mod b pos) (zo qW fa fb):=yf Ve Ks g d
theorem Jj(g:PV X a fa)(d:PV X b fb):PV X (.BinOp a .Pow b pos) (zo K8 fa fb):=yf Vb Kp g d
theorem W4(g:PV X a fa)(d:PV X b fb):PV X (.Compare a [.LtE] [b] pos) (zo oh fa fb):=wW JI va g d<|kF b
theorem W5(g:PV X a fa)(d:PV X b fb):PV X (.Compare a [.Gt] [b] pos) (zo nT fa fb):=wW Vf XM g d<|kF b
theorem W6(g:PV X a fa)(d:PV X b fb):PV X (.Compare a [.GtE] [b] pos) (zo pa fa fb):=wW ae Yx g d<|kF b
theorem vY(h:SX X sc N T k)(g:PV X a fa)(d:PV X b fb):PV X (.Compare a [.Eq] [b] pos) (zo lZ fa fb):=wW (X1 h.rQ) ZZ g d<|kF b
theorem YM(g:PV X a fa)(d:PV X b fb):mO X (.Compare a [.Gt] [b] pos) (sB<|zo nT fa fb):=vZ Vf XM g d<|kF b
theorem yh(h:SX X sc N T k)(g:PV X a fa)(d:PV X b fb):mO X (.Compare a [.Eq] [b] pos) (sB<|zo lZ fa fb):=vZ (X1 h.rQ) ZZ g d<|kF b
theorem qu(h:SX X sc N T k)(g:PV X a fa)(d:PV X b fb):mO X (.Compare a [.NotEq] [b] pos) (sB<|zo mm fa fb):=vZ (Vd h.rQ) Kq g d<|kF b
theorem xA{K:eO}{H:Hp}{g:List D}{v:V}(h:Rep K H (.tup g) v) : ∃a xs,v = .ref a/\i3 K H a xs/\g9 K H g xs:=h
theorem wj{K:eO}{H:Hp}{g:List D}{v:V}(h:Rep K H (.lst g) v) : ∃a xs,v = .ref a/\i2 K H a xs/\g9 K H g xs:=h
theorem jN{K:eO}{H:Hp}{g:List D}{a:g6}{xs:List V}(t:i3 K H a xs)(z:g9 K H g xs):Rep K H (.tup g) (.ref a):=⟨a,xs,rfl,t,z⟩
theorem xB{K:eO}{H:Hp}{g:List D}{a:g6}{xs:List V}(t:i2 K H a xs)(z:g9 K H g xs):Rep K H (.lst g) (.ref a):=⟨a,xs,rfl,t,z⟩
theorem Ku{K:eO}:mB K (λx y H Q=>ng (λi j=> .int (i+j)) x y H Q\/XR K x y H Q) qE:=λg H x y m R d Q s I J B q=>by
 cases m<;>cases R<;>simp[qE]at B
 ·subst B;exact .inl ⟨_,_,jh I,jh J,q _ H g (Ext.refl s) rfl⟩
 ·rename_i l n
  obtain⟨U,rfl⟩:=B;obtain⟨a,o,rfl,k,f⟩:=xA I;obtain⟨b,r,rfl,M,z⟩:=xA J;refine .inr ⟨a,b,o,r,rfl,rfl,mE s k,mE s M,q8 (by rw[f.length,z.length];exact U),λe=>?_,λe=>?_,λp O=>?_⟩
  ·have h:l=[]:=by
    have:=f.length;rw[e]at this;exact fA this.symm
   subst h;exact q _ H g (Ext.refl s)<|jN M z
  ·have h:n=[]:=by
    have:=z.length;rw[e]at this;exact fA this.symm
   subst h;exact q _ H g (Ext.refl s) (by rw[iP];exact jN k f)
  ·exact q _ _ _ (Ext.alloc s O _)<|jN (i3.of zu)<|(f.append z).mono (zC (je s O) _)
theorem jJ(g:PV X a fa)(d:PV X b fb):PV X (.BinOp a .Add b pos) (zo qE fa fb):=yf (td.or Xk) Ku g d
end
theorem wK(B:A.handled=f6)(k:Sk)(I d:g6)(J:d≠I)(z:Array hA) :
 Walks P w A I [I,d] [I] z.size (λi v=>z[i]? = dV v) (λi h=>my k h I d i/\mK k h d z):=by
 cases k
 ·exact Walks.list B I d J z
 ·exact Walks.tuple B I d J z
theorem ku(g:List Int) : ∀n,preSum (λi=>g.getD i 0) n=(g.take n).sum
 | 0=>by simp[preSum]
 | n+1=>by
  have d:=ku g n;simp only[preSum,d];by_cases h:n<g.length
  ·rw[lF h,List.sum_append]
   simp[h]
  ·rw[hU ⋯,hU ⋯]
   simp[h]
section
variable{X:Cx}{pins:GW}{σ:St}{H:Hp}{s:hL}
theorem Qt(R:X.calm=e6):yT X (.builtin "sum") (λxs H Q=>∃p k ys g,xs=[.ref p]/\mz k X.K H p ys/\ys=(g:List Int).map V.int/\Q (.int g.sum) H):=by
 intro pins s σ H y w Q I U h;obtain⟨p,k,ys,g,rfl,W,rfl,q⟩:=h;obtain⟨u,rfl,z⟩:=kY U;cases z;obtain⟨d,r,B,n⟩:=I.sq W;have lt:=B.lt;have J:=r.length;rw[gy]at J;refine call_sum_walkG<|Zc B ⟨_,[_,p],[_],d.toArray.size,_,_,λi=>g.getD i 0,rfl,wK (A:=X.A.in1) (I.ok.hd R) k _ p (fF lt) d.toArray,⟨Zd k _ p,B.at λo e=>eQ _ e⟩,?_,?_,?_⟩
 ·intro b M
  rw[fT];simp only[eY,fD,or_false]at M;rcases M with rfl | rfl
  ·exact ie _
  ·exact fW lt
 ·intro i v Y
  have O:d[i]? = dV v:=by simpa using Y
  have f:i<g.length:=by rw[J];exact(eU.mp O).1
  obtain⟨u,a,z⟩:=r.get (i:=i) (x:= .int g[i]) (by simp[f]);rw[O]at a;cases a;obtain⟨t,rfl⟩:=z;exact⟨t,by simp[f]⟩
 ·intro m l t' j
  have e:preSum (λi=>g.getD i 0) d.toArray.size=g.sum:=by rw[ku,hU (by rw[fi,J];exact eW _)]
  refine⟨.int g.sum,H,I.kept (t':=l)<|λb u e=>j b u ?_ (eQ _ e),⟨t',by rw[e]⟩,q⟩;simp only[eY,fD,or_false];exact fF<|ff e
noncomputable def Yr:V->Option Bool
 | .i4=>dV f9
 | .bl b=>dV b
 | .int i=>dV (i != 0)
 | _=>f6
theorem QK(r:RelV x u)(e:Yr x=dV b)(q:Q b s):wpAny (hO P w) A (truthy u) Q E s:=by
 cases x with
 | i4=>cases r;cases e;exact λ_ _ _=>q
 | bl c=>cases r;cases e;exact gk q
 | int i=>obtain⟨t,rfl⟩:=r;cases e;exact PyProof.Rows.truthy_int q
 | _=>cases e
noncomputable def ZW:List V->Option (List Bool)
 | []=>dV []
 | x::r=>(Yr x).bind λb=>(ZW r).map λl=>b::l
theorem yZ : ∀{xs:List V} {bs:List Bool},ZW xs=dV bs->bs.length=xs.length/\∀(i:Nat) x,xs[i]? = dV x->Yr x=dV (bs.getD i f9)
 | [],bs,h=>by cases h;exact⟨rfl,λi x e=>by simp at e⟩
 | y::xs,bs,h=>by
  obtain⟨b,a,h⟩:=zb h;obtain⟨l,d,h⟩:=zm h;subst h;obtain⟨f,g⟩:=yZ d;refine⟨by simp[f],λi x e=>?_⟩;cases i with
  | zero=>simp at e;subst e;simpa using a
  | succ i=>simpa using g i x (by simpa using e)
theorem QA(bs:List Bool):(eZ bs.length).all (λi=>bs.getD i f9)=bs.all id:=by
 rw[iv];simp only[fJ,gB,id_eq];constructor
 ·intro h b d
  obtain⟨i,a,e⟩:=List.mem_iff_getElem.mp d;have:=h i a;rw[List.getD_eq_getElem?_getD,eT a]at this;rw[<- e];exact this
 ·intro h i a
  rw[List.getD_eq_getElem?_getD,eT a];exact h _<|List.getElem_mem a
theorem Qv(O:X.calm=e6):yT X (.builtin "all") (λxs H Q=>∃p k ys bs,xs=[.ref p]/\mz k X.K H p ys/\ZW ys=dV bs/\Q (.bl (bs.all id)) H):=by
 intro pins s σ H G F Q I R h;obtain⟨p,k,ys,bs,rfl,U,W,q⟩:=h;obtain⟨u,rfl,z⟩:=kY R;cases z;obtain⟨d,r,B,C⟩:=I.sq U;have lt:=B.lt;have J:=r.length;obtain⟨Y,g⟩:=yZ W;refine call_all_walk<|Zc B ⟨_,[_,p],[_],d.toArray.size,_,_,λi=>bs.getD i f9,rfl,wK (A:=X.A.in1) (I.ok.hd O) k _ p (fF lt) d.toArray,⟨Zd k _ p,B.at λo e=>eQ _ e⟩,?_,?_⟩
 ·intro i v E w t m j
  have M:d[i]? = dV v:=by simpa using m
  have f:i<ys.length:=by rw[J];exact(eU.mp M).1
  obtain⟨u,a,z⟩:=r.get (i:=i) (x:=ys[i]) (by simp[f]);rw[M]at a;cases a;exact QK z (g i ys[i] (by simp[f])) j
 ·intro y n l
  have e:(eZ d.toArray.size).all (λi=>bs.getD i f9)=bs.all id:=by rw[fi,<- J,<- Y];exact QA bs
  refine⟨.bl<|bs.all id,H,I.kept (t':=n)<|λb u e=>l b u ?_ (eQ _ e),by rw[e];rfl,q⟩;simp only[eY,fD,or_false];exact fF<|ff e
end
section
variable{X:Cx}{sc:i8}{N T:List Str}{k:Nat}{e a b c:hH}{pos p p2:i7}{f g:CO D}{fq:CO (Sk×List D)}
theorem Yw{K:eO}{H:Hp}{k:Sk}{a:g6}{xs:List V}(h:mz k K H a xs):i2 K H a xs\/i3 K H a xs:=by
 cases k
 ·exact .inl h
 ·exact .inr h
theorem jF(h:SX X sc N T k)(c:xp sc "len" = e6)(z:X.mg "len" = f6)(I:PQ X e fq)(B:i6 [e] X.env=[(f9,hI e X.env)]:=by rfl):PV X (.Call (.Name "len" p) [e] [] pos) (xZ fq):=
 jm (x9 vE (h.gl c).1 z PySem.boot_len (zX I jQ B) ⋯ ⋯ B rfl) λu H Q J=>by obtain⟨j,s,d,rc,M,q⟩:=J;obtain⟨⟨o,f⟩,l,m⟩:=zm M;subst m;refine⟨j,s,o,f,rc,l,λa g i b ext n t r=>⟨a,g,rfl,Yw n,?_⟩⟩;exact q _ i b ext (show V.int g.length = .int f.length by rw[r.length])
theorem jW(h:SX X sc N T k)(c:xp sc "tuple" = e6)(z:X.mg "tuple" = f6)(J:PQ X e fq)(B:i6 [e] X.env=[(f9,hI e X.env)]:=by rfl):PV X (.Call (.Name "tuple" p) [e] [] pos) (jc fq):=
 jm (ky yL (h.gl c).1 z ip (zX J jQ B) ⋯ ⋯ B rfl) λw H Q M=>by
  obtain⟨j,u,d,rc,O,q⟩:=M;obtain⟨⟨g,m⟩,n,o⟩:=zm O;subst o;refine⟨j,u,g,m,rc,n,λa t i b ext f s r=>⟨a,t,rfl,?_⟩⟩;cases g with
  | L=>exact .inl ⟨f,λl I=>q _ _ _ (ext.trans<|Ext.alloc ext.sub I _)<|jN (i3.of zu)<|r.mono<|zC (je ext.sub I) _⟩
  | T=>exact .inr ⟨f,q _ i b ext (jN (s rfl) r)⟩
theorem JP{H t:Hp}(s:i1 H t){a:g6}(h:t a=f6):H a=f6:=by
 cases z:H a with
 | none=>rfl
 | some o=>rw[s a o z]at h;cases h
theorem v9(h:SX X sc N T k)(c:xp sc "list" = e6)(z:X.mg "list" = f6)(J:PQ X e fq)(I:i6 [e] X.env=[(f9,hI e X.env)]:=by rfl):PO X (.Call (.Name "list" p) [e] [] pos) (qY fq):=
 jm (ky vC (h.gl c).1 z PyProof.Rows.boot_list (zX J jQ I) ⋯ ⋯ I rfl) λw H Q M=>by obtain⟨g,s,d,rc,O,q⟩:=M;obtain⟨⟨o,i⟩,j,m⟩:=zm O;subst m;refine⟨g,s,o,i,rc,j,λa f t b ext n u r=>⟨a,f,rfl,Yw n,λl B=>?_⟩⟩;exact q l f _ b (ext.trans<|Ext.hide ext.sub B _) (JP ext.s1 B) (je ext.sub B) zu r
theorem y6 : ∀{z:List D} {n:Int},QO z=dV n->∃t:List Int,z=t.map D.int/\n=t.sum
 | [],n,h=>by cases h;exact⟨[],rfl,rfl⟩
 | d::z,n,h=>by
  cases d with
  | int i=>
   obtain⟨s,e,h⟩:=zm h;obtain⟨t,rfl,rfl⟩:=y6 e;exact⟨i::t,rfl,by rw[<- h];simp⟩
  | _=>cases h
theorem vc{K:eO}{H:Hp} : ∀{t:List Int} {xs:List V},g9 K H (t.map D.int) xs->xs=t.map V.int
 | [],xs,h=>h.nD
 | z::t,xs,h=>by obtain⟨x,r,e,a,b⟩:=g9.m8 h;rw[e,jh a,vc b];rfl
theorem YK(h:SX X sc N T k)(c:xp sc "sum" = e6)(z:X.mg "sum" = f6)(M:PQ X e fq)(J:i6 [e] X.env=[(f9,hI e X.env)]:=by rfl):PV X (.Call (.Name "sum" p) [e] [] pos) (bB fq):=
 jm (x9 (Qt h.calm) (h.gl c).1 z PyProof.Rows.boot_sum (zX M jQ J) ⋯ ⋯ J rfl) λx H Q O=>by obtain⟨j,u,d,rc,B,q⟩:=O;obtain⟨⟨f,l⟩,m,B⟩:=zb B;obtain⟨n,o,R⟩:=zm B;subst R;obtain⟨g,I,rfl⟩:=y6 o;have I:l=g.map D.int:=I;subst I;exact⟨j,u,f,_,rc,m,λa t i b ext s w r=>⟨a,f,t,g,rfl,s,vc r,q _ i b ext rfl⟩⟩
theorem Ki{K:eO}{H:Hp}{d:D}{x:V}{b:Bool}(h:Rep K H d x)(e:WH d=dV b):Yr x=dV b:=by
 cases d with
 | i4=>cases (show x = .i4 from h);exact e
 | bl c=>cases (show x = .bl c from h);exact e
 | int i=>cases (show x = .int i from h);exact e
 | _=>cases e
theorem wL{K:eO}{H:Hp} : ∀{t:List D} {xs:List V} {bs:List Bool},g9 K H t xs->Zv t=dV bs->ZW xs=dV bs
 | [],xs,bs,h,e=>by rw[h.nD];exact e
 | d::t,xs,bs,h,e=>by obtain⟨x,r,z,g,i⟩:=h.m8;obtain⟨b,a,e⟩:=zb e;obtain⟨l,f,e⟩:=zm e;subst z e;show(Yr x).bind _=_;rw[Ki g a];show((ZW r).map λl=>b::l)=_;rw[wL i f];rfl
theorem vh(h:SX X sc N T k)(c:xp sc "all" = e6)(z:X.mg "all" = f6)(J:PQ X e fq)(I:i6 [e] X.env=[(f9,hI e X.env)]:=by rfl):PV X (.Call (.Name "all" p) [e] [] pos) (Yo fq):=
 jm (x9 (Qv h.calm) (h.gl c).1 z PyProof.Rows.boot_all (zX J jQ I) ⋯ ⋯ I rfl) λu H Q M=>by obtain⟨i,o,d,rc,B,q⟩:=M;obtain⟨⟨f,s⟩,j,B⟩:=zb B;obtain⟨bs,l,O⟩:=zm B;subst O;exact⟨i,o,f,_,rc,j,λa n g b ext m t r=>⟨a,f,n,bs,rfl,m,wL r l,q _ g b ext rfl⟩⟩
theorem KF(h:SX X sc N T k)(c:xp sc "int" = e6)(z:X.mg "int" = f6)(J:PV X e f)(I:i6 [e] X.env=[(f9,hI e X.env)]:=by rfl):PV X (.Call (.Name "int" p) [e] [] pos) (Jg f):=
 jm (ky Qu (h.gl c).1 z PyProof.Rows.boot_int (zX J jQ I) ⋯ ⋯ I rfl) λo H Q M=>by
  obtain⟨l,n,d,rc,B,q⟩:=M;obtain⟨j,m,B⟩:=zb B;refine⟨l,n,j,rc,m,λv g a ext r=>?_⟩;cases j with
  | int i=>cases B;exact .inl ⟨i,by rw[jh r],q _ g a ext rfl⟩
  | bl b=>cases B;exact .inr ⟨b,by rw[show v = .bl b from r],q _ g a ext rfl⟩
  | _=>cases B
end
section
variable{X:Cx}{sc:i8}{N T:List Str}{k:Nat}{e a b c:hH}{pos p p2:i7}{f g:CO D}{fq:CO (Sk×List D)}
theorem X3(h:mC n i=dV j):oV n i=dV j:=by
 unfold mC at h;unfold oV;split at h
 ·rename_i a;rw[GJ a.1,GJ a.2];exact h
 ·split at h
  ·rename_i a b;rw[GY ⋯,GJ ⋯];exact h
  ·cases h
theorem zB(C:PQ X a fq)(O:PV X b g)(R:wH b:=by intro _ _;rfl):PV X (.Subscript a b pos) (hF fq g):=
 jm (Y4 (sY.or Vt) C O R) λK H Q U=>by
  obtain⟨n,m,d,rc,z,q⟩:=U;obtain⟨⟨l,t⟩,u,z⟩:=zb z;obtain⟨i,f,z⟩:=zb z;obtain⟨W,Y,f⟩:=zb f;obtain⟨j,w,z⟩:=zb z;refine⟨n,m,l,t,rc,u,λp h E e ext k F r=>⟨e,m,W,rc.ext ext,Y,λG o s B I=>?_⟩⟩;rw[xu f]at I;obtain⟨x,y,A⟩:=r.get z;have J:oe h i=dV x:=by unfold oe;rw[r.length,X3 w];exact y
  have M:=q x o s (ext.trans B)<|A.mono B.s0;cases l with
  | L=>exact .inl ⟨p,h,i,x,rfl,jh I,B.s1.seq k,J,M⟩
  | T=>exact .inr ⟨p,h,i,x,rfl,jh I,mE B.s1 k,J,M⟩
theorem xH{P:ma}{w:j1}{A:mS}{E:GQ}{s:hL}{t G:g6}{d:Array hA}{B I:hA}{lo C:Option Int}{Q:GQ}(z:o7 s.heap t d)(J:s.heap.IsSliceOf G B I .none)(pl:nS B lo)(M:nS I C)
 (H:HT.hF d.size 0 lo=0/\HT.hF d.size d.size C=d.size) (h:Q (.ref t) s):wpAny (hO P w) A (oT (.ref t)<|.ref G) Q E s:=by
 obtain⟨os,O,R,Y⟩:=id J;have U:s.TypeIs (.ref G) "slice":=⟨os,O,R⟩;unfold oT
 try with_reducible refine wpAny_holding ?_
 first | refine eP (eX ?_) | skip
 refine eP (tG z.typeIs ⋯ ?_);refine eP (gi (name:=gg "__getitem__") z.typeIs fM
  (gE fM z.typeIs entry_tuple_getitem ?_ (sL _ _)))
 show wpAny _ _ (Builtin.Tuple.tupleItemsOf (.ref t) >>= _) _ _ s;refine eP<|iQ z ?_;refine eP<|lS U ?_;rw[GJ ⋯];refine eP<|HT.xV J pl M ?_;have W:(((HT.hF d.size 0 lo:Nat):Int)==0 && (1:Int)==1 && (HT.hF d.size d.size C - HT.hF d.size 0 lo)==d.size)=e6:=by rw[H.1,H.2];simp
 show wpAny _ _ (if (((HT.hF d.size 0 lo:Nat):Int)==0 && (1:Int)==1 && (HT.hF d.size d.size C - HT.hF d.size 0 lo)==d.size)=e6 then _ else _) _ _ s;rw[GJ W];refine eP (m:=gA _) ?_;unfold gA;refine eP<|lS z.typeIs<|eX ?_;rw[GJ ⋯];exact eP<|lQ<|eX ⟨_,rfl,eX h⟩
noncomputable def W0(K:eO):V->Option Int->Option Int->Hp->VK->Prop:=λx lo d H Q=>∃a b,x = .ref a/\i3 K H a b/\(HT.hF b.length 0 lo=0/\HT.hF b.length b.length d=b.length->Q (.ref a) H)/\∀p,H p=f6->Q (.ref p) (upd H p<|.tup<|Ya b lo d)
theorem Kv:q7 X (W0 X.K):=by
 intro e s k H x v O R lo g j Q I d z pl B h;obtain⟨a,b,rfl,J,U,W⟩:=h;by_cases f:HT.hF b.length 0 lo=0/\HT.hF b.length b.length g=b.length
 ·cases d
  obtain⟨Y,r,M,l⟩:=I.tuple J;have i:Y.toArray.size=b.length:=by rw[fi];exact r.length.symm
  refine⟨"tuple",_,fM.lookup,M.typeIs,?_⟩;exact xH M z pl B (by rw[i];exact f) ⟨.ref a,H,I,rfl,U f⟩
 ·exact Yy e s k H (.ref a) v O R lo g j Q I d z pl B ⟨a,b,rfl,J,f,W⟩
theorem ke(n d:Nat)(o:Option Int):J8 n d o=HT.hF n d o:=by cases o<;>rfl
theorem QS{K:eO}{H:Hp}{t:List D}{xs:List V}(r:g9 K H t xs)(lo z:Option Int):g9 K H (Yb t lo z) (Ya xs lo z):=by unfold Yb Ya;rw[<- ke,<- ke,r.length];exact(r.drop _).take _
theorem J7{t:List D}{lo z:Option Int}(h:HT.hF t.length 0 lo=0/\HT.hF t.length t.length z=t.length):Yb t lo z=t:=by unfold Yb;rw[ke,ke,h.1,h.2];simp
noncomputable def tB(K:eO)(f:CO (Option Int)):TO:=λg H Q=>∃d e o,RC K d H g e/\f e=dV o/\∀b a,Ext d H a b->Q o b
theorem JG:L2.PO X f6 (tB X.K V0):=λa s e H Q I ⟨b,f,o,rc,d,q⟩=>KJ a s e H Q I (by cases d;exact q H b<|Ext.refl rc.sub)
theorem JF(h:PV X e f):L2.PO X (dV e) (tB X.K<|pT f):=λa s n H Q I ⟨k,m,o,rc,z,q⟩=>KI h a s n H Q I (by
 obtain⟨i,g,l⟩:=zm z;obtain⟨d,B,g⟩:=zb g;subst l;refine⟨k,m,d,rc,B,λv j b x r=>?_⟩;rw[xu g]at r;exact⟨i,jh r,q j b x⟩)
theorem XS{lo t:Option hH}{J M:CO (Option Int)}(G:PV X a f)(U:L2.PO X lo (tB X.K J))(W:L2.PO X t (tB X.K M)):PV X (.Subscript a (.Slice lo t f6 p2) pos) (WU f J M):=
 jm (Xg Kv G U W) λP H Q Y=>by
  obtain⟨k,g,d,rc,z,q⟩:=Y;obtain⟨h,y,z⟩:=zb z;obtain⟨l,A,z⟩:=zb z;obtain⟨u,C,z⟩:=zb z;refine⟨k,g,h,rc,y,λv F b x r=>⟨b,g,l,rc.ext x,A,λL o I=>⟨o,g,u,(rc.ext x).ext I,C,λm s B=>?_⟩⟩⟩;have O:=x.trans<|I.trans B;cases h with
  | tup N=>
   cases z;obtain⟨n,E,rfl,i,e⟩:=xA<|r.mono (I.trans B).s0;have w:=e.length;refine⟨n,E,rfl,mE B.sub i,λj=>?_,λp R=>?_⟩
   ·rw[w]at j
    exact q _ m s O (by rw[J7 j];exact jN i e)
   ·exact q _ _ _ (O.trans<|Ext.alloc B.sub R _)<|jN (i3.of zu)<|(QS e _ _).mono (zC (je B.sub R) _)
  | _=>cases z
theorem wR{K:eO}{H:Hp}{t:List D}{xs:List V}(r:g9 K H t xs) : ∀n:Nat,g9 K H (eS n t).flatten (eS n xs).flatten
 | 0=>g9.nil
 | n+1=>by rw[gh,gh,gI,gI];exact r.append<|wR r n
theorem Vj{K:eO}{t c:String}{b:Bool}(h:(if ((lB t) == .type c)=e6 then dV e6 else if PySem.W.kitMeta c=e6 then (fastBuiltinMro t).map (·.contains (.type c))else f6)=dV b):gm K (.type t) (.type c)=dV b:=h
noncomputable def p4:Ty->String
 | .int=>"int"
 | .bool=>"bool"
 | .str=>"str"
 | .tuple=>"tuple"
 | .list=>"list"
noncomputable def Vk:D->String
 | .i4=>"NoneType"
 | .bl _=>"bool"
 | .int _=>"int"
 | .str _=>"str"
 | .tup _=>"tuple"
 | .lst _=>"list"
 | .mn _ _=>"dict"
 | .md _ _=>"dict"
theorem jM{K:eO}(T:Ty)(d:D):gm K (.type<|Vk d) (.type<|p4 T)=dV (yG T d):=by cases d<;>cases T<;>(dsimp only[Vk,p4,yG,X8,Vv,X5,X4,X7];exact Vj ⋯)
theorem Xq{G:GW}{L:St}{C H:Hp}{s:hL}{A:mS}{E:GQ}{Q:GQ}{d:D}{x:V}{u:hA}(I:Inv X G L H s)(sub:i1 C H)(B:RelV x u)(r:Rep X.K C d x)(T:Ty)
 (h : ∀O,Q (.bool (yG T d)) {s with toks:=O}):wpAny (hO X.prog X.w) A (call (.builtin "isinstance") [u,.type (p4 T)]) Q E s:=by
 cases d with
 | i4=>have e:=jM (K:=X.K) T .i4;cases (show x = .i4 from r);cases (show u=gO from B);exact fB lj I.me gw e (λz=>nomatch z) h
 | bl y=>have e:=jM (K:=X.K) T<|.bl y;cases (show x = .bl y from r);cases (show u=lC y from B);exact fB ll I.me gw e (λz=>nomatch z) h
 | int i=>have e:=jM (K:=X.K) T<|.int i;cases (show x = .int i from r);obtain⟨t,q⟩:=(show ∃t,u=Value.int i t from B);cases q;exact fB lE I.me gw e (λz=>nomatch z) h
 | str y=>have e:=jM (K:=X.K) T<|.str y;cases (show x = .str y from r);obtain⟨t,q⟩:=(show ∃t,u=lg y t from B);cases q;exact fB lD I.me gw e (λz=>nomatch z) h
 | tup k=>
  have e:=jM (K:=X.K) T<|.tup k;obtain⟨a,b,rfl,f,l⟩:=xA r;cases (show u=fS a from B);obtain⟨R,U,⟨o,J,M,_⟩,W⟩:=I.tuple<|mE sub f;exact fB iU I.me ⟨o,J,M⟩ e (λz=>nomatch z) h
 | lst k=>
  have e:=jM (K:=X.K) T<|.lst k;obtain⟨a,b,rfl,f,l⟩:=wj r;cases (show u=fS a from B);obtain⟨R,U,p,W⟩:=I.list<|sub.seq f;obtain⟨o,J,M,_⟩:=p.isList;exact fB iz I.me ⟨o,J,M⟩ e (λz=>nomatch z) h
 | mn g j=>
  have e:=jM (K:=X.K) T<|.mn g j;obtain⟨a,b,rfl,⟨m,_,_,f⟩,_⟩:=(show ∃a b,x = .ref a/\o3 C a g b/\g9 X.K C j b from r);exact JT I B (.dK<|sub _ _ f) e h
 | md g j=>
  have e:=jM (K:=X.K) T<|.md g j;obtain⟨a,b,rfl,⟨_,o,n,f,l,_⟩,_⟩:=(show ∃a b,x = .ref a/\o4 X.K C a g b/\g9 X.K C j b from r);cases (show u=fS a from B);obtain⟨J,_⟩:=(show mr X.prog X.w H s.heap a (rf a o)from I.i5 a _<|sub _ _ f);exact fB gW I.me ⟨o,J,l.1.1⟩ e (λz=>nomatch z) h
theorem QW(T:Ty)(h:SX X sc N L k)(c:xp sc "isinstance" = e6)(z:X.mg "isinstance" = f6)(B:xp sc ty=e6)(O:X.mg ty=f6)(R:oB ty=dV (.type (p4 T)))(C:PV X a f)
 (M:i6 [a,.Name ty p2] X.env=[(f9,hI a X.env),(f9,hI (.Name ty p2) X.env)]:=by rfl):PV X (.Call (.Name "isinstance" p) [a,.Name ty p2] [] pos) (mw T f):=by
 intro e s F H Q I ⟨i,E,d,rc,U,q⟩;obtain⟨l,o,t⟩:=zm U;subst t;refine hX<|qV I (h.gl c).1 z iV ?_ ⋯ ⋯;refine gR ?_ (by rw[M];rfl) rfl;rw[M];show wpAny _ _ (oG ((f9,hI a X.env)::mT pos [(f9,hI (.Name ty p2) X.env)])) _ _ s;refine gn<|hR (C e s F H _ I ⟨i,E,l,rc,o,λv g b x r=>(show(λv g=>∃b,Ext i H b g/\Rep X.K b l v) v g from⟨b,x,r⟩)⟩) λu y W=>?_;obtain⟨x,j,J,Y,n,m,w⟩:=W;show wpAny _ _ (oG ((f9,hI (.Name ty p2) X.env)::[])) _ _ y;refine gn<|qV J (h.gl B).1 O R ?_ (h.gl B).2.1 (h.gl B).2.2;refine iJ ?_;exact Xq J m.sub Y w T λA=>⟨.bl _,j,J.tok A,rfl,q _ j n m rfl⟩
end
section
variable{X:Cx}{sc:i8}{N L:List Str}{k:Nat}{e a b c:hH}{pos p p2:i7}{f g:CO D}{fq:CO (Sk×List D)}
theorem jX(h:SX X sc N L k)(c:xp sc "range" = e6)(z:X.mg "range" = f6)(t:PV X a f)(d:i6 [a] X.env=[(f9,hI a X.env)]:=by rfl):mY X tg (.Call (.Name "range" p) [a] [] pos) (jg f):=ZE (h.gl c).1 z t d
theorem YV(h:SX X sc N L k)(c:xp sc "zip" = e6)(z:X.mg "zip" = f6)(t:PV X a f)(d:PV X b g)(B:i6 [a,b] X.env=[(f9,hI a X.env),(f9,hI b X.env)]:=by rfl)(I:i6 [b] X.env=[(f9,hI b X.env)]:=by rfl) :
 mY X (.Tuple elts x1 nQ) (.Call (.Name "zip" p) [a,b] [] pos) (VY f g):=KM (h.gl c).1 z t d B I
theorem vf(h:SX X sc N L k)(c:xp sc "isinstance" = e6)(z:X.mg "isinstance" = f6)(d:xp sc "int" = e6)(B:X.mg "int" = f6)(t:PV X a f)
 (I:i6 [a,.Name "int" p2] X.env=[(f9,hI a X.env),(f9,hI (.Name "int" p2) X.env)]:=by rfl):PV X (.Call (.Name "isinstance" p) [a,.Name "int" p2] [] pos) (mw .int f):=QW .int h c z d B PyProof.Rows.boot_int t I
theorem xD(h:SX X sc N L k)(c:xp sc "isinstance" = e6)(z:X.mg "isinstance" = f6)(d:xp sc "bool" = e6)(B:X.mg "bool" = f6)(t:PV X a f)
 (I:i6 [a,.Name "bool" p2] X.env=[(f9,hI a X.env),(f9,hI (.Name "bool" p2) X.env)]:=by rfl):PV X (.Call (.Name "isinstance" p) [a,.Name "bool" p2] [] pos) (mw .bool f):=QW .bool h c z d B PyProof.Rows.boot_bool t I
theorem jA(h:SX X sc N L k)(c:xp sc "isinstance" = e6)(z:X.mg "isinstance" = f6)(d:xp sc "tuple" = e6)(B:X.mg "tuple" = f6)(t:PV X a f)
 (I:i6 [a,.Name "tuple" p2] X.env=[(f9,hI a X.env),(f9,hI (.Name "tuple" p2) X.env)]:=by rfl):PV X (.Call (.Name "isinstance" p) [a,.Name "tuple" p2] [] pos) (mw .tuple f):=QW .tuple h c z d B ip t I
theorem v7(i:Nat)(h:SX X sc N L k)(c:kX sc N i x=e6)(t:PV X a f)(d:i6 [a] X.env=[(f9,hI a X.env)]:=by rfl)
 (z:oO (.Name x np) "append" X.env (hI (.Name x np) X.env)=hI (.Name x np) X.env:=by rfl)
 (B:((mT cpos<|starEach [a] X.env).all (λx=> !x.1) && (rh cpos<|keywordEach [] X.env).all (λx=>x.1.isSome)
   && decide ([a].length+([]:List oq).length+(if ([]:List oq).isEmpty then 0 else 1)<30))=e6:=by rfl)
 (I:(apos.endLine==cpos.line)=e6:=by rfl) (J:nH (.Call (.Attribute (.Name x np) "append" apos) [a] [] cpos) f6 pos.line X.env=pure f9:=by rfl) :
 mP X (.Expr (.Call (.Attribute (.Name x np) "append" apos) [a] [] cpos) pos) (jq i f):=
 Zz i (KP gQ PySem.F.slot_list_append PySem.F.type_list_append vo (h.var c) (zX t jQ d) z B I d rfl) J
theorem Xb(i:Nat){st:jz}{f:CO (List D)}(h:PS X st (y0 (tO X.K f)<|qc i)):mP X st (qK i<|vN f):=yz h λD p H I=>by obtain⟨E0,E,g,m,R,z,B,J⟩:=I;obtain⟨d,b,B⟩:=zm B;obtain⟨k,M,b⟩:=zm b;subst B b;exact⟨g,m,k,z.rc,M,λa o n j x l e O r=>J _ _ _<|(z.step<|x.show l e O z.rc.sub).mR (xB (i2.of zu)<|r.mono<|zC e _)⟩
theorem ti(i:Nat)(h:SX X sc N L k)(c:xh sc N L i y=e6)
 (d:X.calm=e6) (ok:nJ X scope fr) (z : ∀i∈T.idx,i<own.length) (G:ov X tg iter src) (B : ∀fp C t,PG (zO X scope (own++fr.map (·.1)) fp C t) tg<|nC X.K T)
 (I : ∀fp C t,PV (zO X scope (own++fr.map (·.1)) fp C t) elt f) (J : ∀x,nq iter X.env x=pure x:=by intro _;rfl) :
 PS X (.Assign [.Name y py] (.ListComp elt [⟨tg,iter,[],0⟩] scope cpos) spos) (y0 (tO X.K<|jt src T own.length (fr.map (·.2)) qa f)<|qc i):=by
 obtain⟨a,b,M⟩:=h.loc c;exact Xd h.rE a b M d ok z G B I J
end
structure mj(P:ma)(w:j1)(K:eO)(mg:GZ)(base:h9)(k:Nat)(x:Str)(n:Nat)(F:List D->Option Res):Prop where
 ex : ∃(f:g6) (fd:mX) (ps:List Str),ps.length=n/\nf P w K mg base nt k f fd ps (nG K ps.length F)/\mg x=dV (.ref f)/\gZ K (.ref f)=e6/\Binds K fd ps []
structure mf(K:eO)(mg:GZ)(x:Str)(st:jz)(ps:List Str):Prop where
 ex : ∃(f:g6) (fd:mX),L2.om K x x st f fd/\(∀us:List hA,us.length=ps.length->bindArgs fd ⟨us,[]⟩=pure (ps.zip us))/\mg x=dV (.ref f)
noncomputable def ou(X:Cx)(t:List hH)(n:Nat)(g:CO (List D)):Prop:=oa X t g/\∀b a,g b=dV a->a.length=n
section
variable{X:Cx}{sc:i8}{N L:List Str}{k:Nat}{e:hH}{es:List hH}{f:CO D}{g:CO (List D)}{n:Nat}{pos p:i7}{x:Str}
theorem zf:ou X [] 0 zF:=⟨KR,λb a h=>by cases h;rfl⟩
theorem za(t:PV X e f)(d:ou X es n g)(z:i6 (e::es) X.env=(f9,hI e X.env)::i6 es X.env:=by rfl):ou X (e::es) (n+1) (zc f g):=
 ⟨Xj t d.1 z,λb i h=>by obtain⟨y,j,h⟩:=zb h;obtain⟨r,a,h⟩:=zm h;subst h;rw[gN,d.2 b r a]⟩
variable{j:Nat}{F:List D->Option Res}
theorem W7(d:mj X.prog X.w X.K X.mg X.base j x n F)(z:j<=k)(h:SX X sc N L k)(c:xp sc x=e6)(C:ou X (e::es) n g)
 (B:i6 (e::es) X.env=(f9,hI e X.env)::i6 es X.env:=by rfl) (I:(mT pos<|starEach es X.env).any (·.1)=f9:=by rfl):PV X (.Call (.Name x p) (e::es) [] pos) (zv F g):=by
 obtain⟨f,i,l,b,G,a,J,M⟩:=d.ex;subst b;exact KG (A0:=[]) G C.1 C.2 λ{t} O=>JE G (h.room.mono z) (h.gl c).1 a J M .nil Y7 O (h.gl c).2.2 B I
end
section
variable{P:ma}{w:j1}{K:eO}{mg:GZ}{base:h9}
noncomputable def J6(N g:List Str)(st:jz):Bool:=
 decide ((zE st).kind = .function) && decide ((zE st).isCoroutine=f9) && decide ((zE st).isGenerator=f9) && decide N.Nodup && decide (N.take g.length=g) &&
 g.all (λx=>decide ((zE st).names.lookup x=dV .local) || decide ((zE st).names.lookup x=dV .cell)) && (zE st).names.all (λy=> !(y.2==fu))
theorem yr{N g:List Str}{st:jz}(h:J6 N g st=e6):o5 N g (zE st):=by unfold J6 at h;simp only[fe,decide_eq_true_eq,fJ,fR,iK]at h;obtain⟨⟨⟨⟨⟨⟨a,b⟩,d⟩,z⟩,B⟩,I⟩,J⟩:=h;exact⟨a,b,d,z,B,I,λy M e=>by have:=J y M;rw[e]at this;exact absurd this ⋯⟩
theorem JH{X:Cx}(d:X.xe=λ_ _=>False):pH (hO X.prog X.w) X.A X.env X.xe:=by rw[d];exact PassesOwn.never
theorem ka{x:Str}{st:jz}{N g:List Str}{k:Nat}{F:CO Fl}(A:mf K mg x st g)(t:J6 N g st=e6)
 (z : ∀X:Cx,X.prog=P->X.w=w->X.K=K->X.mg=mg->X.base=base->SX X (zE st) N N k->X.xe=(λ_ _=>False)->ZN X (j8 st) F) :
 mj P w K mg base (k+1) x g.length (jo N.length F):=by
 obtain⟨f,e,d,B,h⟩:=A.ex;have S:=yr t;refine⟨f,e,g,rfl,Vz d S λb A a s H E I=>?_,h,d.kp,.all B⟩;exact z _ rfl rfl rfl rfl rfl ⟨rfl,rfl,S.nd,rfl,I,λ_ _=> .inl rfl⟩ rfl
theorem bY{h:h9}{x:Str}{st:jz}{I:List Str}{f:g6}{M:hA}{O z:Option g6}{H:Array (Option hA)}{kV t C g ct:hA}(d:K.In h)(G:h.Ns mQ mg)
 (a:iN K mQ x=dV (dV (.ref f))) (l:K.lookup f=dV ⟨M,O,.func<|hG x x (kO st) (j8 st) (zE st) .none kV t C z g ct,H⟩)
 (c:iO K g x=e6) (L:gZ K (.ref f)=e6)
 (b : ∀(kV t C:hA) (z:Option g6) (g ct:hA) (J:List hA),J.length=I.length->bindArgs (hG x x (kO st) (j8 st) (zE st) .none kV t C z g ct) ⟨J,[]⟩=pure (I.zip J)):mf K mg x st I:=
 ⟨f,_,Vy l c L,b kV t C z g ct,iT d G a⟩
theorem az{x:Str}{st:jz}{f:g6}{t:mX}{N g:List Str}{k:Nat}{F:CO Fl}(d:L2.om K x x st f t)(C:J6 N g st=e6)
 (z : ∀X:Cx,X.prog=P->X.w=w->X.K=K->X.mg=mg->X.base=base->SX X (zE st) N N k->X.xe=(λ_ _=>False)->ZN X (j8 st) F) :
 nf P w K mg base nt (k+1) f t g (nG K g.length<|jo N.length F):=by
 have S:=yr C;exact Vz d S λb A a s H E B=>z _ rfl rfl rfl rfl rfl ⟨rfl,rfl,S.nd,rfl,B,λ_ _=> .inl rfl⟩ rfl
theorem Wg{F:List D->Option Res}{H:Hp}{a:g6}{ns:List Int}(d:i2 K H a (ns.map V.int))(z:F [.lst (ns.map D.int)]=dV (.val<|.bl e6)) :
 nG K 1 F [.ref a] H (λv _=>v = .bl e6) λ_ _ _=>False:=by
 refine⟨H,[.lst (ns.map D.int)],.val<|.bl e6,i1.refl _,g9.cons (xB d ?_) g9.nil,rfl,z,λv e b _ r=>r⟩;clear z d
 induction ns with
 | nil=>exact g9.nil
 | cons n ns B=>exact g9.cons rfl B
end
end DL
namespace DL
open PySem PySem.Spec PyProof.Rows L2
open AutoSeq1 (wpAny_loadPart')
theorem xW:fillsNumberSlot (.type "tuple") "mul" = pure f9:=
 PySem.fillsNumberSlot_seq (id:="tuple.__mul__") (r:=dV (.builtin "tuple.__rmul__")) ik.lookup ⋯ F.slot_tuple_rmul.lookup ⋯
theorem vd:seqRepeat? (.type "tuple")=pure (dV (.builtin "tuple.__mul__")):=by unfold seqRepeat?;rw[PySem.seqSlot_of (T:="tuple") (name:="__mul__") (id:="tuple.__mul__") ik.lookup ⋯,PySem.seqSlot_of (T:="tuple") (name:="__rmul__") (id:="tuple.__rmul__") F.slot_tuple_rmul.lookup ⋯];rfl
theorem k8(a:Int)(t:Tok)(l:g6)(z:Array hA)(n:Nat)(B:Option g6)(C:Array (Option hA)) :
 pF (oJ.«int.__rmul__» ⟨[.int a t,.ref l],[]⟩) (λ_ R s=>s.heap.get? l=dV {cls:= .type "tuple",dict:=B,data:= .seq z n,slots:=C}/\R (.ok (.ret Value.notImplemented)) s):=
 .of_wp λb w A R s h=>by obtain⟨I,g,d,J,os⟩:=s;obtain⟨M,h⟩:=h;wp_walk;exact⟨_,rfl,h⟩
theorem yo(a:Int)(t:Tok)(l:g6)(z:Array hA)(n:Nat)(I:Option g6)(H:Array (Option hA))(C : ¬(decide (a < -(2 ^ 63)) || decide (a>=2 ^ 63))=e6)(G : ¬(z.isEmpty || a==1)=e6)
 (J : ¬(decide (a<=0) || z.isEmpty)=e6) (M : ¬((z.size:Int)*a>(2 ^ 63 - 1)/8)) (O : ¬Builtin.Tuple.tupleTooMany ((z.size:Int)*a)=e6) (U:((eS a.toNat z).foldl (· ++ ·) #[]).size<=lV) :
 pF (oJ.«tuple.__mul__» ⟨[.ref l,.int a t],[]⟩) (λ_ R s=>s.heap.get? l=dV {cls:= .type "tuple",dict:=I,data:= .seq z n,slots:=H}/\
  R (.ok (.ret (.ref s.heap.objs.size))) {s with heap:=s.heap.push {cls:= .type "tuple",data:= .seq ((eS a.toNat z).foldl (· ++ ·) #[])}}):=
 .of_wp λb w A R s h=>by
  obtain⟨W,g,d,Y,os⟩:=s;obtain⟨B,h⟩:=h
  wp_walk using gK B
  rw[GY C];refine eP<|iQ (s:=⟨W,g,d,Y,os⟩) ⟨_,B,rfl,n,rfl⟩ ?_;dsimp only;rw[GY G,GY J,GY M,GY O];refine eP (m:=fV _)<|fY ?_ U;exact eX ⟨_,rfl,h⟩
theorem k0(a:Int)(t:Tok)(l:g6)(z:Array hA)(n:Nat)(I:Option g6)(H:Array (Option hA))(C : ¬(decide (a < -(2 ^ 63)) || decide (a>=2 ^ 63))=e6)(G : ¬(z.isEmpty || a==1)=e6)
 (J:(decide (a<=0) || z.isEmpty)=e6) :
 pF (oJ.«tuple.__mul__» ⟨[.ref l,.int a t],[]⟩) (λ_ R s=>s.heap.get? l=dV {cls:= .type "tuple",dict:=I,data:= .seq z n,slots:=H}/\
  R (.ok (.ret (.ref s.heap.objs.size))) {s with heap:=s.heap.push {cls:= .type "tuple",data:= .seq #[]}}):=
 .of_wp λb w A R s h=>by
  obtain⟨M,g,d,O,os⟩:=s;obtain⟨B,h⟩:=h
  wp_walk using gK B
  rw[GY C];refine eP<|iQ (s:=⟨M,g,d,O,os⟩) ⟨_,B,rfl,n,rfl⟩ ?_;dsimp only;rw[GY G,GJ J];refine eP (m:=fV _)<|fY ?_ (gj _);exact eX ⟨_,rfl,h⟩
theorem kZ(a:Int)(t:Tok)(l:g6)(B:Array hA)(n:Nat)(I:Option g6)(H:Array (Option hA))(C : ¬(decide (a < -(2 ^ 63)) || decide (a>=2 ^ 63))=e6)(G:(B.isEmpty || a==1)=e6) :
 pF (oJ.«tuple.__mul__» ⟨[.ref l,.int a t],[]⟩) (λ_ R s=>s.heap.get? l=dV {cls:= .type "tuple",dict:=I,data:= .seq B n,slots:=H}/\R (.ok (.ret (.ref l))) s):=
 .of_wp λb w A R s h=>by
  obtain⟨J,g,d,M,os⟩:=s;obtain⟨z,h⟩:=h
  wp_walk using gK z
  rw[GY C];refine eP (iQ (s:=⟨J,g,d,M,os⟩) ⟨_,z,rfl,n,rfl⟩ ?_);dsimp only;rw[GJ G];refine eP (m:=gA _) ?_;unfold gA;refine eP (lS (T:="tuple") ⟨_,z,rfl⟩ (eX ?_));rw[GJ ⋯];exact eP (lQ (eX ⟨_,rfl,h⟩))
section
variable{X:Cx}
noncomputable def YE(K:eO):R2:=λx y H Q=>∃l k a,x = .ref l/\y = .int k/\i3 K H l a/\ -(2 ^ 62)<=k/\k<2 ^ 62/\a.length*k.toNat<=lV/\(a=[]\/k=1->Q (.ref l) H)/\
 ∀p,H p=f6->Q (.ref p) (upd H p<|.tup (eS k.toNat a).flatten)
theorem KS:lY X (nN .Mult) (YE X.K):=by
 intro A s σ H x y v u Q I rx ry h;obtain⟨l,k,E,rfl,rfl,Z,h1,h2,Y,q1,C⟩:=h;cases rx;obtain⟨t,rfl⟩:=ry;obtain⟨d,r,ht,z1⟩:=I.tuple Z;obtain⟨⟨S,M,f,a⟩,z,j,n,p⟩:=id ht;simp only at j p;subst j p;have G:=r.length;have O : ¬(decide (k < -(2 ^ 63)) || decide (k>=2 ^ 63))=e6:=by simp;omega
 refine wpAny_binaryOp_repeat_ref (T:="tuple") (U:="int") ⋯ ⟨_,z,rfl⟩ (λs'=>typeIs_int s' k t) xW F.fills_int_mul F.slot_int_rmul vd F.slot_int_index.lookup
  (iC F.slot_int_rmul (typeIs_int s k t) F.entry_int_rmul (F.args_int_rmul_2 _ _) (k8 k t l d.toArray n M a) ⟨z,rfl,⟨_,z,rfl⟩,?_⟩)
 have i : ∀m:Nat,List.foldl (λb R=>b++R) #[] (eS m d.toArray)=(eS m d).flatten.toArray:=λm=>by have:=vx d m [];rw[List.nil_append]at this;exact this
 by_cases B:(d.toArray.isEmpty || k==1)=e6
 ·refine iC ik ⟨_,z,rfl⟩ lO (lJ _ _) (kZ k t l d.toArray n M a O B) ⟨z,⟨.ref l,H,I,rfl,q1 ?_⟩⟩
  rw[fR]at B;rcases B with g | g
  ·left
   have:d=[]:=by simpa using g
   exact(r.pO).mp this
  ·right;simpa using g
 ·have W:=B
  simp only[fR,not_or]at W;have L:d ≠ []:=by intro e;exact W.1 (by rw[e];rfl)
  have as:0<d.length:=List.length_pos_iff.mpr L;by_cases J:(decide (k<=0) || d.toArray.isEmpty)=e6
  ·have w:k.toNat=0:=by
    rw[fR]at J;rcases J with g | g
    ·have:=of_decide_eq_true g;omega
    ·exact absurd g W.1
   refine iC ik ⟨_,z,rfl⟩ lO (lJ _ _) (k0 k t l d.toArray n M a O B J) ⟨z,?_⟩;refine⟨.ref s.heap.objs.size,_,I.laid (t':=s.toks) (o:= .tup (eS k.toNat E).flatten) (λc ob q=>eQ _ q) (eW _) ?_,rfl,C _<|I.i5.fresh<|eW _⟩;rw[w];exact⟨gj _,[],.nil,nL.new _ _⟩
  ·have w : ¬k<=0:=by intro g;exact J (by rw[fR];exact .inl<|decide_eq_true g)
   have N:d.length*k.toNat<=lV:=by rw[<- G];exact Y
   have ax:((d.toArray.size:Nat):Int)*k<=(lV:Int):=by
    rw[fi];have e:((d.length*k.toNat:Nat):Int)=(d.length:Int)*k:=by rw[Int.natCast_mul,Int.toNat_of_nonneg ⋯]
    omega
   have b0:lV=16777216:=sizeLine_eq;have P:(List.foldl (λb R=>b++R) #[] (eS k.toNat d.toArray)).size<=lV:=by rw[i,fi,JR,Nat.mul_comm];exact N
   refine iC ik ⟨_,z,rfl⟩ lO (lJ _ _) (yo k t l d.toArray n M a O B J ⋯ (by unfold Builtin.Tuple.tupleTooMany;simp only[decide_eq_true_eq];omega) P) ⟨z,?_⟩;rw[i];refine⟨.ref s.heap.objs.size,_,I.laid (t':=s.toks) (o:= .tup (eS k.toNat E).flatten) (λc ob q=>eQ _ q) (eW _) ?_,rfl,C _<|I.i5.fresh<|eW _⟩;exact⟨by rw[JR,Nat.mul_comm];exact Y,_,r.rep k.toNat,nL.new _ _⟩
theorem Kr{K:eO}:mB K (λx y H Q=>rI oK (λi j=> .int (i*j)) x y H Q\/YE K x y H Q) xX:=λk H x y l M d Q s B I z q=>by
 cases l<;>cases M<;>simp[xX]at z
 ·obtain⟨m,g⟩:=z
  subst g;exact .inl ⟨_,_,jh B,jh I,XC m,q _ H k (Ext.refl s) rfl⟩
 ·rename_i f j
  obtain⟨⟨O,R⟩,rfl⟩:=z;obtain⟨a,n,rfl,h,b⟩:=xA B;obtain⟨U,W⟩:=JZ R;refine .inr ⟨a,j,n,rfl,jh I,mE s h,U,W,q8 (by rw[b.length];exact O),λe=>?_,λp J=>?_⟩
  ·refine q _ H k (Ext.refl s) ?_
   rcases e with e | e
   ·have g:f=[]:=by
     have:=b.length;rw[e]at this;exact fA this.symm
    subst g;rw[show(eS j.toNat ([]:List D)).flatten=[]by simp];exact jN h b
   ·subst e
    rw[show(eS (1:Int).toNat f).flatten=f by simp];exact jN h b
  ·exact q _ _ _ (Ext.alloc s J _)<|jN (i3.of zu)<|(wR b _).mono (zC (je s J) _)
theorem qs(g:PV X a fa)(d:PV X b fb):PV X (.BinOp a .Mult b pos) (zo xX fa fb):=yf (tf.or KS) Kr g d
end
end DL
namespace L2
open PySem PySem.Spec PyProof.Rows
open AutoSeq1 (wpAny_loadPart')
theorem vq(I:IsEnum s.heap z it n old)(h:Q (.ref z) s):wpAny (hO prog w) A (pQ (.ref z)) Q E s:=by have d:s.TypeIs (.ref z) "enumerate":=⟨_,I,rfl⟩;refine wpAny_pyIter_slot d F.slot_enumerate_iter (gE F.slot_enumerate_iter d F.entry_enumerate_iter ?_ (F.args_enumerate_iter_1 _));have B:wpAny (hO prog w) A.in1 (ret (.ref z)) (λB a=>∃v,B = .done (.ret v)/\∃T m,a.TypeIs v T/\typeLookup (.type T) "__next__" = pure (dV m)/\Q v a) E s:=eX ⟨_,rfl,"enumerate",_,d,F.slot_enumerate_next.lookup,h⟩;exact B
end L2
namespace DL
open PySem PySem.Spec PyProof.Rows L2
theorem vt{K:eO}{H:Hp} : ∀{g:List D} {xs:List V} {l:List Int},g9 K H g xs->JV g=dV l->xs=l.map V.int
 | [],xs,l,r,e=>by cases e;rw[show xs=[]from r];rfl
 | d::g,xs,l,r,e=>by
  obtain⟨x,I,rfl,z,B⟩:=(show ∃x r,xs=x::r/\Rep K H d x/\g9 K H g r from r);cases d with
  | int i=>
   obtain⟨J,a,rfl⟩:=zm (show(JV g).map (λl=>i::l)=dV l from e);rw[vt B a,show x = .int i from z];rfl
  | _=>cases e
theorem vy : ∀l:List Int,(l.map V.int).all k9=e6
 | []=>rfl
 | i::l=>by simp only[fO,lx,vy l,Bool.and_true];rfl
theorem JX(i:Int) : ∀l:List Int,oU (.int i) (l.map V.int)=decide (i∈l)
 | []=>rfl
 | j::l=>by
  have d:=JX i l;unfold oU at d ⊢;rw[fO,List.any_cons,d];have e:nU (.int j) (.int i)=(j==i):=rfl;rw[e];by_cases h:i=j
  ·subst h
   rw[beq_self_eq_true,Bool.true_or];exact(decide_eq_true fw).symm
  ·rw[beq_false_of_ne (fH h),Bool.false_or]
   exact decide_eq_decide.mpr ⟨λq=>ft _ q,λq=>(eY.mp q).resolve_left h⟩
section
variable{X:Cx}{sc:i8}{N L:List Str}{k:Nat}{a b c:hH}{pos p:i7}{f fa fb fc:CO D}
theorem QX(ho:lY X (mL op) r)(t:lY X (mL pv) r')(s1:mB X.K r F)(s2:mB X.K r' G)(P:PV X a fa)(Z:PV X b fb)(hc:PV X c fc)
 (hm:rz [op,pv] [b,c]=f9:=by with_unfolding_all rfl):PV X (.Compare a [op,pv] [b,c] pos) (ye F G fa fb fc):=
 jm (Xi ho t P Z hc hm) λσ H Q L=>by
  obtain⟨g,f,d,rc,B,q⟩:=L;obtain⟨x,s,B⟩:=zb B;obtain⟨y,u,B⟩:=zb B;obtain⟨k,w,B⟩:=zb B;obtain⟨O,A,R⟩:=zb w;refine⟨g,f,x,rc,s,λv1 H1 m e N=>⟨m,f,y,rc.ext e,u,λU h n I W=>s1 n h v1 U x y O _ I.sub (N.mono I.s0) W A λv3 i Y J S=>?_⟩⟩;cases O with
  | bl k'=>
   cases R;refine⟨k,show v3 = .bl k from S,?_⟩;cases k with
   | true=>
    rw[GJ rfl];rw[GJ rfl]at B;obtain⟨z,C,E⟩:=zb B;exact⟨Y,f,z,((rc.ext e).ext I).ext J,C,λv4 j o M T=>s2 o j U v4 y z d _ M.sub ((W.mono J.s0).mono M.s0) T E λv5 l p x5 r5=>q v5 l p (((e.trans I).trans J).trans (M.trans x5)) r5⟩
   | false=>
    rw[GY ⋯];rw[GY ⋯]at B;cases B;exact q _ i Y ((e.trans I).trans J) rfl
  | _=>cases R
theorem YL(C:PV X a fa){g:CO (Sk×List D)}(J:PQ X b g)(G:oy .In b=f9:=by with_unfolding_all rfl):PV X (.Compare a [.In] [b] pos) (bH fa g):=
 jm (JD JJ C J G) λE H Q M=>by
  obtain⟨m,k,d,rc,z,q⟩:=M;obtain⟨x,o,z⟩:=zb z;obtain⟨⟨h,n⟩,s,z⟩:=zb z;obtain⟨i,O,z⟩:=zb z;obtain⟨l,R,rfl⟩:=zm z;refine⟨m,k,x,rc,o,λI w U j B=>⟨U,k,h,n,rc.ext j,s,λp A e W Y f y r=>?_⟩⟩;rw[xu O]at B;have t:=vt r R;subst t;have u:i2 X.K e p (l.map V.int)\/i3 X.K e p (l.map V.int):=by
   cases h with
   | L=>exact .inl f
   | T=>exact .inr f
  refine⟨p,_,rfl,u,by rw[show I = .int i from B];rfl,vy l,?_⟩;rw[show I = .int i from B,JX];exact q _ e W (j.trans Y) rfl
end
theorem xf : ∀{l:List Int} {g:List hA},i0 (l.map V.int) g->∀i,i<g.toArray.size->∃z u,g.toArray[i]? = dV (.int z u)/\l[i]? = dV z
 | [],g,r,i,hi=>by cases r;exact absurd hi<|Nat.not_lt_zero _
 | z::l,u::g,.cons r t,i,hi=>by
  cases i with
  | zero=>
   obtain⟨d,rfl⟩:=r;exact⟨z,d,by simp,by simp⟩
  | succ i=>
   obtain⟨B,I,a,b⟩:=xf t i (by simpa using hi);exact⟨B,I,by simpa using a,by simpa using b⟩
section
variable{K:eO}{E0 E H0 H:Hp}{σ:St}{γ:Ctx}
open Classical in
end
end DL
namespace L2
open PySem PySem.Spec PyProof.Rows
noncomputable def W1(K:eO):V->List V->Hp->VK->Prop:=λx e H Q=>∃d p b,x = .str d/\e=[.ref p]/\i2 K H p (b.map V.str)/\Builtin.Str.tooLong (b.toArray.foldl (λa p=>a+p.length+d.length) 0)=f9/\Q (.str<|lP d b) H
theorem yX : ∀{C:List Str} {g:List hA},i0 (C.map V.str) g->∃l:List (Str×Tok),strValues l=g/\l.map (·.1)=C
 | [],g,r=>by cases r;exact⟨[],rfl,rfl⟩
 | z::C,u::g,.cons r t=>by obtain⟨d,rfl⟩:=r;obtain⟨l,rfl,h⟩:=yX t;exact⟨(z,d)::l,rfl,by simp[h]⟩
theorem K1{X:Cx}:p9 X "str.join" (W1 X.K):=by intro a s j H x g v f Q I B J h;obtain⟨d,p,i,rfl,rfl,M,z,q⟩:=h;obtain⟨t,rfl⟩:=B;obtain⟨O,rfl,rw⟩:=kY J;cases rw;obtain⟨R,r,pl,U⟩:=I.list M;obtain⟨l,rfl,e⟩:=yX r;subst e;refine iC F.slot_str_join (sH _ _ _) F.entry_str_join (F.args_str_join_2 _ _) (meets_str_join_list d t p l z) ⟨pl.isList,post_join l ⟨joinFit_length z,λt' k=>?_⟩⟩;refine⟨.str (lP d (l.map (·.1))),H,(I.kept (h':=s.heap) (t':=k) λb o e=>e),⟨t',?_⟩,q⟩;show lg (Builtin.Str.glued d (l.map (·.1))) t'=_;rw[StrLaws.glued_eq_join]
end L2
namespace DL
open PySem PySem.Spec PyProof.Rows L2
theorem ki{K:eO}{H:Hp} : ∀{g:List D} {xs:List V} {l:List Str},g9 K H g xs->k5 g=dV l->xs=l.map V.str
 | [],xs,l,r,e=>by cases e;rw[show xs=[]from r];rfl
 | d::g,xs,l,r,e=>by
  obtain⟨x,I,rfl,z,B⟩:=(show ∃x r,xs=x::r/\Rep K H d x/\g9 K H g r from r);cases d with
  | str i=>
   obtain⟨J,a,rfl⟩:=zm (show(k5 g).map (λl=>i::l)=dV l from e);rw[ki B a,show x = .str i from z];rfl
  | _=>cases e
section
variable{X:Cx}{sc:i8}{N L:List Str}{k:Nat}{o e a b:hH}{apos cpos pos p:i7}{f g:CO D}{q:CO (Sk×List D)}
theorem yq(h:zT x=e6):x.length<=1000:=of_decide_eq_true h
theorem yd(h:zT x=e6):x.length<=lV:=fU (yq h) ⋯
theorem vX(O:PV X o f)(R:PQ X e q)(U:oO o "join" X.env (hI o X.env)=hI o X.env:=by rfl)
 (W:((mT cpos<|starEach [e] X.env).all (λx=> !x.1) && (rh cpos<|keywordEach [] X.env).all (λx=>x.1.isSome) && decide ([e].length+([]:List oq).length+(if ([]:List oq).isEmpty then 0 else 1)<30))=e6:=by rfl)
 (Y:(apos.endLine==cpos.line)=e6:=by rfl) (M:i6 [e] X.env=[(f9,hI e X.env)]:=by rfl):PV X (.Call (.Attribute o "join" apos) [e] [] cpos) (vU f q):=
 jm (KP PySem.F.plainAttrs_str PySem.F.slot_str_join PySem.F.type_str_join K1 O (zX R jQ M) U W Y M rfl) λσ H Q A=>by
  obtain⟨h,g,d,rc,z,G⟩:=A;obtain⟨k,n,z⟩:=zb z;obtain⟨⟨E,m⟩,p,z⟩:=zb z;cases k with
  | str J=>
   cases E with
   | L=>
    obtain⟨l,s,z⟩:=zb z;by_cases I:l.length<=lim/\l.all zT=e6/\zT J=e6
    ·rw[GJ I]at z;cases z
     refine⟨h,g,_,rc,n,λv P b x r=>?_⟩;rw[show v = .str J from r];refine⟨rfl,b,g,.L,m,rc.ext x,p,λa xs i j N u S K=>?_⟩;have t:=ki K s;subst t;refine⟨J,a,l,rfl,rfl,u,StrLaws.joinFits (B:=1000) (λy C=>yq<|fJ.mp I.2.1 y C) ?_,G _ i j (x.trans N) rfl⟩;have Z:=I.1;have:lim=2500:=rfl;have w:=yq I.2.2;have:l.length*J.length<=2500*1000:=Nat.mul_le_mul ⋯ w;omega
    ·rw[GY I]at z;cases z
   | T=>cases z
  | _=>cases z
theorem yv(C:PV X a f)(M:PV X b g)(O:wH b:=by intro _ _;rfl):PV X (.Subscript a b pos) (qS f g):=
 jm (Y4 Vu C M O) λA H Q R=>by
  obtain⟨m,l,d,rc,B,q⟩:=R;obtain⟨p,s,B⟩:=zb B;obtain⟨i,h,B⟩:=zb B;obtain⟨U,W,h⟩:=zb h;cases p with
  | str z=>
   by_cases I:zT z=e6
   ·have B:(if zT z=e6 then (mC z.cps.toList.length i).bind λk=>z.cps.toList[k]?.map λc=>D.str ⟨#[c]⟩else f6)=dV d:=B
    rw[GJ I]at B;obtain⟨j,Y,B⟩:=zb B;obtain⟨c,t,rfl⟩:=zm B;refine⟨m,l,_,rc,s,λv w e x r=>⟨e,l,U,rc.ext x,W,λy n o u J=>?_⟩⟩;rw[xu h]at J;refine⟨z,i,c,r,jh J,yd I,?_,q _ n o (x.trans u) rfl⟩;unfold oe;rw[X3 Y];exact t
   ·have B:(if zT z=e6 then (mC z.cps.toList.length i).bind λk=>z.cps.toList[k]?.map λc=>D.str ⟨#[c]⟩else f6)=dV d:=B
    rw[GY I]at B;cases B
  | _=>cases B
theorem Jk(h:SX X sc N L k)(c:xp sc "len" = e6)(z:X.mg "len" = f6)(t:PV X e f)(J:i6 [e] X.env=[(f9,hI e X.env)]:=by rfl):PV X (.Call (.Name "len" p) [e] [] pos) (Zw f):=
 jm (x9 vD (h.gl c).1 z PySem.boot_len (zX t jQ J) ⋯ ⋯ J rfl) λm H Q M=>by
  obtain⟨g,l,d,rc,B,q⟩:=M;obtain⟨i,j,B⟩:=zb B;cases i with
  | str z=>
   by_cases I:zT z=e6
   ·have B:(if zT z=e6 then dV (D.int z.length)else f6)=dV d:=B
    rw[GJ I]at B;cases B;refine⟨g,l,_,rc,j,λv b a x r=>⟨z,by rw[show v = .str z from r],yd I,q _ b a x rfl⟩⟩
   ·have B:(if zT z=e6 then dV (D.int z.length)else f6)=dV d:=B
    rw[GY I]at B;cases B
  | _=>cases B
theorem ve{t:i7}(h:SX X sc N L k)(c:xp sc "isinstance" = e6)(z:X.mg "isinstance" = f6)(d:xp sc "str" = e6)(B:X.mg "str" = f6)(C:PV X a f)
 (I:i6 [a,.Name "str" t] X.env=[(f9,hI a X.env),(f9,hI (.Name "str" t) X.env)]:=by rfl):PV X (.Call (.Name "isinstance" p) [a,.Name "str" t] [] pos) (mw .str f):=QW .str h c z d B ⋯ C I
end
section
variable{X:Cx}{sc:i8}{N L:List Str}{k:Nat}{st:jz}{qT:List jz}{G G':CO Xn}{F:CO Fl}
theorem SX.nc(h:SX X sc N L k)(E:GQ):SX (X.nc E) sc N L k:=⟨h.oE,h.eN,h.nd,h.calm,h.room,h.fn⟩
end
section ap
variable(γ:Ctx)
@[simp] def XE:=@zN.eq_1
@[simp] def cC:=@vN.eq_1
@[simp] def yO:=@jS.eq_1
@[simp] def Zm:=@zh.eq_1
@[simp] def Yj:=@zk.eq_1
@[simp] theorem Zn(d):zl d γ=dV d:=rfl
@[simp] def Zp:=@zo.eq_1
@[simp] def cO:=@sB.eq_1
@[simp] def bw:=@YC.eq_1
@[simp] def VL:=@xc.eq_1
@[simp] def aU:=@zW.eq_1
@[simp] def VT:=@vV.eq_1
@[simp] def dU:=@tj.eq_1
@[simp] def cv:=@VZ.eq_1
@[simp] def cH:=@WW.eq_1
@[simp] theorem VM:zF γ=dV []:=rfl
@[simp] def Ym:=@zc.eq_1
@[simp] def ck:=@yt.eq_1
@[simp] def Yk:=@qZ.eq_1
@[simp] def aV:=@jw.eq_1
@[simp] def VI:=@jU.eq_1
@[simp] def aS:=@dg.eq_1
@[simp] def aR:=@Je.eq_1
@[simp] def cK:=@eC.eq_1
@[simp] def bq:=@dA.eq_1
@[simp] def VP:=@mh.eq_1
@[simp] def Kb:=@qK.eq_1
@[simp] def aQ:=@k6.eq_1
@[simp] def bj:=@dv.eq_1
@[simp] def VS:=@jq.eq_1
@[simp] def bt:=@zv.eq_1
@[simp] def WB:=@wO.eq_1
@[simp] def Zo:=@jv.eq_1
@[simp] def vL:=@jg.eq_1
@[simp] def VJ:=@WV.eq_1
@[simp] def cg:=@VY.eq_1
@[simp] def VR:=@wN.eq_1
@[simp] def yP:=@jt.eq_1
@[simp] theorem cj:qa γ=dV e6:=rfl
@[simp] def br:=@dB.eq_1
@[simp] def aT:=@dh.eq_1
@[simp] def VO:=@hF.eq_1
@[simp] def Ws:=@bF.eq_1
@[simp] theorem cy:V0 γ=dV f6:=rfl
@[simp] def dX:=@pT.eq_1
@[simp] def cu:=@WU.eq_1
@[simp] def cD:=@xZ.eq_1
@[simp] def dW:=@mw.eq_1
@[simp] def cE:=@et.eq_1
@[simp] def ZL:=@jc.eq_1
@[simp] def VN:=@qY.eq_1
@[simp] def cn:=@bB.eq_1
@[simp] def cN:=@Yo.eq_1
@[simp] def cM:=@eE.eq_1
@[simp] def ba:=@Jg.eq_1
@[simp] def aX:=@dk.eq_1
@[simp] def aO:=@df.eq_1
theorem z7(F G):zJ F G γ=(F γ).bind λd=>match d with
 | .next a=>G a
 | f=>dV f:=rfl
end ap
@[simp] theorem VG(ds):ju (.tup ds)=dV (.T,ds):=rfl
@[simp] theorem cb(ds):ju (.lst ds)=dV (.L,ds):=rfl
@[simp] theorem kQ(d):Qs (dV (.val d))=dV d:=rfl
@[simp] theorem wA(d):xK (dV (.val d))=ju d:=rfl
@[simp] theorem Yd(d):xK (dV (.own d))=dV (.L,d):=rfl
@[simp] theorem Yg(d):qk (dV (.own d))=dV d:=rfl
@[simp] theorem Ye(d):wB (dV (.val d))=dV (.ret<|.val d):=rfl
@[simp] theorem Yf(d):wB (dV (.own d))=dV (.ret<|.own d):=rfl
@[simp] theorem cf(b):nM (.bl b)=dV b:=rfl
@[simp] theorem kR(b):mF (.int b)=dV b:=rfl
@[simp] theorem V3(d):WY (.val d)=d:=rfl
@[simp] theorem V4(d):WY (.own d) = .lst d:=rfl
@[simp] theorem V2(d):bO (.own d)=dV d:=rfl
@[simp] theorem Wj(i j):K7 (.int i) (.int j)=dV (.int<|i - j):=rfl
@[simp] theorem Xz(i j):qE (.int i) (.int j)=dV (.int<|i+j):=rfl
@[simp] theorem Wm(i j):qW (.int i) (.int j)=if 0<j then dV (.int<|i%j)else f6:=by show(if Wo i j=e6 then _ else _)=_;simp[Wo]
@[simp] theorem Wn(i j):Zf (.int i) (.int j)=if 0<j/\j<1073741824 then dV (.int<|i/j)else f6:=by
 show(if VF i j=e6 then _ else _)=_;have e:(VF i j=e6)=(0<j/\j<1073741824):=by unfold VF;rw[fe,decide_eq_true_eq,decide_eq_true_eq];apply propext;constructor<;>intro h<;>exact⟨h.1,by omega⟩
 simp only[e]
@[simp] theorem Wl(i j):xX (.int i) (.int j)=if vQ i j=e6 then dV (.int<|i*j)else f6:=rfl
@[simp] theorem Wk(i j):K8 (.int i) (.int j)=if VE i j=e6 then dV (.int<|i ^ j.toNat)else f6:=rfl
@[simp] theorem aH(i j):oh (.int i) (.int j)=dV (.bl<|decide<|i<=j):=rfl
@[simp] theorem aI(i j):nT (.int i) (.int j)=dV (.bl<|decide<|j<i):=rfl
@[simp] theorem aJ(i j):pa (.int i) (.int j)=dV (.bl<|decide<|j<=i):=rfl
@[simp] theorem aK(i j):lZ (.int i) (.int j)=dV (.bl<|decide<|i=j):=by unfold lZ;rw[GJ ⟨rfl,rfl⟩];exact congrArg (λb=>dV (D.bl b)) (by rw[iv];simp[mq])
@[simp] theorem aG(i j):mm (.int i) (.int j)=dV (.bl<|!decide (i=j)):=by unfold mm;rw[GJ ⟨rfl,rfl⟩];exact congrArg (λb=>dV (D.bl !b)) (by rw[iv];simp[mq])
@[simp] theorem YA(i is d ds γ):jf (i::is) (d::ds) γ=jf is ds (γ.set i<|.val d):=rfl
@[simp] theorem Yz(ds γ):jf [] ds γ=γ:=by cases ds<;>rfl
@[simp] theorem Zl(i d γ):jT (.nm i) d γ=dV (γ.set i<|.val d):=rfl
@[simp] theorem Qx(i j a b γ):jT (.tp [i,j]) (.tup [a,b]) γ=dV ((γ.set i<|.val a).set j (.val b)):=rfl
@[simp] theorem QQ(γ:Ctx)(G:CO Fl):(dV (Fl.next γ)).bind (λd=>match d with
 | .next γ'=>G γ'
 | f=>dV f)=G γ:=rfl
theorem Zj(i j:Int)(g : -(2 ^ 64)<j)(t:j<2 ^ 64):vQ i j=e6:=by unfold vQ;rw[fR];right;exact decide_eq_true ⋯
theorem Zk(i j:Int)(g : -(2 ^ 64)<i)(t:i<2 ^ 64):vQ i j=e6:=by unfold vQ;rw[fR];left;exact decide_eq_true ⋯
theorem JY(g : -(2 ^ 62)<i)(t:i<2 ^ 62):inR i=e6:=by unfold inR;exact decide_eq_true ⋯
@[simp] theorem j7(n k:Nat):mC n (k:Int)=if k<n then dV k else f6:=by
 unfold mC;by_cases h:k<n
 ·rw[GJ ⟨Int.natCast_nonneg k,by omega⟩,GJ h];simp
 ·rw[GY ⋯,GY ⋯,GY h]
theorem js:lim=2500:=rfl
@[simp] theorem Wf:0<=lim:=gj _
@[simp] theorem We:1<=lim:=by decide
@[simp] theorem Wd:2<=lim:=by decide
@[simp] theorem Wc:3<=lim:=by decide
@[simp] theorem Wb:4<=lim:=by decide
@[simp] theorem Wa:5<=lim:=by decide
@[simp] theorem V9:6<=lim:=by decide
@[simp] theorem V8:7<=lim:=by decide
@[simp] theorem V7:8<=lim:=by decide
@[simp] theorem V6:0<lim:=by decide
@[simp] theorem K4(h:n<=lim):inR (n:Int)=e6:=JY ⋯ (by have:=js;omega)
@[simp] theorem tM(n:Nat):mC (n+1) 0=dV 0:=j7 (n+1) 0 ▸ rfl
@[simp] theorem tN(n:Nat):mC (n+2) 1=dV 1:=by have:=j7 (n+2) 1;simpa using this
@[simp] theorem sX(n:Nat):mC (n+3) 2=dV 2:=by have:=j7 (n+3) 2;simpa using this
theorem zy(r:α->D) : ∀(l:List α),(∀x∈l,zV T k f γ [g x]=dV [r x])->zV T k f γ (l.map g)=dV (l.map r)
 | [],_=>rfl
 | x::l,h=>by
  have a:=h x fw;have i:=zy r l λy z=>h y<|ft _ z;simp only[fO,zV]at a ⊢;cases e1:jT T (g x) γ with
  | none=>rw[e1]at a;simp at a
  | some d=>
   rw[e1]at a;simp only[eV]at a ⊢;cases e2:k d with
   | none=>rw[e2]at a;simp at a
   | some b=>
    rw[e2]at a;simp only[eV]at a ⊢;cases b with
    | false=>simp at a
    | true=>
     simp only[GJ]at a ⊢;cases e3:f d with
     | none=>rw[e3]at a;simp at a
     | some e=>
      rw[e3]at a;simp at a;rw[i];simp[a]
theorem zA(g:jT T d γ=dV o1)(t:k o1=dV e6)(z:f o1=dV e):zV T k f γ [d]=dV [e]:=by simp[zV,g,t,z]
theorem xI(T F d g γ):qC T F (d::g) γ=(jT T d γ).bind λB=>(F B).bind λI=>match I with
 | .next z=>qC T F g z
 | .cont z=>qC T F g z
 | .brk z=>dV (.next z)
 | .ret r=>dV (.ret r):=rfl
theorem qB(P:Nat->Ctx->Prop) : ∀(g:List D) (k:Nat) (γ:Ctx),P k γ->(∀i d γ,g[i]? = dV d->P (k+i) γ->∃γ',((jT T d γ).bind F=dV (.next γ')\/(jT T d γ).bind F=dV (.cont γ'))/\P (k+i+1) γ')->
 ∃γ',qC T F g γ=dV (.next γ')/\P (k+g.length) γ'
 | [],k,γ,h,_=>⟨γ,rfl,h⟩
 | d::g,k,γ,h,step=>by
  obtain⟨z,e,f⟩:=step 0 d γ rfl h;obtain⟨γ',b,j⟩:=qB P g (k+1) z (by simpa using f) (λi a B l I=>by have:=step (i+1) a B (by simpa using l) (by rw[show k+(i+1)=k+1+i by omega];exact I);rw[show k+(i+1)+1=k+1+i+1 by omega]at this;exact this)
  refine⟨γ',?_,by rw[show k+(d::g).length=k+1+g.length by simp;omega];exact j⟩;rw[xI];cases eb:jT T d γ with
  | none=>rw[eb]at e;simp at e
  | some J=>
   rw[eb]at e;simp only[eV]at e ⊢;rcases e with e | e<;>rw[e]<;>exact b
def ji(n:Nat)(f:Nat->Int):List D:=(eZ n).map λi=>D.int<|f i
theorem zU(n f):ji n f=(eZ n).map λi=>D.int (f i):=rfl
noncomputable def kU(h w:Nat)(f:Nat->Nat->Int):List D:=(eZ h).map λi=>D.tup<|ji w<|f i
noncomputable def vz(h w:Nat)(f:Nat->Nat->Int):D:= .tup [.int h,.int w,.tup (kU h w f)]
@[simp] theorem Wh(n f):(ji n f).length=n:=by simp[ji]
@[simp] theorem Wi(h w f):(kU h w f).length=h:=by simp[kU]
@[simp] theorem aB(f)(h:i<(ji n f).length):(ji n f)[i] = .int (f i):=by simp[ji]
@[simp] theorem aC(f)(g:i<(kU h w f).length):(kU h w f)[i] = .tup (ji w<|f i):=by simp[kU]
theorem Xw{h w i:Nat}(f)(g:i<h):(kU h w f)[i]? = dV (.tup<|ji w<|f i):=by simp[kU,g]
theorem jV(n:Nat):xj 0 n=ji n λi=>(i:Int):=by simp[xj,ji]
def vR(f:Nat->Int):Nat->Int
 | 0=>0
 | n+1=>vR f n+f n
theorem kh : ∀(xs:List Int) (y:Int),QO (xs.map D.int++[.int y])=(QO<|xs.map D.int).map λs=>s+y
 | [],y=>by simp[QO]
 | x::xs,y=>by simp only[fO,List.cons_append,QO];rw[kh xs y];cases e:QO (xs.map D.int)<;>simp[Int.add_assoc]
theorem y7(f:Nat->Int) : ∀n,QO (ji n f)=dV (vR f n)
 | 0=>rfl
 | n+1=>by
  have d:=y7 f n;have e : ∀m,ji m f=((eZ m).map f).map D.int:=λm=>by simp[ji]
  rw[e]at d ⊢;rw[iq,iu,iu,List.map_singleton,List.map_singleton,kh,d];simp[vR]
noncomputable def xM:=jo 2<|jU<|jc<|jS<|jt (jv<|zk 1) (.nm 0) 1 [0] qa (zo qW (zh 0)<|zh 1)
noncomputable def zw:=jo 5<|zJ (mh (sB<|zo lZ (xZ<|zk 0)<|zl<|.int 0) (jU<|zo qW (zo xX (zo qW (zo xX (zo qE (zo xX (zo xX (zh 1)<|zh 1)<|zl<|.int 7919)<|zl<|.int 11)<|zl<|.int 48271)<|zl<|.int 2147483647)<|zl<|.int 69621)<|zl<|.int 1000000007) jw)<|zJ (qK 2<|hF (zk 0)<|zo qW (zh 1)<|xZ<|zk 0)<|zJ (mh (YC (sB<|zo nT (xZ<|zk 0)<|zl<|.int 1)<|sB<|zo lZ (zo qW (hF (zk 0)<|zl<|.int 0)<|zl<|.int 2)<|zl<|.int 1) (zJ (qK 3<|hF (zk 0)<|zo qE (zl<|.int 1)<|zo qW (zh 1)<|zo K7 (xZ<|zk 0)<|zl<|.int 1)<|zJ (wN (jg<|zo Zf (zh 1)<|zo K7 (xZ<|zk 0)<|zl<|.int 1) (.nm 4)<|qK 3<|zo Zf (zh 3)<|zo K8 (zl<|.int 10)<|zl<|.int 9)<|jU<|zo qW (zh 3)<|zo K8 (zl<|.int 10)<|zl<|.int 9) jw)<|jU<|zo qW (zo xX (zo qW (zo qE (zo qE (zo xX (zo qW (zh 2)<|zo K8 (zl<|.int 10)<|zl<|.int 30)<|zl<|.int 48271)<|zo xX (zo xX (zh 1)<|zh 1)<|zl<|.int 7919)<|zl<|.int 11)<|zl<|.int 2147483647)<|zl<|.int 69621)<|zl<|.int 1000000007
def zQ:=jo 1<|jU<|vV (mw .int<|zh 0)<|VZ<|mw .bool<|zh 0
noncomputable def jD:=jo 2<|zJ (mh (xc (zW<|sB<|mw .tuple<|zh 0)<|sB<|zo mm (xZ<|zk 0)<|xZ<|zk 1) (jU<|zl<|.bl f9) jw)<|jU<|vV (Yo<|jS<|jt (jv<|zk 0) (.nm 0) 1 [] qa (zv zQ<|zc (zh 0) zF))<|zo lZ (zh 0)<|zh 1
noncomputable def jb:=jo 2<|zJ (mh (xc (zW<|sB<|mw .tuple<|zh 0)<|xc (sB<|zo mm (xZ<|zk 0)<|zl<|.int 3)<|xc (zW<|sB<|zv zQ<|zc (hF (zk 0)<|zl<|.int 0) zF)<|zW<|sB<|zv zQ<|zc (hF (zk 0)<|zl<|.int 1) zF) (jU<|zl<|.bl f9) jw)<|zJ (mh (xc (sB<|zo mm (WU (zh 0) V0<|pT<|zl<|.int 2)<|WU (zh 1) V0<|pT<|zl<|.int 2)<|xc (zW<|sB<|mw .tuple<|hF (zk 0)<|zl<|.int 2)<|sB<|zo mm (xZ<|zN<|hF (zk 0)<|zl<|.int 2)<|hF (zk 1)<|zl<|.int 0) (jU<|zl<|.bl f9) jw)<|jU<|Yo<|jS<|jt (jg<|hF (zk 1)<|zl<|.int 0) (.nm 0) 1 [0,1] qa (zv jD<|zc (hF (zN<|hF (zk 1)<|zl<|.int 2)<|zh 0)<|zc (hF (zN<|hF (zk 2)<|zl<|.int 2)<|zh 0) zF)
noncomputable def jC:=jo 10<|zJ (k6 5<|qZ zF)<|zJ (wN (jg<|zh 3) (.nm 6)<|zJ (k6 7<|qZ zF)<|zJ (wN (jg<|zh 4) (.nm 8)<|zJ (qK 9<|zv zw<|zc (zh 0)<|zc (zo qE (zo qE (zh 1)<|zo xX (zh 6)<|zh 4)<|zh 8) zF)<|jq 7<|zo xX (zo qW (zh 9)<|zh 2)<|Jg<|zo nT (zo qW (zo Zf (zh 9)<|zl<|.int 7)<|zl<|.int 3)<|zl<|.int 0)<|jq 5<|jc<|zk 7)<|jU<|yt<|zc (zh 3)<|zc (zh 4)<|zc (jc<|zk 5) zF
section
variable(γ:Ctx)
@[simp] def cL:=@eD.eq_1
@[simp] def bu:=@dC.eq_1
@[simp] def Wz:=@bM.eq_1
end
section
variable(γ:Ctx)
@[simp] def bh:=@du.eq_1
@[simp] def cG:=@bH.eq_1
@[simp] def cI:=@eA.eq_1
@[simp] theorem WA(F G a b c):ye F G a b c γ=(a γ).bind λx=>(b γ).bind λy=>((F x y).bind nM).bind λk=>if k=e6 then (c γ).bind λz=>G y z else dV (.bl f9):=rfl
@[simp] def aP:=@QR.eq_1
end
section
variable(γ:Ctx)
@[simp] def Wy:=@bL.eq_1
@[simp] def VQ:=@WX.eq_1
@[simp] def cJ:=@eB.eq_1
@[simp] def bf:=@dr.eq_1
@[simp] def Wr:=@bE.eq_1
end
@[simp] theorem XB(r):yK (dV (.nest r))=dV r:=rfl
noncomputable def qd:=jo 2 (zJ (qK 1 (zo qW (zh 0) (zl (.int 6)))) (jU (vU (zl (.str "")) (jS (jt (jg (zh 1)) (.nm 0) 1 [0] qa (qS (zl (.str "rl")) (zo qW (zo Zf (zh 1) (hF (jS (qZ (zc (zl (.int 6)) (zc (zl (.int 12)) (zc (zl (.int 24)) (zc (zl (.int 48)) (zc (zl (.int 96)) zF))))))) (zh 0))) (zl (.int 2)))))))))
noncomputable def qe:=jo 9 (zJ (qK 5 (jc (jS (jt (jg (zo qE (Zw (zh 3)) (zl (.int 1)))) (.nm 0) 1 [0,1,4] qa (zo qW (zv zw (zc (zh 1) (zc (zo qE (zh 2) (zh 0)) zF))) (zh 3)))))) (zJ (k6 6 (qZ zF)) (zJ (wN (jg (Zw (zh 3))) (.nm 7) (zJ (qK 8 (yt (zc (hF (zk 5) (zo qE (zh 7) (zl (.int 1)))) (zc (hF (zk 5) (zh 7)) zF)))) (zJ (mh (sB (zo lZ (qS (zh 3) (zh 7)) (zl (.str "l")))) (qK 8 (yt (zc (hF (zk 5) (zh 7)) (zc (hF (zk 5) (zo qE (zh 7) (zl (.int 1)))) zF)))) jw) (jq 6 (yt (zc (qS (zh 3) (zh 7)) (zc (zv jC (zc (zh 0) (zc (zo qE (zo qE (zh 1) (zl (.int 10))) (zo xX (zl (.int 17)) (zh 7))) (zc (zh 2) (zc (hF (zk 8) (zl (.int 0))) (zc (hF (zk 8) (zl (.int 1))) zF)))))) zF))))))) (jU (yt (zc (zh 2) (zc (zh 5) (zc (jc (zk 6)) zF))))))))
noncomputable def j0:=jo 4<|zJ (mh (xc (zW<|sB<|mw .tuple<|zh 0)<|xc (sB<|zo mm (xZ<|zk 0)<|zl<|.int 3)<|xc (zW<|sB<|zv zQ<|zc (hF (zk 0)<|zl<|.int 0) zF)<|sB<|zo mm (hF (zk 0)<|zl<|.int 0)<|hF (zk 1)<|zl<|.int 0) (jU<|zl<|.bl f9) jw)<|zJ (mh (xc (zW<|sB<|zv jD<|zc (hF (zk 0)<|zl<|.int 1)<|zc (hF (zk 1)<|zl<|.int 1) zF)<|xc (zW<|sB<|mw .tuple<|hF (zk 0)<|zl<|.int 2)<|sB<|zo mm (xZ<|zN<|hF (zk 0)<|zl<|.int 2)<|xZ<|zN<|hF (zk 1)<|zl<|.int 2) (jU<|zl<|.bl f9) jw)<|zJ (wN (VY (hF (zk 0)<|zl<|.int 2)<|hF (zk 1)<|zl<|.int 2) (.tp [2,3])<|zJ (mh (xc (zW<|sB<|mw .tuple<|zh 2)<|xc (sB<|zo mm (xZ<|zk 2)<|zl<|.int 2)<|sB<|zo mm (hF (zk 2)<|zl<|.int 0)<|hF (zk 3)<|zl<|.int 0) (jU<|zl<|.bl f9) jw)<|mh (xc (zW<|sB<|mw .str<|hF (zk 2)<|zl<|.int 0)<|zW<|sB<|zv jb<|zc (hF (zk 2)<|zl<|.int 1)<|zc (hF (zk 3)<|zl<|.int 1) zF) (jU<|zl<|.bl f9) jw)<|jU<|zl<|.bl e6
section
variable(γ:Ctx)
@[simp] def ql:=@qS.eq_1
@[simp] def Yl:=@Zw.eq_1
@[simp] def bp:=@dw.eq_1
@[simp] def Qz:=@vU.eq_1
end
noncomputable def jE:=jo 2 (jU (WW (sB (zo lZ (zh 1) (zl (.str "r")))) (zh 0) (zo qE (zh 0) (zl (.int 1)))))
noncomputable def kg:=jo 2 (jU (WW (sB (zo lZ (zh 1) (zl (.str "r")))) (zo qE (zh 0) (zl (.int 1))) (zh 0)))
noncomputable def Jf(f:CO D):CO D:=λa=>(f a).map λd=> .bl (yG .list d || yG .tuple d)
def zZ:=jo 1<|jU<|vV (mw .int<|zh 0)<|VZ<|mw .bool<|zh 0
noncomputable def qQ:=jo 1<|jU<|vV (zv zZ<|zc (zh 0) zF)<|bH (zh 0)<|zN<|zl<|.tup [.int 2,.int 3,.int 5,.int 7]
noncomputable def qI:=jo 1<|jU<|vV (zv zZ<|zc (zh 0) zF)<|ye oh oh (zl<|.int 0) (zh 0)<|zl<|.int 30
def zR:=jo 2<|jU<|vV (Jf<|zh 0)<|zo lZ (xZ<|zk 0)<|zh 1
noncomputable def qJ:=jo 2<|jU<|vV (zv zR<|zc (zh 1)<|zc (zh 0) zF)<|Yo<|jS<|jt (jv<|zk 1) (.nm 0) 1 [] qa (zv zZ<|zc (zh 0) zF)
noncomputable def qO:=jo 4<|zJ (mh (zW<|sB<|zv qQ<|zc (zh 0) zF) xO jw)<|zJ (mh (xc (zW<|sB<|zv qI<|zc (zh 1) zF)<|zW<|sB<|zv qI<|zc (zh 2) zF) xO jw)<|zJ (mh (xc (zW<|sB<|zv zR<|zc (zh 3)<|zc (zh 1) zF)<|zW<|sB<|Yo<|jS<|jt (jv<|zk 3) (.nm 0) 1 [2] qa (zv qJ<|zc (zh 1)<|zc (zh 0) zF)) xO jw)<|jU<|yt<|zc (zh 1)<|zc (zh 2)<|zc (jc<|jS<|jt (jv<|zk 3) (.nm 0) 1 [0] qa (zv xM<|zc (zh 1)<|zc (zh 0) zF)) zF
noncomputable def jR:=jo 1 (jU (vU (zl (.str "")) (jS (jt (jv (zN (hF (zk 0) (zl (.int 2))))) (.nm 0) 1 [] qa (hF (zk 0) (zl (.int 0)))))))
noncomputable def jB:=jo 2<|jU<|vV (zo lZ (hF (zk 0)<|zl<|.int 0)<|hF (zk 1)<|zl<|.int 0)<|zo lZ (zv jR<|zc (zh 0) zF)<|zv jR<|zc (zh 1) zF
section
variable{X:Cx}{sc:i8}{N L:List Str}{k:Nat}{a e:hH}{es:List hH}{f:CO D}{g:CO (List D)}{pos p p2:i7}
structure GL(K:eO)(mg:GZ)(x:Str)(d:D):Prop where
 ex : ∃u v,mg x=dV u/\RelV v u/\∀H,Rep K H d v
theorem Jm{x:Str}{d:D}(h:SX X sc N L k)(c:xp sc x=e6)(z:GL X.K X.mg x d):PV X (.Name x pos) (zl d):=by intro b s j H Q I ⟨a,i,g,rc,B,q⟩;cases B;obtain⟨u,v,e,f,J⟩:=z.ex;exact JS I (h.gl c).1 e ⟨v,H,I,f,q v H a (Ext.refl rc.sub)<|J a⟩ (h.gl c).2.2
theorem Jl{J U:i7}{j:Nat}(h:SX X sc N L k)(c:xp sc "isinstance" = e6)(z:X.mg "isinstance" = f6)(c2:xp sc "list" = e6)(z2:X.mg "list" = f6)(c3:xp sc "tuple" = e6)(z3:X.mg "tuple" = f6)(ha:PV X a f)
 (hs:i6 [a,.Tuple [.Name "list" p2,.Name "tuple" J] j U] X.env=[(f9,hI a X.env),(f9,hI (.Tuple [.Name "list" p2,.Name "tuple" J] j U) X.env)]:=by rfl)
 (an:i6 [.Name "list" p2,.Name "tuple" J] X.env=[(f9,hI (.Name "list" p2) X.env),(f9,hI (.Name "tuple" J) X.env)]:=by rfl) :
 PV X (.Call (.Name "isinstance" p) [a,.Tuple [.Name "list" p2,.Name "tuple" J] j U] [] pos) (Jf f):=by
 intro g s σ H Q I ⟨H0,γ,d,rc,ef,q⟩;obtain⟨F,e1,e2⟩:=zm ef;subst e2;refine hX (qV I (h.gl c).1 z iV ?_ ⋯ ⋯);refine gR ?_ (by rw[hs];rfl) rfl;rw[hs];show wpAny _ _ (oG ((f9,hI a X.env)::mT pos [(f9,hI (.Tuple [.Name "list" p2,.Name "tuple" J] j U) X.env)])) _ _ s;refine gn (hR (ha g s σ H (λv H'=>∃m,Ext H0 H m H'/\Rep X.K m F v) I ⟨H0,γ,F,rc,e1,λv H' m x r=>⟨m,x,r⟩⟩) λu l hZ=>?_);obtain⟨x,T,I1,M,Y,S,O⟩:=hZ;show wpAny _ _ (oG ((f9,hI (.Tuple [.Name "list" p2,.Name "tuple" J] j U) X.env)::[])) _ _ l;refine gn (wpAny_Tuple_spliced ?_);rw[an];show wpAny _ _ (oG ((f9,hI (.Name "list" p2) X.env)::mT U [(f9,hI (.Name "tuple" J) X.env)])) _ _ l;refine gn (qV I1 (h.gl c2).1 z2 PyProof.Rows.boot_list ?_ (h.gl c2).2.1 (h.gl c2).2.2);show wpAny _ _ (oG ((f9,hI (.Name "tuple" J) X.env)::[])) _ _ l;refine gn (qV I1 (h.gl c3).1 z3 ip ?_ (h.gl c3).2.1 (h.gl c3).2.2);refine iJ ⟨by decide,?_⟩;refine iJ ?_;have B:L2.Inv X g σ T {l with heap:=l.heap.push {cls:= .type "tuple",data:= .seq #[.type "list",.type "tuple"]},toks:=l.toks}:=I1.kept λb u e=>eQ _ e;have tp:(l.heap.push {cls:= .type "tuple",data:= .seq #[.type "list",.type "tuple"]}).get? l.heap.objs.size=dV ⟨.type "tuple",f6,.seq [lB "list",.type "tuple"].toArray 0,#[]⟩:=fv _ rfl;have R : ∀tk,EP X g σ Q (.bool (yG .list F || yG .tuple F)) {l with heap:=l.heap.push {cls:= .type "tuple",data:= .seq #[.type "list",.type "tuple"]},toks:=tk}:=λtk=>⟨.bl _,T,B.tok tk,rfl,q _ T Y S rfl⟩;have any : ∀{t:hA} {Z b2:Bool},gm X.K t (.type "list")=dV Z->gm X.K t (.type "tuple")=dV b2->PySem.W.kitAny X.K t [.type "list",.type "tuple"]=dV (Z || b2):=λ{t Z b2} g1 g2=>by
  unfold PySem.W.kitAny;rw[g1];cases Z with
  | true=>rfl
  | false=>
   dsimp only;unfold PySem.W.kitAny;rw[g2];cases b2<;>rfl
 cases F with
 | i4=>cases (show x = .i4 from O);cases (show u=gO from M);exact gr lj B.me gw tp (any (jM .list .i4)<|jM .tuple .i4) (λz=>nomatch z) R
 | bl y=>cases (show x = .bl y from O);cases (show u=lC y from M);exact gr ll B.me gw tp (any (jM .list<|.bl y)<|jM .tuple<|.bl y) (λz=>nomatch z) R
 | int i=>cases (show x = .int i from O);obtain⟨t,qq⟩:=(show ∃t,u=Value.int i t from M);cases qq;exact gr lE B.me gw tp (any (jM .list<|.int i)<|jM .tuple<|.int i) (λz=>nomatch z) R
 | str y=>cases (show x = .str y from O);obtain⟨t,qq⟩:=(show ∃t,u=lg y t from M);cases qq;exact gr lD B.me gw tp (any (jM .list<|.str y)<|jM .tuple<|.str y) (λz=>nomatch z) R
 | tup G=>
  obtain⟨a,n,rfl,A,h2⟩:=xA O;cases (show u=fS a from M);obtain⟨b0,rv,⟨o,P,hc,_⟩,hz⟩:=B.tuple<|mE S.sub A;exact gr iU B.me ⟨o,P,hc⟩ tp (any (jM .list<|.tup G)<|jM .tuple<|.tup G) (λz=>nomatch z) R
 | lst G=>
  obtain⟨a,n,rfl,A,h2⟩:=wj O;cases (show u=fS a from M);obtain⟨b0,rv,p,hz⟩:=B.list<|S.sub.seq A;obtain⟨o,P,hc,_⟩:=p.isList;exact gr iz B.me ⟨o,P,hc⟩ tp (any (jM .list<|.lst G)<|jM .tuple<|.lst G) (λz=>nomatch z) R
 | mn C E=>
  obtain⟨a,n,rfl,⟨kk,_,_,A⟩,_⟩:=(show ∃a n,x = .ref a/\o3 Y a C n/\g9 X.K Y E n from O);cases (show u=fS a from M);obtain⟨_,_,b6,_,dd⟩:=aE B.i5<|S.sub _ _ A;exact gr gW B.me dd.typeIs tp (any (jM .list<|.mn C E)<|jM .tuple<|.mn C E) (λz=>nomatch z) R
 | md C E=>
  obtain⟨a,n,rfl,⟨_,o,zs,A,h2,_⟩,_⟩:=(show ∃a n,x = .ref a/\o4 X.K Y a C n/\g9 X.K Y E n from O);cases (show u=fS a from M);obtain⟨P,_⟩:=(show mr X.prog X.w T _ a (rf a o)from B.i5 a _<|S.sub _ _ A);exact gr gW B.me ⟨o,P,h2.1.1⟩ tp (any (jM .list<|.md C E)<|jM .tuple<|.md C E) (λz=>nomatch z) R
end
section
variable{K:eO}{mg:GZ}{h:h9}
theorem bT{x:Str}{n:Int}{t:Tok}(d:K.In h)(G:h.Ns mQ mg)(a:iN K mQ x=dV (dV (.int n t))):GL K mg x (.int n):=
 ⟨_,.int n,iT d G a,⟨t,rfl⟩,λ_=>(show V.int n = .int n from rfl)⟩
noncomputable def wt:List hA->Option (List Int)
 | []=>dV []
 | .int i _::r=>(wt r).map λl=>i::l
 | _::_=>f6
theorem xT : ∀{g:List hA} {ns:List Int},wt g=dV ns->i0 (ns.map V.int) g
 | [],ns,e=>by cases e;exact .nil
 | u::g,ns,e=>by
  cases u with
  | int i t=>
   obtain⟨l,a,b⟩:=zm e;subst b;exact .cons ⟨t,rfl⟩<|xT a
  | _=>cases e
theorem xQ{H:Hp} : ∀ns:List Int,g9 K H (ns.map D.int) (ns.map V.int)
 | []=>g9.nil
 | n::ns=>g9.cons (show V.int n = .int n from rfl)<|xQ ns
theorem au{x:Str}{ad:g6}{d:Array hA}{m:Nat}{g:Array (Option hA)}(ns:List Int)(B:K.In h)(G:h.Ns mQ mg)(a:iN K mQ x=dV (dV (.ref ad)))
 (l:K.lookup ad=dV ⟨.type "tuple",f6,.seq d m,g⟩) (v:wt d.toList=dV ns) (z:d.size<=lV):GL K mg x (.tup (ns.map D.int)):=
 ⟨_,.ref ad,iT B G a,rfl,λH=>(show ∃b e,V.ref ad = .ref b/\i3 K H b e/\g9 K H (ns.map D.int) e from⟨ad,ns.map V.int,rfl,.inr ⟨_,d,m,l,rfl,rfl,z,xT v⟩,xQ ns⟩)⟩
end
theorem vO(h:ou X es n g):oa X es g:=h.1
section
variable{K:eO}{E0 E H0 H:Hp}{σ:St}{γ:Ctx}
theorem g9.dropLast : ∀{g:List D} {xs:List V},g9 K H g xs->g9 K H g.dropLast xs.dropLast
 | [],xs,r=>by rw[r.nD];exact g9.nil
 | [d],xs,r=>by obtain⟨x,B,e,_,z⟩:=r.m8;rw[e,z.nD];exact g9.nil
 | d::d2::g,xs,r=>by obtain⟨x,B,e,I,z⟩:=r.m8;obtain⟨J,M,a,_,_⟩:=z.m8;subst e a;exact g9.cons I<|g9.dropLast z
end
end DL
namespace L2
open PySem PySem.Spec PyProof.Rows
theorem Xv{X:Cx}{t:GW}{L:St}{H:Hp}{s:hL}{E:GQ}{z it:g6}{i M:Nat}{x:hA}{v:V}{g:h9}{C:List hH}{x1:Nat}{G:i7}{Q:Unit->hL->Prop}
 (I:Inv X t L H s) (R : ∀b ∈ [z,it],ZO X t H b) (U:z<s.heap.objs.size) (Z:it<s.heap.objs.size) (W:IsEnumOut g z it ((i:Int)+1) x s.heap.objs.size)
 (Y:mH g s.heap.objs.size (.int i M) x) (a5 : ∀b o,b≠z->b≠it->s.heap.get? b=dV o->g.get? b=dV o) (rx:RelV v x)
 (P : ∀d,IsEnum d z it ((i+1:Nat):Int) x->iB z g d->Inv X t L (upd H s.heap.objs.size<|.tup [.int i,v]) {s with heap:=d,toks:=M+1}->H s.heap.objs.size=f6->
   (∀b ∈ [z,it],upd H s.heap.objs.size (.tup [.int i,v]) b=f6)->Q () {s with heap:=d,toks:=M+1}) :
 wpAny (hO X.prog X.w) X.A (pN (.Tuple C x1 G) (.ref z)<|.ref s.heap.objs.size) Q E {s with heap:=g,toks:=M+1}:=by
 refine wpAny_letOwnedTupleGo_enum W λd a O=>?_;have f:mH d s.heap.objs.size (.int i M) x:=O.extBut _ _ (gS U) Y;have j : ∀B u,B ∉ [z,it]->s.heap.get? B=dV u->d.get? B=dV u:=λB u J e=>by simp only[eY,fD,or_false,not_or]at J;exact O.extBut _ _ J.1<|a5 B u J.1 J.2 e
 refine P d (by have:=a;rwa [show((i:Int)+1)=((i+1:Nat):Int)by omega]at this) O (I.sF (fp:=[z,it]) j R (eW _) ⟨by show 2<=lV;decide,[.int i M,x],.cons ⟨_,rfl⟩<|.cons rx .nil,⟨_,f,rfl,_,rfl⟩⟩) I.fresh λB J=>?_;have h:B≠s.heap.objs.size:=by
  simp only[eY,fD,or_false]at J;rcases J with rfl | rfl
  ·exact fF U
  ·exact fF Z
 rw[zx h];exact(R B J).1
noncomputable def bz(K:eO)(a:g6):It:=
 ⟨λi H=>∃b,i2 K H a b/\i<b.length,
  λi H x d=>∃p u,x = .ref p/\H p=f6/\d=upd H p (.tup [.int i,u])/\(∀b,i2 K H a b->b[i]? = dV u),
  λi H=>∃b,i2 K H a b/\b.length=i⟩
theorem Zu{P:ma}{w:j1}{K:eO}{elts:List hH}{x1:Nat}{nQ:i7}{z it a:g6}(a0:z≠it) :
 Turn P w K (.Tuple elts x1 nQ) (bz K a) [z,it] z (λi h=>(∃M,IsEnum h z it i M)/\h.IsListIter it a i) where
 mem:=by simp
 obj:=λi h ⟨⟨M,B⟩,h1⟩ y hy=>by
  simp only[eY,fD,or_false]at hy;rcases hy with rfl | rfl
  ·exact⟨_,B,λv q=>by cases q⟩
  ·obtain⟨o,e,c,d⟩:=h1
   exact⟨o,e,λv q=>by rw[d]at q;cases q⟩
 keep:=λi h h' ⟨⟨M,B⟩,h1⟩ k=>⟨⟨M,k z ⋯ _ B⟩,h1.at λo e=>k it ⋯ o e⟩
 item:=by
  rintro X rfl rfl rfl hc i pins s σ H E I hf ⟨⟨M,B⟩,h1⟩ ⟨xs,R,ax⟩;obtain⟨U,W,p1,z1⟩:=I.list R;have O:=p1.isList;have hx:xs[i]? = dV xs[i]:=eT ax;have l1:=W.length;have a9:a≠it:=λe=>by obtain⟨o,e1,J,_⟩:=O;obtain⟨o2,e2,c2,_⟩:=h1;rw[e,e2]at e1;cases e1;rw[c2]at J;exact absurd J ⋯
  have b3:z≠a:=λe=>by obtain⟨o,e1,J,_⟩:=O;have ar:s.heap.get? z=dV _:=B;rw[e,e1]at ar;cases ar;exact absurd J ⋯
  have b4:it<s.heap.objs.size:=by obtain⟨o2,e2,_⟩:=h1;exact ff e2
  have Y:=Draws.list (prog:=X.prog) (w:=X.w) (A:=X.A.in1) (show X.A.in1.handled=f6 from I.ok.hd hc) it a a9 U.toArray;refine wpAny_pyNext_enum_itemD Y B ⟨h1,O⟩ (by simp;omega) a0 (by simp;exact⟨a0,b3⟩) λx g tk hP a1 a2 a3 a4 a5=>⟨_,rfl,?_⟩;obtain⟨u1,bd,be⟩:=W.get hx;obtain rfl:u1=x:=by have:=hP;simp[bd]at this;exact this
  refine Xv I hf (ff B) b4 a1 a3 a5 be λg2 b1 b2 I1 bm hn=>⟨.ref s.heap.objs.size,_,I1,rfl,⟨_,_,rfl,bm,rfl,λc7 bn=>by rw[I.rB bn R];exact hx⟩,⟨⟨_,b1⟩,a2.1.at λo e=>b2.extBut _ _ a0.symm e⟩,hn⟩
 done:=by
  rintro X rfl rfl rfl hc i pins s σ H E I hf ⟨⟨M,B⟩,h1⟩ ⟨xs,R,hi⟩;obtain⟨U,W,p1,z1⟩:=I.list R;have O:=p1.isList;have l1:=W.length;have a9:a≠it:=λe=>by obtain⟨o,e1,J,_⟩:=O;obtain⟨o2,e2,c2,_⟩:=h1;rw[e,e2]at e1;cases e1;rw[c2]at J;exact absurd J ⋯
  have Y:=Draws.list (prog:=X.prog) (w:=X.w) (A:=X.A.in1) (show X.A.in1.handled=f6 from I.ok.hd hc) it a a9 U.toArray;have en:U.toArray.size=i:=by simp;omega
  rw[en]at Y;refine wpAny_pyNext_enum_endD Y B ⟨h1,O⟩ λg hk=>⟨rfl,?_⟩;refine I.sG (t':=s.toks) (fp:=[z,it]) (λb' u hb e=>?_) hf;simp only[eY,fD,or_false,not_or]at hb;exact hk b' u hb.2 e
 self:=λ_ _ _ _ _ st h=>vq st.1.choose_spec h
noncomputable def Vw(K:eO)(g:TA):TI:=λf H R=>g f H λd b=>∃a,d=[.ref a]/\(∃e,i2 K b a e)/\R (bz K a) b
section
variable{X:Cx}{e1:hH}{ta:TA}{p pos:i7}{elts:List hH}{x1:Nat}{nQ:i7}
theorem Xf(M:Gl X "enumerate")(C:X.mg "enumerate" = f6)(t:PA X [e1] ta)
 (O:oB "enumerate" = dV (.type "enumerate")) (U:i6 [e1] X.env=[(f9,hI e1 X.env)]:=by rfl) :
 PI X (.Tuple elts x1 nQ) (.Call (.Name "enumerate" p) [e1] [] pos) (Vw X.K ta):=by
 intro b s o H R I h;refine Call_<|qV I M C O<|gz (hR (t pos b s o H _ I h) λx e W=>?_) (by rw[U];rfl) rfl;obtain⟨y,f,d,Y,n⟩:=W;obtain⟨a,rfl,⟨E,i⟩,q⟩:=n;obtain⟨A,rfl,j⟩:=kY Y;cases j;obtain⟨r,u,m,F⟩:=d.list i;refine call_enumerate_list m.isList λg z k w l=>vq (s:={e with heap:=g}) z ?_;refine⟨_,[e.heap.objs.size+1,e.heap.objs.size],_,_,f,rfl,d.kept (t':=e.toks) l,Zu<|gS<|ie _,⟨⟨_,z⟩,k⟩,λc B=>?_,q⟩;have J:e.heap.objs.size<=c:=by
  simp only[eY,fD,or_false]at B;rcases B with rfl | rfl
  ·exact gc _ _
  ·exact eW _
 exact d.pf J<|d.i5.fresh J
end
end L2
namespace DL
open PySem PySem.Spec PyProof.Rows L2
theorem Zr{K:eO}{t C:Hp}{a:g6}{xs:List V}{g:List D}(h:i2 K C a xs)(r:g9 K t g xs):Walk K t C (bz K a) (kN g):=by
 have J:=r.length;have M:(kN g).length=g.length:=by simp[kN]
 refine⟨λi b s l=>?_,λb s=>?_,λi b x j s l y=>?_⟩
 ·exact⟨xs,s.seq h,by omega⟩
 ·exact⟨xs,s.seq h,by omega⟩
 ·obtain⟨p,u,rfl,z,rfl,B⟩:=y
  obtain⟨d,k,I⟩:=r.pL<|B xs<|s.seq h;refine⟨.tup [.int i,d],?_,λf m e=>⟨upd f p<|.tup [.int i,u],Ext.alloc e z _,?_⟩⟩
  ·unfold kN
   rw[fP,List.getElem?_range ⋯,gu,k];rfl
  ·exact jN (i3.of zu)<|g9.cons (show V.int i = .int i from rfl)<|g9.cons ((I.mono m).mono (zC (je e z) _)) g9.nil
theorem y8 : ∀l:List Str,(l.map V.str).all k9=e6
 | []=>rfl
 | i::l=>by simp only[fO,lx,y8 l,Bool.and_true];rfl
section
variable{X:Cx}{sc:i8}{N L:List Str}{k:Nat}{a b e:hH}{pos p p2:i7}{f fa fb:CO D}
theorem KN(h:SX X sc N L k)(c:xp sc "enumerate" = e6)(z:X.mg "enumerate" = f6)(t:PV X a f)(I:i6 [a] X.env=[(f9,hI a X.env)]:=by rfl) :
 mY X (.Tuple elts x1 nQ) (.Call (.Name "enumerate" p) [a] [] pos) (XO f):=
 JA (Xf (h.gl c).1 z (zX t jQ I) boot_enumerate I) λn H R M=>by
  obtain⟨g,j,l,rc,B,q⟩:=M;obtain⟨d,O,B⟩:=zb B;cases d with
  | lst m=>
   cases B;refine⟨g,j,_,rc,O,λv e b x r=>?_⟩;obtain⟨U,i,rfl,J,W⟩:=wj r;exact⟨U,rfl,⟨i,x.sub.seq J⟩,q _ e b x<|Zr J W⟩
  | _=>cases B
end
section
variable{K:eO}{mg:GZ}{h:h9}
noncomputable def vS:List hA->Option (List Str)
 | []=>dV []
 | .str i _::r=>(vS r).map λl=>i::l
 | _::_=>f6
theorem xN : ∀{g:List hA} {ns:List Str},vS g=dV ns->i0 (ns.map V.str) g
 | [],ns,e=>by cases e;exact .nil
 | u::g,ns,e=>by
  cases u with
  | str i t=>
   obtain⟨l,a,b⟩:=zm e;subst b;exact .cons ⟨t,rfl⟩<|xN a
  | _=>cases e
theorem xP{H:Hp} : ∀ns:List Str,g9 K H (ns.map D.str) (ns.map V.str)
 | []=>g9.nil
 | n::ns=>g9.cons (show V.str n = .str n from rfl)<|xP ns
theorem aq{x:Str}{ad:g6}{d:Array hA}{m:Nat}{g:Array (Option hA)}(ns:List Str)(B:K.In h)(G:h.Ns mQ mg)(a:iN K mQ x=dV (dV (.ref ad)))
 (l:K.lookup ad=dV ⟨.type "tuple",f6,.seq d m,g⟩) (v:vS d.toList=dV ns) (z:d.size<=lV):GL K mg x (.tup (ns.map D.str)):=
 ⟨_,.ref ad,iT B G a,rfl,λH=>(show ∃b e,V.ref ad = .ref b/\i3 K H b e/\g9 K H (ns.map D.str) e from⟨ad,ns.map V.str,rfl,.inr ⟨_,d,m,l,rfl,rfl,z,xN v⟩,xP ns⟩)⟩
end
end DL
namespace DL
open PySem PySem.Spec PyProof.Rows L2
open PySem.W (KasT kas_sort kas_ask kat_run kat_snds kat_lt kat_cons kat_no kat_yes kat_nil kat_go kat_one kat_kind KatTups KatGo)
section
variable{X:Cx}{a b c:hH}{pos:i7}{fa fb fc:CO D}
theorem Jn{M O:CmpOp}{r U:R2}{F G:D->D->Option D}(ho:lY X (mL M) r)(C:lY X (mL O) U)(s1:mB X.K r F)(s2:mB X.K U G)(ha:PV X a fa)(hb:PV X b fb)(hc:PV X c fc)
 (hm:rz [M,O] [b,c]=f9:=by with_unfolding_all rfl):mO X (.Compare a [M,O] [b,c] pos) (sB<|ye F G fa fb fc):=
 Jp (QY ho C ha hb hc hm) λσ H Q hZ=>by
  obtain⟨i,h,kq,rc,u,q0⟩:=hZ;obtain⟨d,B,e9⟩:=zb u;have q : ∀v f e,Ext i H e f->Rep X.K e d v->∃k,v = .bl k/\Q k f:=λv f e x W=>by rw[kf e9]at W;exact⟨kq,W,q0 f e x⟩
  obtain⟨x,N,B⟩:=zb B;obtain⟨y,P,B⟩:=zb B;obtain⟨k,S,B⟩:=zb B;obtain⟨Y,T,l⟩:=zb S;refine⟨i,h,x,rc,N,λv1 H1 w g r1=>⟨w,h,y,rc.ext g,P,λn o A I m=>s1 A o v1 n x y Y _ I.sub (r1.mono I.s0) m T λv3 p j J r3=>?_⟩⟩;cases Y with
  | bl k'=>
   cases l;refine⟨k,show v3 = .bl k from r3,?_⟩;cases k with
   | true=>
    rw[GJ rfl];rw[GJ rfl]at B;obtain⟨z,Z,e7⟩:=zb B;exact⟨j,h,z,((rc.ext g).ext I).ext J,Z,λv4 s E R r4=>s2 E s n v4 y z d _ R.sub ((m.mono J.s0).mono R.s0) r4 e7 λv5 t L x5 r5=>q v5 t L (((g.trans I).trans J).trans (R.trans x5)) r5⟩
   | false=>
    rw[GY ⋯];rw[GY ⋯]at B;cases B;exact q _ p j ((g.trans I).trans J) rfl
  | _=>cases l
end
end DL
namespace DL
open PySem L2
noncomputable def V1(f:CO D)(γ:Ctx):Option (List D):=((f γ).bind mF).bind λn=>if inR n=e6/\n.toNat<=lim then dV (xj 0 n.toNat)else f6
@[simp] def Yq:=@V1.eq_1
noncomputable def WE(g t fs:List D):List D:=(g.zip<|t.zip fs).map λp=>D.tup [p.1,p.2.1,p.2.2]
noncomputable def de(f g h:CO D)(γ:Ctx):Option (List D):=((f γ).bind ju).bind λm=>((g γ).bind ju).bind λn=>((h γ).bind ju).map λo=>WE m.2 n.2 o.2
@[simp] def aN:=@de.eq_1
mutual
def nY:D->Bool
 | .tup a=>nE a
 | .lst _=>f9
 | .mn _ _=>f9
 | .md _ _=>f9
 | _=>e6
def nE:List D->Bool
 | []=>e6
 | x::xs=>nY x && nE xs
end
noncomputable def bG(f g:CO D)(γ:Ctx):Option (List D):=((f γ).bind ju).bind λm=>((g γ).bind ju).bind λn=>if m.2.length<=lim then dV (XH m.2 n.2)else f6
@[simp] def Wt:=@bG.eq_1
noncomputable def ZV:List D->Option (List D×List D)
 | []=>dV ([],[])
 | d::r=>match d with
  | .tup a=>match a with
   | [k,v]=>(ZV r).map λp=>(k::p.1,v::p.2)
   | _=>f6
  | _=>f6
noncomputable def bK(f:CO (List D))(γ:Ctx):Option D:=(f γ).bind λa=>(ZV a).bind λp=>aF p.1 p.2
@[simp] def Wx:=@bK.eq_1
def ah:D->Option (List Int)
 | .tup a=>JW a
 | _=>f6
noncomputable def Vl:List D->Option (List<|List Int)
 | []=>dV []
 | d::ds=>(ah d).bind λk=>(Vl ds).map λr=>k::r
noncomputable def bJ(f:CO (List D))(γ:Ctx):Option D:=(f γ).bind λb=>(ZV b).bind λp=>(Vl p.1).bind λa=>if a.Nodup/\a.length<=lim then dV (.md a p.2)else f6
noncomputable def aw:List (List Int)->List D->List Int->Option D
 | k::ks,v::vs,i=>if k=i then dV v else aw ks vs i
 | _,_,_=>f6
noncomputable def dz(g z:CO D)(γ:Ctx):Option D:=(g γ).bind λd=>(z γ).bind λk=>match d with
 | .md a b=>(ah k).bind λi=>aw a b i
 | _=>f6
noncomputable def av(d k x:D):Option D:=match d with
 | .md a b=>(ah k).map λi=>(aw a b i).getD x
 | _=>f6
noncomputable def dq(g z B:CO D)(γ:Ctx):Option D:=(g γ).bind λd=>(z γ).bind λk=>(B γ).bind λx=>av d k x
noncomputable def dn(f:CO D)(γ:Ctx):Option (List D):=(f γ).bind λd=>match d with
 | .md a _=>dV (a.map λk=> .tup (k.map .int))
 | _=>f6
section
variable(γ:Ctx)
@[simp] def Ww:=@bJ.eq_1
@[simp] def bo:=@dz.eq_1
@[simp] def bc:=@dq.eq_1
@[simp] def aZ:=@dn.eq_1
end
noncomputable def bU:List (List Int)->List Int->List Int->Option Int
 | k::ks,n::ns,i=>if k=i then dV n else bU ks ns i
 | _,_,_=>f6
noncomputable def eqT(g:List (List Int))(ns:List Int)(d:List (List Int))(z:List Int):Bool:=decide (g.length=d.length) && (g.zip ns).all λx=>decide<|bU d z x.1=dV x.2
noncomputable def bX(d e:D):Option Bool:=match d with
 | .md a f=>match e with
  | .md z B=>(JW f).bind λb=>(JW B).map λI=>eqT a b z I
  | _=>f6
 | _=>f6
@[simp] def eM(d e:D):Option D:=(bX d e).map D.bl
@[simp] def eL(d e:D):Option D:=(bX d e).map λb=>D.bl<|!b
noncomputable def dm(f:CO D)(γ:Ctx):Option D:=(f γ).bind λd=>match d with
 | .md a _=>dV (.int a.length)
 | _=>f6
@[simp] def aY:=@dm.eq_1
abbrev TT:=List (List (List Int))
def Xr:Cell->Bool
 | .no=>e6
 | .val _=>e6
 | _=>f9
open PySem.Spec PyProof.Rows
inductive Pl where
 | out | tab (k:Nat) | row (k m:Nat)
deriving DecidableEq
theorem Jx{γ:Ctx}(h:γ.all Xr=e6) : ∀(i:Nat) g,γ[i]? ≠ dV (.own g):=λi g e=>by have:=fJ.mp h _<|gJ e;cases this
theorem Jy{γ:Ctx}(h:γ.all Xr=e6) : ∀(i:Nat) g,γ[i]? ≠ dV (.nest g):=λi a e=>by have:=fJ.mp h _<|gJ e;cases this
theorem yi{γ:Ctx}(h:γ.all Xr=e6)(j:Nat){c:Cell}(d:Xr c=e6):(γ.set j c).all Xr=e6:=by
 refine fJ.mpr λB I=>?_;rcases List.mem_or_eq_of_mem_set I with z | z
 ·exact fJ.mp h B z
 ·rw[z];exact d
section
variable{K:eO}{al:List (Nat×Pl)}{E0 E H0 H nK H':Hp}{σ tH:St}{γ γ':Ctx}{Z:TT}{ad:Pl->g6}
theorem RC.pl(sub:i1 H0 H)(len:σ.length=γ.length)(val : ∀(i:Nat) d,γ[i]? = dV (.val d)->∃v,σ[i]? = dV (dV v)/\Rep K H0 d v)(pn:γ.all Xr=e6):RC K H0 H σ γ:=
 ⟨sub,len,val,λi b e=>absurd e<|Jx pn i b,λi j a b f e=>absurd e<|Jx pn i b,mM.pj<|Jy pn⟩
theorem RS.pl(rc:RC K H0 H σ γ)(x:Ext E0 E H0 H)(pn:γ.all Xr=e6):RS K E0 E H0 H σ γ:=
 ⟨rc,x,λi d a e=>absurd e<|Jx pn i d,λi b a f e=>absurd e<|Jy pn i b⟩
open Classical in
end
open Classical in
section
variable{H:Hp}{Z:TT}{ad:Pl->g6}
end
section
variable{X:Cx}{sc:i8}{N L:List Str}{k j i n w:Nat}{st:jz}{qT:List jz}{e e2:hH}{es:List hH}{f:CO D}{g:CO (List D)}{pos p:i7}{x:Str}{al:List (Nat×Pl)}
theorem yk{E H:Hp}{c:g6}(s:i1 E H)(h:H c=f6):E c=f6:=by
 cases q:E c with
 | none=>rfl
 | some o=>rw[s c o q]at h;cases h
end
section
variable{X:Cx}{sc:i8}{N L:List Str}{k j n i:Nat}{a b c e:hH}{es:List hH}{f:CO D}{g:CO (List D)}{p pos:i7}{x:Str}{st rL rM:jz}{qT:List jz}{F:List D->Option Res}
open Classical in
def nW(H:Hp)(p:g6):Hp:=λc=>if c=p then f6 else H c
theorem pM{H:Hp}{p c:g6}(h:c≠p):nW H p c=H c:=GY h
end
mutual
def rF:D->Bool
 | .tup a=>pk a
 | .lst a=>pk a
 | .mn _ _=>f9
 | .md _ _=>f9
 | _=>e6
def pk:List D->Bool
 | []=>e6
 | x::xs=>rF x && pk xs
end
mutual
theorem Rep.less{K:eO}{H:Hp}{p:g6}{g:h9->Prop}(B:H p=dV (.ext g)) : ∀{d:D} {v:V},rF d=e6->Rep K H d v->Rep K (nW H p) d v
 | .i4,_,_,h=>h
 | .bl _,_,_,h=>h
 | .int _,_,_,h=>h
 | .str _,_,_,h=>h
 | .tup ds,v,n,h=>by
  obtain⟨a,b,f,i,j⟩:=(show ∃a b,v = .ref a/\i3 K H a b/\g9 K H ds b from h);refine(show ∃a b,v = .ref a/\i3 K (nW H p) a b/\g9 K (nW H p) ds b from⟨a,b,f,?_,g9.less B n j⟩);have z : ∀{u:HO},(∀g,u ≠ .ext g)->H a=dV u->a≠p:=λI q e=>by rw[e,B]at q;exact I _ (fK q).symm
  rcases i with(hq | ⟨o',hq⟩) | hq
  ·exact .inl (.inl<|by rw[pM (z (λ_=>by simp) hq)];exact hq)
  ·exact .inl<|.inr ⟨o',by rw[pM (z (λ_=>by simp) hq)];exact hq⟩
  ·exact .inr hq
 | .lst ds,v,n,h=>by
  obtain⟨a,b,f,i,j⟩:=(show ∃a b,v = .ref a/\i2 K H a b/\g9 K H ds b from h);refine(show ∃a b,v = .ref a/\i2 K (nW H p) a b/\g9 K (nW H p) ds b from⟨a,b,f,?_,g9.less B n j⟩);have z : ∀{u:HO},(∀g,u ≠ .ext g)->H a=dV u->a≠p:=λI q e=>by rw[e,B]at q;exact I _ (fK q).symm
  rcases i with(hq | ⟨o',hq⟩) | hq
  ·exact .inl (.inl<|by rw[pM (z (λ_=>by simp) hq)];exact hq)
  ·exact .inl<|.inr ⟨o',by rw[pM (z (λ_=>by simp) hq)];exact hq⟩
  ·exact .inr hq
 | .mn _ _,_,n,_=>nomatch n
 | .md _ _,_,n,_=>nomatch n
theorem g9.less{K:eO}{H:Hp}{p:g6}{t:h9->Prop}(z:H p=dV (.ext t)) : ∀{g:List D} {xs:List V},pk g=e6->g9 K H g xs->g9 K (nW H p) g xs
 | [],_,_,h=>h
 | d::g,xs,n,h=>by obtain⟨x,r,a,b,e⟩:=(show ∃x r,xs=x::r/\Rep K H d x/\g9 K H g r from h);have n:(rF d && pk g)=e6:=n;rw[fe]at n;exact(show ∃x r,xs=x::r/\Rep K (nW H p) d x/\g9 K (nW H p) g r from⟨x,r,a,Rep.less z n.1 b,g9.less z n.2 e⟩)
end
section
variable{X:Cx}{sc:i8}{N L:List Str}{k j n i:Nat}{a b c e:hH}{es:List hH}{g:CO (List D)}{p pos:i7}{x y:Str}{st:jz}{body qT:List jz}{F:List D->Option Res}
open Classical in
noncomputable def wz(H:Hp)(L:List g6):Hp:=λc=>if c∈L then dV (.lst [])else H c
theorem Zh{H:Hp}{L:List g6}{c:g6}(h:c∈L):wz H L c=dV (.lst []):=by unfold wz;rw[GJ h]
theorem qj{H:Hp}{L:List g6}{c:g6}(h:c∉L):wz H L c=H c:=by unfold wz;rw[GY h]
theorem Yc(H:Hp):wz H []=H:=by funext c;exact qj fD
theorem Qq(H:Hp)(L:List g6)(b:g6):upd (wz H L) b (.lst [])=wz H (L++[b]):=by
 funext c;by_cases e:c=b
 ·subst e;rw[zu,Zh ⋯]
 ·rw[zx e]
  by_cases m:c∈L
  ·rw[Zh m,Zh (iS _ m)]
  ·rw[qj m,qj (by simp[m,e])]
end
noncomputable def Jd(z B I J M O:Nat)(U W Y:CO (List D))(g:CO D)(t:CO Bool)(G:CO Fl):CO Fl:=λa=>
 if a.all Xr=e6/\[z,B,I,J,M,O].Nodup/\(z<a.length/\B<a.length/\I<a.length)/\J<a.length/\M<a.length/\O<a.length then
  (U a).bind λe=>(W<|a.set z<|.val<|.lst e).bind λf=>(Y<|(a.set z<|.val<|.lst e).set B (.val<|.lst f)).bind λR=>
    (g<|((a.set z<|.val<|.lst e).set B (.val<|.lst f)).set I (.val<|.lst R)).bind λd=>if nY d=e6 then
      (t<|(((a.set z<|.val<|.lst e).set B (.val<|.lst f)).set I (.val<|.lst R)).set J (.val d)).bind λb=>if b=e6 then dV (.ret<|.val<|.bl f9)else
        G ((((((a.set J<|.val d).set z .no).set B .no).set I .no).set M .no).set O .no)
    else f6
 else f6
noncomputable def vT(f:CO D)(g:CO (Sk×List D)):CO D:=λb=>(f b).bind λd=>(g b).bind λa=>match d with
 | .str x=>(k5 a.2).map λl=> .bl (!l.any λy=>y==x)
 | _=>f6
structure W2(K:eO)(E H0:Hp)(d:D)(t b:g6):Prop where
 nb:E b=f6
 ex : ∃d1 rows v ys,d = .tup [d1,.lst rows]/\i3 K H0 t [v,.ref b]/\Rep K H0 d1 v/\H0 b=dV (.lst ys)/\g9 K H0 rows ys
theorem W2.mono{K:eO}{E g C:Hp}{d:D}{t b:g6}(h:W2 K E g d t b)(s:i1 g C):W2 K E C d t b:=by obtain⟨f,a,v,i,e,z,B,I,J⟩:=h.ex;exact⟨h.nb,f,a,v,i,e,mE s z,B.mono s,s _ _ I,J.mono s⟩
theorem W2.on{K:eO}{E G g:Hp}{d:D}{t b:g6}(h:W2 K E g d t b)(s:i1 G E):W2 K G g d t b:=⟨yk s h.nb,h.ex⟩
theorem W2.rep{K:eO}{E g:Hp}{d:D}{t b:g6}(h:W2 K E g d t b):Rep K g d (.ref t):=by obtain⟨e,a,v,f,rfl,z,B,I,J⟩:=h.ex;exact⟨t,_,rfl,z,g9.cons B<|g9.cons (xB (i2.of I) J) g9.nil⟩
structure PP(K:eO)(E H0:Hp)(ds:List D)(ts bs:List g6):Prop where
 l1:ts.length=ds.length
 l2:bs.length=ds.length
 at_ : ∀(m:Nat) d t b,ds[m]? = dV d->ts[m]? = dV t->bs[m]? = dV b->W2 K E H0 d t b
theorem PP.nil{K:eO}{E g:Hp}:PP K E g [] [] []:=⟨rfl,rfl,λm d t b h=>by simp at h⟩
theorem PP.mono{K:eO}{E g C:Hp}{G:List D}{H bs:List g6}(h:PP K E g G H bs)(s:i1 g C):PP K E C G H bs:=⟨h.l1,h.l2,λm d t b z B I=>(h.at_ m d t b z B I).mono s⟩
theorem PP.on{K:eO}{E G g:Hp}{C:List D}{H bs:List g6}(h:PP K E g C H bs)(s:i1 G E):PP K G g C H bs:=⟨h.l1,h.l2,λm d t b z B I=>(h.at_ m d t b z B I).on s⟩
theorem PP.app{K:eO}{E C:Hp}{g:List D}{G bs:List g6}{d:D}{t b:g6}(h:PP K E C g G bs)(w:W2 K E C d t b):PP K E C (g++[d]) (G++[t]) (bs++[b]):=by
 refine⟨by simp[h.l1],by simp[h.l2],λm f i J z B I=>?_⟩;by_cases a:m<g.length
 ·rw[fG a]at z
  rw[fG (by rw[h.l1];exact a)]at B;rw[fG (by rw[h.l2];exact a)]at I;exact h.at_ m f i J z B I
 ·have e:m=g.length:=by
   have:=(eU.mp z).1;rw[gp,ia]at this;omega
  subst e;rw[fC (eW _),lK]at z;rw[fC (by rw[h.l1];exact eW _),h.l1,lK]at B;rw[fC (by rw[h.l2];exact eW _),h.l2,lK]at I;cases z;cases B;cases I;exact w
theorem PP.rJ{K:eO}{E G:Hp} : ∀{C:List D} {g bs:List g6},PP K E G C g bs->g9 K G C (g.map V.ref)
 | [],g,bs,h=>by
  have:=h.l1;cases g with
  | nil=>exact g9.nil
  | cons t g=>cases this
 | d::C,g,bs,h=>by
  have a:=h.l1;have e:=h.l2;cases g with
  | nil=>cases a
  | cons t g=>
   cases bs with
   | nil=>cases e
   | cons b bs=>exact g9.cons (h.at_ 0 d t b rfl rfl rfl).rep (PP.rJ ⟨Nat.succ.inj a,Nat.succ.inj e,λm f i z B I J=>h.at_ (m+1) f i z B I J⟩)
noncomputable def sD(K:eO)(z:CO D)(B:CO (List D)):TE:=λi H Q=>∃h f d a,RC K h H i f/\z f=dV d/\B f=dV a/\∀t b g e,Ext h H e g->W2 K H e (.tup [d,.lst a]) t b->Q (.ref t) g
noncomputable def sA(K:eO)(f:CO (List D)):TE:=λj H Q=>∃e i g,RC K e H j i/\f i=dV g/\∀a h bs d b,Ext e H b d->H a=f6->b a=f6->d a=dV (.lst<|h.map V.ref)->PP K H b g h bs->Q (.ref a) d
noncomputable def tq(K:eO)(n:Nat)(F:List D->Option Res):Sp:=λi H Q _=>∃e f g,i1 e H/\g9 K e f i/\f.length=n/\F f=dV (.own g)/\∀a h bs d b,Ext e H b d->H a=f6->b a=f6->d a=dV (.lst<|h.map V.ref)->PP K H b g h bs->Q (.ref a) d
structure p6(P:ma)(w:j1)(K:eO)(mg:GZ)(base:h9)(k:Nat)(x:Str)(n:Nat)(F:List D->Option Res):Prop where
 ex : ∃(f:g6) (fd:mX) (ps:List Str),ps.length=n/\nf P w K mg base nt k f fd ps (tq K ps.length F)/\mg x=dV (.ref f)/\gZ K (.ref f)=e6/\Binds K fd ps []
noncomputable def sC(K:eO)(n:Nat)(F:CO Fl):TS:=λD i H=>∃E0 E h e f,RS K E0 E h H i e/\e.length=n/\F e=dV (.ret<|.own f)/\∀a g bs d b,Ext E0 E b d->E a=f6->b a=f6->d a=dV (.lst<|g.map V.ref)->PP K E b f g bs->D.rt (.ref a) d
section
variable{P:ma}{w:j1}{K:eO}{mg:GZ}{base:h9}
theorem dR{x:Str}{st:jz}{N g:List Str}{k:Nat}{F:CO Fl}(A:mf K mg x st g)(t:J6 N g st=e6)
 (I : ∀X:Cx,X.prog=P->X.w=w->X.K=K->X.mg=mg->X.base=base->SX X (zE st) N N k->X.xe=(λ_ _=>False)->mN X (j8 st) (sC X.K N.length F)) :
 p6 P w K mg base (k+1) x g.length (jo N.length F):=by
 obtain⟨f,p,z,J,u⟩:=A.ex;have S:=yr t;refine⟨f,p,g,rfl,?_,u,z.kp,.all J⟩;refine z.ok S (λC H Q E h=>?_)<|λm A e s H C Q E M h=>⟨_,I _ rfl rfl rfl rfl rfl ⟨rfl,rfl,S.nd,rfl,M,λ_ _=> .inl rfl⟩ rfl,?_⟩
 ·obtain⟨b,o,r,_,d,j,_⟩:=h
  rw[d.length,j]
 obtain⟨b,o,i,y,d,j,O,q⟩:=h;have U:g.length<=N.length:=by have:=congrArg List.length S.pre;rw[ic]at this;omega
 obtain⟨B,n,a⟩:=zb O;have R:B = .ret (.own i):=by
  cases B with
  | ret r=>cases a;rfl
  | next l=>cases a
  | brk l=>cases a
  | cont l=>cases a
 subst R;exact⟨b,H,b,_,i,wQ y d ⋯,by simp[zY];omega,n,q⟩
end
section
variable{X:Cx}{sc:i8}{N L:List Str}{k j n i:Nat}{a b c e:hH}{es:List hH}{g:CO (List D)}{p pos:i7}{x:Str}{st:jz}{body qT:List jz}{F:List D->Option Res}
theorem QZ{C:ExceptHandler}{B:List ExceptHandler}{t:i7}{F:CO Fl}(h:mP X.oW st F):mP X (.Try [st] (C::B) [] [] t) F:=by
 intro a s f H D I ⟨J,M,b,e,d,O,R,U⟩;refine wpAny_Try_except ?_;refine gY (zg h a s f H D (I.nc _) ⟨J,M,b,e,_,O,R,U⟩) (λd g z=>?_) λ_ _ z=>z.elim;have z:=z.n6;cases d with
 | next=>exact iZ z
 | ret v=>exact z
 | brk=>exact z
 | cont=>exact z
theorem KD{I:CO D}{J:CO (List D)}{U:Nat}(C:PV X a I)(G:PO X b J)(W:i6 [a,b] X.env=(f9,hI a X.env)::i6 [b] X.env:=by rfl)(Y:i6 [b] X.env=(f9,hI b X.env)::i6 [] X.env:=by rfl) :
 PE X (.Tuple [a,b] U pos) (sD X.K I J):=jm (XY<|zX C (zX G jQ Y) W) λy H Q o=>by
 obtain⟨h,g,d,e,rc,k,m,q⟩:=o;refine⟨h,g,d,rc,k,λM u i f j=>⟨i,g,e,rc.ext f,m,λl s w x r O R g3 n=>⟨(show 2<=lV by decide),λt p=>?_⟩⟩⟩;have B:=r.show O R g3 f.sub;have z:=Ext.alloc B.sub p<|.tup [M,.ref l];exact q t l _ _ (f.trans<|B.trans z) ⟨yk f.s1 O,d,e,M,s,rfl,i3.of zu,(j.mono B.s0).mono z.s0,z.s0 _ _ zu,(n.mono<|zC R _).mono z.s0⟩
theorem YU(I:p6 X.prog X.w X.K X.mg X.base j x n F)(J:j<=k)(h:SX X sc N L k)(c:xp sc x=e6)(t:ou X (e::es) n g)
 (M:i6 (e::es) X.env=(f9,hI e X.env)::i6 es X.env:=by rfl) (O:(mT pos<|starEach es X.env).any (·.1)=f9:=by rfl) :
 PE X (.Call (.Name x p) (e::es) [] pos) (sA X.K<|wO F g):=by
 obtain⟨fa,fd,ps,A,G,y,R,U⟩:=I.ex;subst A;refine jm (JE (E:=E0) G (h.room.mono J) (h.gl c).1 y R U .nil Y7 t.1 (h.gl c).2.2 M O) λσ H Q W=>?_;obtain⟨o,l,u,rc,z,q⟩:=W;obtain⟨B,i,z⟩:=zb z;obtain⟨r,Y,z⟩:=zb z;cases r with
 | val d=>cases z
 | own Z=>
  cases z;exact⟨o,l,B,rc,i,λvs T s b C=>⟨s,B,u,b.sub,by simpa using C,t.2 l B i,Y,λa P bs m f S g1 g2 g3 pp=>q a P bs m f (b.trans S) (yk b.s1 g1) g2 g3<|pp.on b.s1⟩⟩
theorem KQ(i:Nat){C:TE}{t cpos d:i7}(h:SX X sc N L k)(c:kX sc N i x=e6)(G:PE X a C)(z:i6 [a] X.env=[(f9,hI a X.env)]:=by rfl)
 (B:oO (.Name x d) "append" X.env (hI (.Name x d) X.env)=hI (.Name x d) X.env:=by rfl)
 (I:((mT cpos<|starEach [a] X.env).all (λx=> !x.1) && (rh cpos<|keywordEach [] X.env).all (λx=>x.1.isSome)
   && decide ([a].length+([]:List oq).length+(if ([]:List oq).isEmpty then 0 else 1)<30))=e6:=by rfl)
 (J:(t.endLine==cpos.line)=e6:=by rfl):PE X (.Call (.Attribute (.Name x d) "append" t) [a] [] cpos) (pX X.K "list" yu (Kk i) (QL C VX)):=
 KP gQ PySem.F.slot_list_append PySem.F.type_list_append vo (h.var c) (zX G jQ z) B I J z rfl
theorem Y9(i O z B R:Nat){nn:Nat}(di:i<nn){tg C ap:hH}{c4 c5 c6:jz}{ep dl rp np:i7}{Z:CO (List D)}{f1 f2 fz:CO D}{fl:CO (List D)}(c8:[i,O,z,B,R].Nodup)(hp:pH (hO X.prog X.w) X.A X.env X.xe)(h:SX X sc N L k)(cx:kX sc N i x=e6)
 (h0:PS X c4 (y0 (tO X.K<|qZ zF)<|qc i)) (hi:mY X tg C Z) (hg:PG X tg (qc O)) (h1:PS X c5 (y0 (tV X.K f1)<|nC X.K<|.tp [z,B])) (h2:PS X c6 (y0 (tV X.K f2)<|qc R))
 (ha:PE X ap (pX X.K "list" yu (Kk i) (QL (sD X.K fz fl) VX))) (e9:nH ap f6 ep.line X.env=pure f9:=by rfl) (hs : ∀x,nq C X.env x=pure x:=by intro _;rfl) :
 mN X [c4,.For tg C [c5,c6,.Expr ap ep] [] dl,.Return (dV (.Name x np)) rp] (sC X.K nn<|zJ (k6 i<|qZ zF)<|zJ (wN Z (.nm O)<|zJ (QR (.tp [z,B]) f1)<|zJ (qK R f2)<|jq i<|yt<|zc fz<|zc (vN fl) zF)<|Je i):=by
 intro S s σ H En I hZ;refine(jd h0<|jd (Jv hp h.calm hi hg (jd h1<|jd h2<|ko<|yx ha e9) hs)<|ko<|Ju<|h.var cx) S s σ H En I ?_;obtain⟨E0,E,H0,γ,ej,rs,sW,U,el⟩:=hZ;obtain⟨h5,e1,U⟩:=zb U;obtain⟨c9,e0,rfl⟩:=zm e1;obtain⟨cd,e2,U⟩:=zb U;obtain⟨j,e3,e4⟩:=zb e2;have er:c9=[]:=by have:(if ([]:List D).length<=lim then dV []else f6)=dV c9:=e0;rw[GJ (show([]:List D).length<=lim from gj _)]at this;cases this;rfl
 subst er;simp only[gG,eY,not_or,fD,not_false_eq_true,and_true]at c8;obtain⟨⟨n1,n2,n3,n4⟩,-⟩:=c8;refine⟨H0,γ,[],rs.rc,e0,λa xs H1 eu x1 g1 g2 g3 g4=>?_⟩;have ew:xs=[]:=by have:=g4.length;exact fA this
 subst ew;have ez:E a=f6:=yk rs.ext.s1 g1;have cq:i<γ.length:=by rw[sW];exact di
 have cr:=rs.sr (i:=i) x1 g1 g2 g3 g4;have f0:(σ.set i<|some (V.ref a))[i]? = dV (dV (.ref a)):=fj (by rw[rs.rc.len];exact cq);have f3:(γ.set i<|.own [])[i]? = dV (.own []):=fj cq;refine⟨eu,_,j,cr.rc,e3,λJ H2 as x2 wk=>?_⟩;have ax:=cr.step x2;have ex:=ax.ext;refine⟨λm n g o=>n=j.length - m/\m<=j.length/\∃f e l bs Y,RS X.K as E f o g e/\g[i]? = dV (dV (.ref a))/\e[i]? = dV (.own Y)/\o a=dV (.lst<|l.map V.ref)/\PP X.K E f Y l bs/\qC (.nm O) (zJ (QR (.tp [z,B]) f1)<|zJ (qK R f2)<|jq i<|yt<|zc fz<|zc (vN fl) zF) (j.drop m) e=dV cd,
  ⟨_,rfl,gj _,as,_,[],[],[],⟨ax.rc,ex.base,ax.fresh,ax.nV⟩,f0,f3,x2.s1 _ _ g3,PP.nil,e4⟩,?_⟩
 rintro m n g o ⟨rfl,hm,f,e,l,bs,Y,p,b8,b9,ct,pp,W⟩;have bd:i1 as o:=p.ext.s0.trans p.ext.sub;by_cases Q:m<j.length
 ·refine .inr ⟨wk.go m o bd Q,λg o=>m+1<=j.length/\∃f e l bs Y,RS X.K as E f o g e/\g[i]? = dV (dV (.ref a))/\e[i]? = dV (.own Y)/\o a=dV (.lst<|l.map V.ref)/\PP X.K E f Y l bs/\qC (.nm O) (zJ (QR (.tp [z,B]) f1)<|zJ (qK R f2)<|jq i<|yt<|zc fz<|zc (vN fl) zF) (j.drop<|m+1) e=dV cd,λh6 cw n=>⟨j.length - (m+1),by omega,rfl,n.1,n.2⟩,λy cw yy=>?_⟩
  obtain⟨d,hd,hx⟩:=wk.nR m o y cw bd Q yy;obtain⟨G0,xg,rg⟩:=hx f p.ext.s0 p.rc.sub;have f7:j.drop m=d::j.drop (m+1):=by
   have f8:d=j[m]:=by rw[eT Q]at hd;exact(fK hd).symm
   rw[f8];exact iE Q
  rw[f7]at W;simp only[qC]at W;obtain⟨o1,eb,W⟩:=zb W;cases eb;obtain⟨h8,M,W⟩:=zb W;obtain⟨fa,ea,M⟩:=zb M;obtain⟨d1,fh,ea⟩:=zb ea;obtain⟨tP,r,rfl⟩:=zm ea;obtain⟨fb,fk,M⟩:=zb M;obtain⟨d2,fn,rfl⟩:=zm fk;obtain⟨b0,eo,M⟩:=zb M;obtain⟨dt,fp,M⟩:=zb M;by_cases hl:b0.length<lim
  ·rw[GJ hl]at M
   cases M;have d5:=(p.step xg).mR (i:=O) rg;refine⟨G0,_,d1,d5.rc,fh,λv H3 d6 x3 r3=>?_⟩;cases d1 with
   | tup us=>
    simp only[jT]at r;by_cases b2:us.length=[z,B].length
    ·rw[GJ b2]at r;cases r
     obtain⟨fy,vs,rfl,q1,q2⟩:=(show ∃a xs,v = .ref a/\i3 X.K d6 a xs/\g9 X.K d6 us xs from r3);have hv:vs.length=[z,B].length:=by rw[q2.length,b2]
     refine⟨fy,vs,rfl,mE x3.sub q1,hv,yH hv ?_⟩;have d7:=(d5.step x3).oX (is:=[z,B]) q2;refine⟨_,_,d2,d7.rc,fn,λv2 H4 g5 x4 r4=>?_⟩;have bv:=(d7.step x4).mR (i:=R) r4;obtain⟨G,P,rfl⟩ : ∃G P,vs=[G,P]:=by
      match vs,hv with
      | [G,P],_=>exact⟨G,P,rfl⟩
     obtain⟨u,F,rfl⟩ : ∃u F,us=[u,F]:=by
      match us,b2 with
      | [u,F],_=>exact⟨u,F,rfl⟩
     have c0:((km [z,B] [G,P] (g.set O<|some y)).set R (dV v2))[i]? = dV (dV (.ref a)):=by show(((((g.set O<|some y).set z (dV G)).set B (dV P)).set R (dV v2)))[i]? = _;rw[eR (fH n4),eR<|fH n3,eR<|fH n2,eR (fH n1)];exact b8
     have c1:((jf [z,B] [u,F] (e.set O<|.val d)).set R (.val d2))[i]? = dV (.own Y):=by show(((((e.set O<|.val d).set z (.val u)).set B (.val F)).set R (.val d2)))[i]? = _;rw[eR (fH n4),eR<|fH n3,eR<|fH n2,eR (fH n1)];exact b9
     have e2:b0=Y:=by rw[c1]at eo;cases eo;rfl
     subst e2;have d9:H4 a=dV (.lst<|l.map V.ref):=x4.s1 _ _<|x3.s1 _ _<|xg.s1 _ _ ct;obtain⟨hc,T,z1⟩:=zb fp;obtain⟨d3,z2,T⟩:=zb T;obtain⟨r5,z3,T⟩:=zm T;obtain⟨d4,z4,z3⟩:=zb z3;obtain⟨r6,z5,z3⟩:=zm z3;cases z5;subst z3 T;obtain⟨fs,z6,rfl⟩:=zm z4;have gq:dt = .tup [d3,.lst fs]:=by
      have:dV (D.tup [d3,.lst fs])=dV dt:=by rw[<- z1];rfl
      cases this;rfl
     subst gq;refine⟨_,c0,.inl ⟨rfl,_,i2.of d9⟩,g5,_,d3,fs,bv.rc,z2,z6,λt b H5 db x5 wl=>?_⟩;have gv:PP X.K E db b0 l bs:=(pp.mono<|xg.s0.trans<|x3.s0.trans x4.s0).mono x5.s0;have wE:=wl.on bv.ext.s1;have dd:=gv.app wE;refine⟨a,l.map V.ref,.ref t,rfl,rfl,x5.s1 _ _ d9,fg (by rw[gy,pp.l1];exact hl)<|q8<|eW _,Q,db,_,l++[t],bs++[b],b0++[.tup [d3,.lst fs]],(bv.step x5).rewrite (xs:=l.map V.ref) c1 c0 (by have:=dd.rJ;rwa [iu]at this),c0,?_,by rw[zu,iu];rfl,dd,W⟩;exact fj (eU.mp c1).1
    ·rw[GY b2]at r;cases r
   | _=>simp[jT]at r
  ·rw[GY hl]at M;cases M
 ·have em:m=j.length:=by omega
  subst em;rw[lM]at W;cases W;refine .inl ⟨wk.stop o bd,_,b8,?_⟩;have U:Je i e=dV (.ret<|.own ej):=U;unfold Je at U;rw[b9]at U;cases U;obtain⟨a',hn,q1,q2,q3,q4⟩:=p.rc.own i _ b9;rw[b8]at q1;cases q1;exact el a l bs o f (ex.rebase p.ext) ez q2 ct pp
end
open Classical in
def mU(H:Hp)(L:List g6):Hp:=λc=>if c∈L then f6 else H c
theorem VD{H:Hp}{L:List g6}{c:g6}(h:c∈L):mU H L c=f6:=by unfold mU;rw[GJ h]
theorem pd{H:Hp}{L:List g6}{c:g6}(h:c∉L):mU H L c=H c:=by unfold mU;rw[GY h]
theorem Xx{H:Hp}{L:List g6}{c:g6}{o:HO}(h:mU H L c=dV o):c∉L/\H c=dV o:=by
 by_cases z:c∈L
 ·rw[VD z]at h;cases h
 ·rw[pd z]at h;exact⟨z,h⟩
mutual
theorem si{K:eO}{H:Hp}{L:List g6}(g : ∀c∈L,∃ys,H c=dV (.lst ys)) : ∀{d:D} {v:V},Rep K H d v->nY d=e6->Rep K (mU H L) d v
 | .i4,_,h,_=>h
 | .bl _,_,h,_=>h
 | .int _,_,h,_=>h
 | .str _,_,h,_=>h
 | .tup ds,v,h,q=>by
  obtain⟨b,f,i,h1,j⟩:=(show ∃a f,v = .ref a/\i3 K H a f/\g9 K H ds f from h);have I:i3 K (mU H L) b f:=by
   rcases h1 with(h1 | ⟨o,h1⟩) | h1
   ·have:b∉L:=λz=>by obtain⟨ys,e⟩:=g b z;rw[e]at h1;cases h1
    exact .inl (.inl<|by rw[pd this];exact h1)
   ·have:b∉L:=λz=>by obtain⟨ys,e⟩:=g b z;rw[e]at h1;cases h1
    exact .inl<|.inr ⟨o,by rw[pd this];exact h1⟩
   ·exact .inr h1
  exact(show ∃B f,v = .ref B/\i3 K (mU H L) B f/\g9 K (mU H L) ds f from⟨b,f,i,I,sj g j q⟩)
 | .lst _,_,_,q=>by cases q
 | .mn _ _,_,_,q=>by cases q
 | .md _ _,_,_,q=>by cases q
theorem sj{K:eO}{H:Hp}{L:List g6}(t : ∀c∈L,∃ys,H c=dV (.lst ys)) : ∀{g:List D} {xs:List V},g9 K H g xs->nE g=e6->g9 K (mU H L) g xs
 | [],_,h,_=>h
 | d::g,xs,h,q=>by obtain⟨x,r,a,b,e⟩:=(show ∃x r,xs=x::r/\Rep K H d x/\g9 K H g r from h);have z:(nY d && nE g)=e6:=q;rw[fe]at z;exact(show ∃x r,xs=x::r/\Rep K (mU H L) d x/\g9 K (mU H L) g r from⟨x,r,a,si t b z.1,sj t e z.2⟩)
end
theorem Kn{K:eO}{H:Hp}{L:List g6}{t:g6}{C:List V}(g : ∀c∈L,∃ys,H c=dV (.lst ys))(h:i3 K H t C):i3 K (wz H L) t C:=by
 rcases h with(h1 | ⟨o,h1⟩) | h1
 ·have:t∉L:=λz=>by obtain⟨ys,e⟩:=g t z;rw[e]at h1;cases h1
  exact .inl (.inl<|by rw[qj this];exact h1)
 ·have:t∉L:=λz=>by obtain⟨ys,e⟩:=g t z;rw[e]at h1;cases h1
  exact .inl<|.inr ⟨o,by rw[qj this];exact h1⟩
 ·exact .inr h1
section
variable{X:Cx}{sc:i8}{N L:List Str}{k j n i:Nat}{a b c e:hH}{es:List hH}{g:CO (List D)}{p pos:i7}{x:Str}{st:jz}{body qT:List jz}{F:List D->Option Res}
theorem Jq(O C R Y jy P:Nat){x1 x3 y z:Str}{cs ct rL rM:jz}{e0:hH}{p0 p1 n3 ap cp ep py pz nQ px nz c3 c4 d1 d2:i7}{kx:Nat}{f1 f2 f3:CO (List D)}{f4:CO D}{t:CO Bool}{G:CO Fl}
 (hp:pH (hO X.prog X.w) X.A X.env X.xe) (h:SX X sc N L k) (f0:kX sc N O x1=e6) (f5:kX sc N R x3=e6) (cz:kX sc N P z=e6)
 (Z:PS X cs (y0 (sA X.K f1)<|qc O)) (h2:PS X ct (y0 (tO X.K f2)<|qc C)) (h3:PS X rL (y0 (tO X.K f3)<|qc R)) (h4:PS X rM (y0 (tV X.K f4)<|qc Y))
 (U:mO X c t) (h0:PV X e0 (zl<|.bl f9)) (hg:PG X (.Tuple [.Name y py,.Name z pz] kx nQ) (nC X.K<|.tp [jy,P])) (h5:ZN X qT G)
 (hs : ∀z,nq (.Name x1 px) X.env z=pure z:=by intro _;rfl)
 (fp:oO (.Name x3 n3) "clear" X.env (hI (.Name x3 n3) X.env)=hI (.Name x3 n3) X.env:=by rfl) (fx:(ap.endLine==cp.line)=e6:=by rfl)
 (fy:nH (.Call (.Attribute (.Name x3 n3) "clear" ap) [] [] cp) f6 ep.line X.env=pure f9:=by rfl)
 (fz:oO (.Name z nz) "clear" X.env (hI (.Name z nz) X.env)=hI (.Name z nz) X.env:=by rfl) (g0:(c3.endLine==c4.line)=e6:=by rfl)
 (g4:nH (.Call (.Attribute (.Name z nz) "clear" c3) [] [] c4) f6 d1.line X.env=pure f9:=by rfl) :
 ZN X (cs::ct::rL::rM :: .If c [.Return (dV e0) p0] [] p1 :: .Expr (.Call (.Attribute (.Name x3 n3) "clear" ap) [] [] cp) ep :: .For (.Tuple [.Name y py,.Name z pz] kx nQ) (.Name x1 px) [.Expr (.Call (.Attribute (.Name z nz) "clear" c3) [] [] c4) d1] [] d2::qT) (Jd O C R Y jy P f1 f2 f3 f4 t G):=by
 intro pins s σ H En I hZ;have g7:=Jv (pos:=d2) hp h.calm (KO<|h.var f0 (pos:=px)) hg (ko<|yx (XZ gQ PySem.F.slot_list_clear PySem.F.type_list_clear w5 (h.var cz (pos:=nz)) fz g0) g4) hs;have g8:=yx (XZ gQ PySem.F.slot_list_clear PySem.F.type_list_clear w5 (h.var f5 (pos:=n3)) fp fx) fy;refine(jd Z<|jd h2<|jd h3<|jd h4<|jd (YR U (ko<|Ju h0) Jr)<|jd g8<|jd g7 h5) pins s σ H En I ?_;obtain⟨E0,E,H0,γ,fl,l,J,d8⟩:=hZ;unfold Jd at J;split at J
 ·next ga=>
  obtain⟨ge,d9,⟨l1,l2,l3⟩,l4,ly,lz⟩:=ga;simp only[gG,eY,not_or,fD,not_false_eq_true,and_true,List.nodup_nil]at d9;obtain⟨⟨gv,h6,h7,kq,ks⟩,⟨kt,kw,l0,l5⟩,⟨h8,l6,l7⟩,⟨l8,l9⟩,la⟩:=d9;obtain⟨ds,e1,J⟩:=zb J;obtain⟨db,e2,J⟩:=zb J;obtain⟨ws,e3,J⟩:=zb J;obtain⟨d,e4,J⟩:=zb J;by_cases c5:nY d=e6
  ·rw[GJ c5]at J
   obtain⟨bb,e5,J⟩:=zb J;refine⟨H0,γ,ds,l.rc,e1,λM a bs H1 dp he g1 g2 g3 pp=>?_⟩;have y1:=he.show g1 g2 g3 l.rc.sub;have dy:=pp.mono<|zC g2<|.lst<|a.map V.ref;have hh:Rep X.K (upd dp M<|.lst<|a.map V.ref) (.lst ds) (.ref M):=xB (i2.of zu) dy.rJ;have c7:=(l.step y1).mR (i:=O) hh;refine⟨_,_,db,c7.rc,e2,λT hj H2 hk x2 k1 k2 k3 k4=>?_⟩;have y2:=x2.show k1 k2 k3 c7.rc.sub;have hr:Rep X.K (upd hk T<|.lst hj) (.lst db) (.ref T):=xB (i2.of zu)<|k4.mono<|zC k2 _;have c8:=(c7.step y2).mR (i:=C) hr;refine⟨_,_,ws,c8.rc,e3,λB b6 H3 c9 ht Q S q3 q4=>?_⟩;have y3:=ht.show Q S q3 c8.rc.sub;have hw:Rep X.K (upd c9 B<|.lst b6) (.lst ws) (.ref B):=xB (i2.of zu)<|q4.mono<|zC S _;have e8:=(c8.step y3).mR (i:=R) hw;refine⟨_,_,d,e8.rc,e4,λv4 H4 ld x4 r4=>?_⟩;have ee:=(e8.step x4).mR (i:=Y) r4;refine⟨_,_,bb,ee.rc,e5,λr j x5=>?_⟩;have b7:=ee.step x5;cases bb with
   | true=>
    dsimp only;rw[GJ rfl]at J ⊢;cases J;exact⟨j,_,_,b7.rc,rfl,λv H6 hy x6 r6=>d8 v H6 hy (b7.ext.trans x6) r6⟩
   | false=>
    dsimp only;rw[GY fm]at J ⊢;let f:=(((σ.set O<|some (V.ref M)).set C (dV (V.ref T))).set R (dV (V.ref B))).set Y (dV v4);have ls:f.length=γ.length:=by simp[f,l.rc.len]
    have s3:f[R]? = dV (dV (.ref B)):=by show((((σ.set O<|some (V.ref M)).set C (dV (V.ref T))).set R (dV (V.ref B))).set Y (dV v4))[R]? = _;rw[eR (fH h8),fj (by simp[l.rc.len];exact l3)]
    have s1:f[O]? = dV (dV (.ref M)):=by show((((σ.set O<|some (V.ref M)).set C (dV (V.ref T))).set R (dV (V.ref B))).set Y (dV v4))[O]? = _;rw[eR (fH h7),eR<|fH h6,eR<|fH gv,fj (by rw[l.rc.len];exact l1)]
    have s4:f[Y]? = dV (dV v4):=fj (by simp[l.rc.len];exact l4);have so : ∀q,q≠O->q≠C->q≠R->q≠Y->f[q]? = σ[q]? :=λq m1 m2 m3 m4=>by show((((σ.set O<|some (V.ref M)).set C (dV (V.ref T))).set R (dV (V.ref B))).set Y (dV v4))[q]? = _;rw[eR (fH m4),eR<|fH m3,eR<|fH m2,eR (fH m1)]
    have b8:i1 (upd c9 B<|.lst b6) j:=x4.s0.trans x5.s0;have be:i1 (upd dp M<|.lst<|a.map V.ref) (upd c9 B<|.lst b6):=y2.s0.trans y3.s0;have ih:PP X.K H j ds a bs:=dy.mono<|be.trans b8;have ch:j B=dV (.lst b6):=b8 _ _ zu;have ii:j M=dV (.lst<|a.map V.ref):=b8 _ _<|be _ _ zu;have as:=b7.rc.sub;have ij : ∀m (x:m<a.length),∃b,bs[m]? = dV b/\W2 X.K H j (ds[m]'(by rw[<- pp.l1];exact x)) a[m] b:=λm x=>by
     have Z:m<ds.length:=by rw[<- pp.l1];exact x
     have h2:m<bs.length:=by rw[pp.l2];exact Z
     exact⟨bs[m],eT h2,ih.at_ m _ _ _ (eT Z) (eT x)<|eT h2⟩
    have ci : ∀b∈bs,H b=f6/\(∃p,j b=dV (.lst p))/\b≠M:=λb hb=>by
     obtain⟨m,x,rfl⟩:=List.mem_iff_getElem.mp hb;have Z:m<ds.length:=by rw[<- pp.l2];exact x
     have h2:m<a.length:=by rw[pp.l1];exact Z
     have w:=pp.at_ m _ _ _ (eT Z) (eT h2)<|eT x;obtain⟨_,_,_,p,_,_,_,q,_⟩:=w.ex;refine⟨w.nb,⟨p,b8 _ _<|be _ _<|zC g2 _ _ _ q⟩,λz=>by rw[z,g2]at q;cases q⟩
    have eg:H2 M=dV (.lst<|a.map V.ref):=y2.s1 _ _ g3;have im:M≠B:=λz=>by rw[z,Q]at eg;cases eg
    have io:i1 H H2:=y1.s1.trans y2.s1;have ir:H B=f6:=yk io Q;have fr : ∀c∈B::bs,H c=f6:=λc U=>by
     rcases eY.mp U with z | z
     ·rw[z];exact ir
     ·exact(ci c z).1
    have ei : ∀c∈B::bs,∃p,j c=dV (.lst p):=λc U=>by
     rcases eY.mp U with z | z
     ·rw[z];exact⟨_,ch⟩
     ·exact(ci c z).2.1
    have is:M∉B::bs:=λU=>by
     rcases eY.mp U with z | z
     ·exact im z
     ·exact(ci M z).2.2 rfl
    have tk : ∀m,∀c∈B::bs.take m,c∈B::bs:=λm c U=>by
     rcases eY.mp U with z | z
     ·rw[z];exact fw
     ·exact ft _<|List.mem_of_mem_take z
    have it : ∀m,∀c∈B::bs.take m,∃p,r c=dV (.lst p):=λm c U=>by obtain⟨p,q⟩:=ei c<|tk m c U;exact⟨p,as _ _ q⟩
    have am : ∀m,wz r (B::bs.take m) M=dV (.lst<|a.map V.ref):=λm=>by rw[qj (λz=>is<|tk m _ z)];exact as _ _ ii
    have c0:upd r B (.lst [])=wz r (B::bs.take 0):=by have:=Qq r [] B;rw[Yc]at this;exact this
    show ∃v,f[R]? = dV (dV v)/\_;refine⟨_,s3,.inl ⟨rfl,_,i2.of<|as _ _ ch⟩,B,b6,rfl,rfl,as _ _ ch,?_⟩;show ∃v,f[O]? = dV (dV v)/\_;rw[c0];refine⟨_,s1,M,rfl,⟨_,i2.of<|am 0⟩,λm n g H'=>n=a.length - m/\m<=a.length/\g.length=γ.length/\(∀q:Nat,q≠jy->q≠P->g[q]? = f[q]?)/\H'=wz r (B::bs.take m),⟨a.length,by simp,gj _,ls,λ_ _ _=>rfl,rfl⟩,?_⟩;rintro m n g H' ⟨rfl,x,cl,cm,rfl⟩;by_cases co:m<a.length
    ·refine .inr ⟨⟨_,.ref a[m],i2.of<|am m,by simp[co]⟩,λg H'=>g.length=γ.length/\(∀q:Nat,q≠jy->q≠P->g[q]? = f[q]?)/\H'=wz r (B::bs.take (m+1)),?_,?_⟩
     ·rintro le lf ⟨w1,w2,rfl⟩
      exact⟨a.length - (m+1),by omega,rfl,by omega,w1,w2,rfl⟩
     ·rintro W H' ⟨rfl,hz⟩
      have ez:=hz _<|i2.of<|am m;have j2:W = .ref a[m]:=by
       have:(a.map V.ref)[m]? = dV (V.ref a[m]):=by simp[co]
       rw[this]at ez;exact(fK ez).symm
      subst j2;obtain⟨b,hb,w⟩:=ij m co;obtain⟨dd,rows,v,p,_,sq,_,j3,_⟩:=w.ex;have bm : ∃xs,wz r (B::bs.take m) b=dV (.lst xs):=by
       by_cases q:b∈B::bs.take m
       ·exact⟨[],Zh q⟩
       ·exact⟨p,by rw[qj q];exact as _ _ j3⟩
      obtain⟨xs,bm⟩:=bm;refine⟨a[m],[v,.ref b],rfl,Kn (it m)<|mE as sq,rfl,yH rfl ?_⟩;show ∃u,((g.set jy<|some v).set P (dV (.ref b)))[P]? = dV (dV u)/\_;refine⟨_,fj (by rw[List.length_set,cl];exact lz),.inl ⟨rfl,_,i2.of bm⟩,b,xs,rfl,rfl,bm,by simp[km,cl],λq m1 m2=>?_,?_⟩
      ·show((g.set jy<|some v).set P (dV (.ref b)))[q]? = _
       rw[eR (fH m2),eR (fH m1)];exact cm q m1 m2
      ·have jk:m<bs.length:=(eU.mp hb).1
       have eb:bs[m]=b:=(eU.mp hb).2;rw[Qq,lF jk,eb];rfl
    ·have em:m=a.length:=by omega
     subst em;have kb:bs.take a.length=bs:=hU (by rw[pp.l2,pp.l1];exact eW _);refine .inl ⟨⟨_,i2.of<|am _,by simp⟩,?_⟩;rw[kb];have sb:i1 (mU j (B::bs)) (wz r (B::bs)):=λc o q=>by obtain⟨Q,S⟩:=Xx q;rw[qj Q];exact as _ _ S
     have sm:i1 H0 (mU j (B::bs)):=λc o q=>by
      have U:c∉B::bs:=λz=>by have Z:=fr c z;rw[l.rc.sub _ _ q]at Z;cases Z
      rw[pd U];exact b8 _ _<|be _ _<|y1.s0 _ _ q
     have hE : ∀c∈B::bs,E c=f6:=λc U=>yk l.ext.s1<|fr c U;have pn:((((((γ.set Y<|.val d).set O .no).set C .no).set R .no).set jy .no).set P .no).all Xr=e6:=yi (yi (yi (yi (yi (yi ge Y rfl) O rfl) C rfl) R rfl) jy rfl) P rfl;have kd:RC X.K (mU j (B::bs)) (wz r (B::bs)) g ((((((γ.set Y<|.val d).set O .no).set C .no).set R .no).set jy .no).set P .no):=RC.pl sb (by simp[cl]) (λq d' e=>by
      rcases zr e with⟨_,W,_⟩ | ⟨m6,e⟩
      ·cases W
      rcases zr e with⟨_,W,_⟩ | ⟨m5,e⟩
      ·cases W
      rcases zr e with⟨_,W,_⟩ | ⟨m3,e⟩
      ·cases W
      rcases zr e with⟨_,W,_⟩ | ⟨m2,e⟩
      ·cases W
      rcases zr e with⟨_,W,_⟩ | ⟨m1,e⟩
      ·cases W
      rcases zr e with⟨rfl,W,_⟩ | ⟨m4,e⟩
      ·cases W
       exact⟨v4,by rw[cm _ m5 m6];exact s4,si ei (r4.mono x5.s0) c5⟩
      ·obtain⟨u,w1,w2⟩:=l.rc.val q d' e
       exact⟨u,by rw[cm _ m5 m6,so q m1 m2 m3 m4];exact w1,w2.mono sm⟩) pn
     refine⟨E0,E,_,_,fl,RS.pl kd ⟨l.ext.s0.trans sm,λc o q=>?_,sb,λc Q S=>?_⟩ pn,J,d8⟩
     ·rw[qj (λz=>by rw[hE c z]at q;cases q)];exact b7.ext.s1 c o q
     ·rw[pd (λz=>S<|hE c z)];exact b7.ext.new c Q S
  ·rw[GY c5]at J;cases J
 ·cases J
theorem Zy{c:hH}{t:CO D}(C:PV X a t){I:CO (Sk×List D)}(J:PQ X c I)(G:oy .NotIn c=f9:=by with_unfolding_all rfl):mO X (.Compare a [.NotIn] [c] pos) (sB<|vT t I):=
 Jp (Jo vk C J G) λP H Q M=>by
  obtain⟨i,h,d,rc,z,q⟩:=M;obtain⟨E,O,R⟩:=zb z;obtain⟨x,m,z⟩:=zb O;obtain⟨⟨f,k⟩,n,z⟩:=zb z;cases x with
  | str w=>
   obtain⟨l,U,rfl⟩:=zm z;cases R;refine⟨i,h,_,rc,m,λW A Y g B=>⟨Y,h,f,k,rc.ext g,n,λp N b j u e F r=>?_⟩⟩;have o:=ki r U;subst o;have s:i2 X.K b p (l.map V.str)\/i3 X.K b p (l.map V.str):=by
    cases f with
    | L=>exact .inl e
    | T=>exact .inr e
   have B:W = .str w:=B;subst B;refine⟨p,_,rfl,s,rfl,y8 l,?_⟩;have:oU (.str w) (l.map V.str)=l.any λy=>y==w:=by unfold oU;rw[List.any_map];rfl
   rw[this];exact⟨_,rfl,q b j<|g.trans u⟩
  | _=>cases z
end
def nX(e:hH):Str:=match e with | .Name x _=>x | _=>""
noncomputable def nP(e:hH):List Str:=match e with | .Tuple a _ _=>a.map nX | e=>[nX e]
noncomputable def oi(N:List Str)(fs:List Nat):List (Str×Nat):=fs.map λi=>(N.getD i "",i)
theorem J2(N:List Str)(fs:List Nat):(oi N fs).map (·.2)=fs:=by unfold oi;rw[List.map_map];exact List.map_id fs
def X6(e:hH):Bool:=match e with | .Name _ _=>e6 | _=>f9
theorem ZG{e:hH}(h:X6 e=e6) : ∃p,e = .Name (nX e) p:=by
 unfold X6 at h;split at h
 ·exact⟨_,rfl⟩
 ·cases h
noncomputable def bA(g:i8)(N L:List Str)(is:List Nat)(t:List hH):Bool:=match is with
 | [i,j]=>(match t with | [a,b]=>X6 a && (xh g N L i (nX a) && (X6 b && xh g N L j (nX b))) | _=>f9)
 | [i,j,l]=>(match t with | [a,b,c]=>X6 a && (xh g N L i (nX a) && (X6 b && (xh g N L j (nX b) && (X6 c && xh g N L l (nX c))))) | _=>f9)
 | _=>f9
noncomputable def pY(g:i8)(N L:List Str)(e:hH)(T:Tg):Bool:=match T with
 | .nm i=>X6 e && xh g N L i (nX e)
 | .tp is=>(match e with | .Tuple a _ _=>bA g N L is a | _=>f9)
theorem Ys{X:Cx}{g:i8}{N L:List Str}{k:Nat}(h:SX X g N L k){e:hH}{T:Tg}(c:pY g N L e T=e6):PG X e (nC X.K T):=by
 cases T with
 | nm i=>
  have c:=Bool.and_eq_true_iff.mp c;obtain⟨p,q⟩:=ZG c.1;rw[q];exact h.nI _ c.2
 | tp is=>
  unfold pY at c;dsimp only at c;split at c
  ·next b j pos=>
   unfold bA at c;split at c
   ·split at c
    ·simp only[fe]at c
     obtain⟨d,z,B,I⟩:=c;obtain⟨p,q⟩:=ZG d;obtain⟨a,J⟩:=ZG B;rw[q,J];exact h.pZ<|jK (h.nI _ z)<|jK (h.nI _ I) yA
    ·cases c
   ·split at c
    ·simp only[fe]at c
     obtain⟨d,z,B,I,M,O⟩:=c;obtain⟨p,q⟩:=ZG d;obtain⟨a,J⟩:=ZG B;obtain⟨f,R⟩:=ZG M;rw[q,J,R];exact h.pZ<|jK (h.nI _ z)<|jK (h.nI _ I)<|jK (h.nI _ O) yA
    ·cases c
   ·cases c
  ·cases c
noncomputable def cB(t scope:i8)(N:List Str)(g:hH)(T:Tg)(n:Nat)(fs:List Nat):Bool:=
 wy t scope N (oi N fs) && (WQ (nP g) scope (oi N fs) && (decide (∀i∈T.idx,i<(nP g).length) && (decide ((nP g).length=n) && pY (qg scope t) (nP g++(oi N fs).map (·.1)) (nP g) g T)))
abbrev pI(X:Cx)(scope:i8)(N:List Str)(tg:hH)(fs:List Nat):=zO X scope (nP tg++(oi N fs).map (·.1))
abbrev SA(X:Cx)(sc scope:i8)(N:List Str)(tg:hH)(fs:List Nat)(k:Nat)(fp:List g6)(s2:hL)(H2:Hp):Prop:=SX (pI X scope N tg fs fp s2 H2) (qg scope sc) (nP tg++(oi N fs).map (·.1)) (nP tg) k
section
variable{X:Cx}{sc scope:i8}{N L:List Str}{k n i:Nat}{fs:List Nat}{T:Tg}{e elt tg iter tI:hH}{es:List hH}{pos p py spos cpos:i7}{x y:Str}{f g:CO D}{fo:CO (List D)}{src gl:CO (List D)}{kk:CO Bool}
theorem cA(h:SX X sc N L k)(c:cB sc scope N tg T n fs=e6):nJ X scope (oi N fs)/\(∀i∈T.idx,i<(nP tg).length)/\(nP tg).length=n/\(∀fp C t,SA X sc scope N tg fs k fp C t)/\∀fp C t,PG (pI X scope N tg fs fp C t) tg (nC X.K T):=by unfold cB at c;simp only[fe,decide_eq_true_eq]at c;obtain⟨d,z,B,I,J⟩:=c;have s : ∀fp C t,SA X sc scope N tg fs k fp C t:=λfp C t=>h.comp z;exact⟨h.sO d,B,I,s,λfp C t=>Ys (s fp C t) J⟩
theorem xn(h:SX X sc N L k)(G:ov X tg iter src)(z : ∀fp C t,SA X sc scope N tg fs k fp C t->PV (pI X scope N tg fs fp C t) elt f)(c:cB sc scope N tg T n fs=e6:=by decide +kernel)(B : ∀x,nq iter X.env x=pure x:=by intro _;rfl) :
 PO X (.ListComp elt [⟨tg,iter,[],0⟩] scope pos) (jt src T n fs qa f):=by
 obtain⟨a,b,d,s,q⟩:=cA h c;have r:=KL (pos:=pos) h.calm a b G q (λfp C t=>z fp C t<|s fp C t) B;rw[d,J2]at r;exact r
theorem YS(h:SX X sc N L k)(G:ov X tg iter src)(z : ∀fp C t,SA X sc scope N tg fs k fp C t->PV (pI X scope N tg fs fp C t) elt f)(ct:xh sc N L i y=e6:=by decide +kernel)(c:cB sc scope N tg T n fs=e6:=by decide +kernel)(B : ∀x,nq iter X.env x=pure x:=by intro _;rfl) :
 PS X (.Assign [.Name y py] (.ListComp elt [⟨tg,iter,[],0⟩] scope cpos) spos) (y0 (tO X.K<|jt src T n fs qa f)<|qc i):=by
 obtain⟨a,b,d,s,q⟩:=cA h c;have r:=ti (cpos:=cpos) (spos:=spos) (py:=py) i h ct h.calm a b G q (λfp C t=>z fp C t<|s fp C t) B;rw[d,J2]at r;exact r
theorem zq(h:SX X sc N L k)(c:kX sc N i x=e6:=by decide +kernel):PV X (.Name x pos) (zh i):=YJ i<|h.var c
theorem zS(h:SX X sc N L k)(c:kX sc N i x=e6:=by decide +kernel):PQ X (.Name x pos) (zk i):=YT i<|h.var c
theorem qv(h:SX X sc N L k)(d:PV X e f)(c:xh sc N L i x=e6:=by decide +kernel)(z:nH e (dV (.Name x py)) pos.line X.env=pure f9:=by rfl):mP X (.Assign [.Name x py] e pos) (qK i f):=Js i<|h.set i c d z
theorem Jt(h:SX X sc N L k)(d:PO X e fo)(c:xh sc N L i x=e6:=by decide +kernel)(z:nH e (dV (.Name x py)) pos.line X.env=pure f9:=by rfl):mP X (.Assign [.Name x py] e pos) (k6 i fo):=Xa i<|h.set i c d z
theorem vi{t:List jz}{F:CO Fl}(d:X.xe=λ_ _=>False)(h:SX X sc N L k)(C:mY X tg iter src)(z:ZN X t F)(c:pY sc N L tg T=e6:=by decide +kernel)(B : ∀x,nq iter X.env x=pure x:=by intro _;rfl):mP X (.For tg iter t [] pos) (wN src T F):=KH (JH d) h.calm C (Ys h c) z B
variable{j:Nat}{F:List D->Option Res}
theorem zH(d:mj X.prog X.w X.K X.mg X.base j x n F)(h:SX X sc N L k)(t:ou X (e::es) n gl)(z:j<=k:=by decide)(c:xp sc x=e6:=by decide +kernel)
 (B:i6 (e::es) X.env=(f9,hI e X.env)::i6 es X.env:=by rfl) (I:(mT pos<|starEach es X.env).any (·.1)=f9:=by rfl):PV X (.Call (.Name x p) (e::es) [] pos) (zv F gl):=W7 d z h c t B I
end
noncomputable def j4:=jo 1<|zJ (mh (xc (zW<|sB<|Jf<|zh 0)<|zW<|sB<|ye oh oh (zl<|.int 1) (xZ<|zk 0)<|zl<|.int 6) (jU<|zl<|.bl f9) jw)<|zJ (mh (zW<|sB<|Yo<|jS<|jt (jv<|zk 0) (.nm 0) 1 [] qa (vV (zv zZ<|zc (zh 0) zF)<|zo pa (zh 0)<|zl<|.int 0)) (jU<|zl<|.bl f9) jw)<|jU<|zo oh (bB<|zk 0)<|zl<|.int 30
noncomputable def qm:=jo 1<|zJ (mh (zW<|sB<|zv j4<|zc (zh 0) zF) xO jw)<|jU<|jc<|zk 0
noncomputable def qf:=jo 6 (zJ (mh (xc (zW (sB (zv zR (zc (zh 3) (zc (zl (.int 2)) zF))))) (sB (vT (hF (zk 3) (zl (.int 0))) (zN (zl (.tup [.str "r",.str "l"])))))) xO jw) (zJ (qK 4 (hF (zk 3) (zl (.int 0)))) (zJ (qK 5 (zv qO (zc (zh 0) (zc (hF (zk 1) (zv kg (zc (zh 2) (zc (zh 4) zF)))) (zc (hF (zk 1) (zv jE (zc (zh 2) (zc (zh 4) zF)))) (zc (hF (zk 3) (zl (.int 1))) zF)))))) (jU (yt (zc (zh 4) (zc (zh 5) zF)))))))
noncomputable def qP:=jo 5<|zJ (mh (zW<|sB<|zv qQ<|zc (zh 0) zF) xO jw)<|zJ (qK 3<|zv qm<|zc (zh 1) zF)<|zJ (mh (zW<|sB<|zv zR<|zc (zh 2)<|zc (zo K7 (xZ<|zk 3)<|zl<|.int 1) zF) xO jw)<|zJ (qK 4<|vN<|jt (XO<|zh 2) (.tp [0,1]) 2 [0,3] qa (zv qf<|zc (zh 2)<|zc (zh 3)<|zc (zh 0)<|zc (zh 1) zF))<|jU<|yt<|zc (zh 0)<|zc (zh 3)<|zc (jc<|zk 4) zF
noncomputable def rq:=(zJ (QR (.tp [4,5])<|hF (zN<|hF (zk 1)<|zl<|.int 2)<|zh 3)<|zJ (qK 6<|zo K7 (zo qW (zv zw<|zc (zh 0)<|zc (zo qE (zl<|.int 120)<|zh 3) zF)<|zl<|.int 2001)<|zl<|.int 1000)<|jq 2<|yt<|zc (zh 4)<|zc (vN<|jt (jv<|zN<|hF (zk 5)<|zl<|.int 2) (.nm 0) 1 [1,6] qa (vN<|jt (jv<|zk 0) (.nm 0) 1 [1,2] qa (zo qE (zh 0)<|zo xX (hF (zk 1)<|zl<|.int 0)<|zh 2))) zF)
noncomputable def jl:=jo 7<|zJ (k6 2<|qZ zF)<|zJ (wN (jg<|xZ<|zN<|hF (zk 1)<|zl<|.int 2) (.nm 3) rq)<|Je 2
def qo:=jo 2<|jU<|vV (mw .bool<|zh 0)<|zo lZ (zh 0)<|zh 1
noncomputable def Kh:=(qK 1<|hF (jS<|qZ<|zc (zl<|.int 2)<|zc (zl<|.int 3)<|zc (zl<|.int 5)<|zc (zl<|.int 7) zF)<|zo qW (zv zw<|zc (zh 0)<|zc (zl<|.int 0) zF)<|zl<|.int 4)
noncomputable def Kg:=(qK 2<|zv qd<|zc (zv zw<|zc (zh 0)<|zc (zl<|.int 1) zF) zF)
noncomputable def Kf:=(qK 3<|zv qe<|zc (zh 0)<|zc (zl<|.int 2)<|zc (zh 1)<|zc (zh 2)<|zc (zl<|.int 5) zF)
noncomputable def ZU:CO (List D):=jt (jv<|zk 4) (.tp [0,1]) 2 [] qa (yt<|zc (zh 0)<|zc (vN<|jt (jv<|zk 1) (.nm 0) 1 [] qa (vN<|qY<|zk 0)) zF)
noncomputable def QI:CO Bool:=xc (sB<|zo mm (zh 4)<|zh 5)<|sB<|zo mm (zh 6)<|vN<|qY<|zN<|hF (zk 3)<|zl<|.int 1
noncomputable def QU:=(mh (xc (zW<|sB<|zv j0<|zc (zh 7)<|zc (zh 3) zF)<|xc (sB<|zo mm (zv jR<|zc (zh 7) zF)<|zh 2)<|zW<|sB<|mw .str<|zv jR<|zc (zh 7) zF) (jU<|zl<|.bl f9) jw)
noncomputable def KA:=(qK 10<|zv qd<|zc (zv zw<|zc (zh 0)<|zc (zl<|.int 59) zF) zF)
noncomputable def Ji:=(mh (sB<|zo lZ (zo qW (zo Zf (zv zw<|zc (zh 0)<|zc (zl<|.int 59) zF)<|zl<|.int 200)<|zl<|.int 2)<|zl<|.int 1) (qK 10<|zh 2) jw)
noncomputable def Kz:=(qK 11<|zv qe<|zc (zh 0)<|zc (zl<|.int 60)<|zc (hF (jS<|qZ<|zc (zl<|.int 2)<|zc (zl<|.int 3)<|zc (zl<|.int 5)<|zc (zl<|.int 7) zF)<|zo qW (zv zw<|zc (zh 0)<|zc (zl<|.int 58) zF)<|zl<|.int 4)<|zc (zh 10)<|zc (zl<|.int 3) zF)
noncomputable def Ky:=(qK 12<|zv qe<|zc (zh 0)<|zc (zl<|.int 60)<|zc (zh 1)<|zc (zh 2)<|zc (zl<|.int 4) zF)
noncomputable def Kx:=(qK 13 (vV (zo lZ (zh 1) (hF (zk 11) (zl (.int 0)))) (zo lZ (zh 2) (vU (zl (.str "")) (jS (jt (jv (zN (hF (zk 11) (zl (.int 2))))) (.tp [0,1]) 2 [] qa (zh 0)))))))
noncomputable def Kw:=(jU<|vV (zv qo<|zc (zv jB<|zc (zh 3)<|zc (zh 11) zF)<|zc (zh 13) zF)<|zv qo<|zc (zv jB<|zc (zh 3)<|zc (zh 12) zF)<|zc (zl<|.bl e6) zF)
noncomputable def kT:=jo 14<|zJ Kh<|zJ Kg<|zJ Kf<|Jd 4 5 6 7 8 9 (wO jl<|zc (zh 0)<|zc (zh 3) zF) ZU (qY<|zN<|hF (zk 3)<|zl<|.int 1) (zv qP<|zc (zh 1)<|zc (zh 6)<|zc (zh 4) zF) QI<|zJ QU<|zJ KA<|zJ Ji<|zJ Kz<|zJ Ky<|zJ Kx Kw
abbrev r9(k:Sk)(xs:List D):D:=match k with | .T=>D.tup xs | .L=>D.lst xs
@[simp] theorem cc(k xs):ju (r9 k xs)=dV (k,xs):=by cases k<;>rfl
theorem ZP(k:Sk)(f:Nat->Int)(d:0<p)(g:n<=lim) :
 xM [.int p,r9 k (ji n f)]=dV (.val<|.tup<|ji n λi=>f i%p):=by
 simp[xM,jo,zY,jH,g,kG];unfold ji;rw[zy (r:=λi=>D.int<|f i%p)]
 ·simp
 ·intro i a
  refine zA rfl rfl ?_;simp[d]
theorem QC(f:Nat->Int)(d:0<p)(g:n<=lim) :
 xM [.int p,.lst (ji n f)]=dV (.val<|.tup<|ji n λi=>f i%p):=ZP .L f d g
def xJ(ns:List Int):D:= .lst (ns.map D.int)
mutual
theorem rk : ∀d:D,mq d d=e6
 | .i4=>rfl
 | .bl b=>by simp[mq]
 | .int i=>by simp[mq]
 | .str x=>by simp[mq]
 | .tup e=>by simp only[mq];exact oQ e
 | .lst e=>by simp only[mq];exact oQ e
 | .mn a b=>by simp only[mq];rw[oQ a,oQ b];rfl
 | .md a b=>by simp only[mq];rw[oQ b];simp
theorem oQ : ∀g:List D,nk g g=e6
 | []=>rfl
 | d::g=>by simp only[nk,rk d,oQ g,Bool.and_self]
end
theorem kc : ∀{l:List D} {n:Nat},(∀d∈l,deep d<=n)->nj l<=n
 | [],n,_=>gj n
 | d::ds,n,h=>by simp only[nj];exact Nat.max_le.mpr ⟨h d fw,kc λe z=>h e<|ft _ z⟩
theorem yI(n f):deep (.tup<|ji n f)<=1:=by
 simp only[deep];have:nj (ji n f)<=0:=kc λd a=>by simp[ji]at a;obtain⟨i,_,rfl⟩:=a;exact eW _
 omega
theorem yD : ∀{l:List D},(∀d∈l,mu d=e6)->m9 l=e6
 | [],_=>rfl
 | d::ds,h=>by simp only[m9,h d fw,yD λe z=>h e<|ft _ z,Bool.and_self]
theorem wY(h:deep d<=n)(t:n<=20)(g:mu d=e6):mv d=e6:=by unfold mv;rw[g,Bool.and_true];exact decide_eq_true<|fU h t
theorem wg(n f):mu (.tup<|ji n f)=e6:=by
 simp only[mu];exact yD λd a=>by simp[ji]at a;obtain⟨i,_,rfl⟩:=a;rfl
theorem KW(n f):mv (.tup<|ji n f)=e6:=wY (yI n f) ⋯<|wg n f
theorem Xy(h:mv d=e6):lZ d d=dV (.bl e6):=by unfold lZ;rw[GJ ⟨h,h⟩,rk]
theorem xq{d:D}(h:mv d=e6):mm d d=dV (.bl f9):=by unfold mm;rw[GJ ⟨h,h⟩,rk];rfl
theorem Xo(xs:List D)(n:Nat)(d:xs.length=n)(a0 : ∀i (h:i<n),∃z,xs[i]'(d ▸ h) = .int z)(Z:n<=63)(k:Int)(C:0<=k)(b8:k<100000) :
 ∃m,zw [.lst xs,.int k]=dV (.val<|.int m)/\0<=m/\m<1000000007:=by
 have I:vQ k k=e6:=Zk k k ⋯ ⋯;have J:vQ (k*k) 7919=e6:=Zj _ _ ⋯ ⋯;have M : ∀z,vQ z 48271=e6:=λz=>Zj _ _ ⋯ ⋯;have O : ∀z,vQ z 69621=e6:=λz=>Zj _ _ ⋯ ⋯;have B:VE 10 9=e6:=by decide
 have b:VE 10 30=e6:=by decide
 by_cases l:n=0
 ·subst l
  simp[zw,jo,zY,z7,I,J,M,O,d];omega
 ·have N:(0:Int)<n:=by omega
  have R:0<n:=by omega
  obtain⟨i,a⟩:=gf (gX k<|show(n:Int)≠0 by omega);have e:i<n:=by have:=gD k N;omega
  obtain⟨A,g⟩:=a0 i e;have w : ¬((n:Int)=0):=by omega
  by_cases H:n=1
  ·subst H
   have U:i=0:=by clear a;omega
   subst U;clear a;simp[zw,jo,zY,z7,I,J,M,O,B,b,d,g];omega
  ·obtain⟨T,r⟩:=a0 0 R
   have U:mC n 0=dV 0:=by have:=j7 n 0;rw[GJ R]at this;exact this
   have o:(0:Int)<(n:Int) - 1:=by omega
   have x:(1:Int)<(n:Int):=by omega
   have p:1<n:=by omega
   have y:(n:Int) - 1<1073741824:=by omega
   obtain⟨j,L⟩:=gf (gX k<|show(n:Int) - 1≠0 by omega);have f:1+j<n:=by have:=gD k o;omega
   obtain⟨X,G⟩:=a0 (1+j) f;have S:mC n (1+(j:Int))=dV (1+j):=by have:=j7 n<|1+j;rw[GJ f]at this;rw[<- this];congr 1
   have K:0<=k/((n:Int) - 1)/\k/((n:Int) - 1)<=k:=⟨Int.ediv_nonneg C ⋯,Int.ediv_le_self _ C⟩;obtain⟨t,P⟩:=gf K.1;have E:inR (t:Int)=e6:=JY ⋯ ⋯;by_cases u:T%2=1
   ·simp[zw,jo,zY,z7,I,J,M,O,w,x,R,a,e,d,g,r,U,o,p,y,u,L,f,S,G,P,E,B,b,l,jV]
    rw[zU t λi=>(i:Int)];have F : ∀(m s:Nat) (v:Int) (c:Cell),∃W Y,qC (.nm 4) (qK 3<|zo Zf (zh 3)<|zo K8 (zl<|D.int 10)<|zl<|D.int 9) ((List.range' s m).map λ(i:Nat)=>D.int i) [.val (.lst xs),.val<|.int k,.val<|.int A,.val<|.int v,c] =
     dV (.next [.val (.lst xs),.val<|.int k,.val<|.int A,.val<|.int W,Y]):=by
     intro m
     induction m with
     | zero=>intro s v c;exact⟨v,c,rfl⟩
     | succ m Q=>
      intro s v c;rw[List.range'_succ,fO,xI];obtain⟨W,Y,h⟩:=Q (s+1) (v/10 ^ 9)<|.val<|.int s;refine⟨W,Y,?_⟩;rw[<- h];simp[B]
    obtain⟨W,Y,h⟩:=F t 0 X .no;rw[<- List.range_eq_range']at h;rw[h];simp[B];omega
   ·simp[zw,jo,zY,z7,I,J,M,O,w,x,R,a,e,d,g,r,U,o,p,y,u,B,b,l]
    omega
theorem Vi(ns:List Int)(g:ns.length<=63)(k:Int)(d:0<=k)(z:k<100000) : ∃m,zw [xJ ns,.int k]=dV (.val<|.int m)/\0<=m/\m<1000000007:=
 Xo (ns.map D.int) ns.length ⋯ (λi a=>⟨ns[i],by simp⟩) g k d z
noncomputable def vP(ns:List Int)(k:Int):Int:=match zw [xJ ns,.int k]with
 | some (.val<|.int m)=>m
 | _=>0
theorem kI{ns:List Int}(g:ns.length<=63){k:Int}(d:0<=k)(z:k<100000):zw [xJ ns,.int k]=dV (.val<|.int<|vP ns k)/\0<=vP ns k/\vP ns k<1000000007:=by
 obtain⟨m,h,a,b⟩:=Vi ns g k d z;have e:vP ns k=m:=by unfold vP;rw[h]
 rw[e];exact⟨h,a,b⟩
theorem q9(i:Int):zQ [.int i]=dV (.val<|.bl e6):=by simp[zQ,jo,zY,yG]
theorem qy{g:Type}(l:List g):Zv (l.map λ_=>D.bl e6)=dV (l.map λ_=>e6):=by
 induction l with
 | nil=>rfl
 | cons a l d=>simp[Zv,WH,d]
theorem yQ{g:Type}(l:List g):((l.map λ_=>e6).all id)=e6:=by
 induction l with
 | nil=>rfl
 | cons a l d=>simp[d]
theorem qX{n:Nat}(f:Nat->Int)(g:n<=lim):jD [.tup (ji n f),.tup (ji n f)]=dV (.val<|.bl e6):=by
 have e:=Xy<|KW n f;simp[jD,jo,zY,z7,yG,g,jH,eS];rw[show zV (.nm 0) qa (zv zQ<|zc (zh 0) zF) [Cell.no] (ji n f)=dV ((eZ n).map λ_=>D.bl e6)from by
  rw[zU];refine zy _ _ λi a=>zA rfl rfl ?_;simp[q9]]
 simp[qy,e]
theorem dS(a b c:D):Yb [a,b,c] f6 (dV 2)=[a,b]:=by simp[Yb,J8]
theorem yS{h w:Nat}(f:Nat->Nat->Int)(B:h<=lim)(g:w<=lim):jb [vz h w f,vz h w f]=dV (.val<|.bl e6):=by
 have e:=xq (d:= .tup [.int h,.int w]) rfl;simp[jb,jo,zY,z7,yG,vz,q9,dS,e,B,jV,jH,eS,kG];rw[zU h λi=>(i:Int)];rw[zy (r:=λ_=>D.bl e6)]
 ·simp[qy]
 ·intro i a
  have z:=gB.mp a;refine zA rfl rfl ?_;simp[z,Xw f z,qX _ g]
noncomputable def yU(ns:List Int)(p:Int)(k:Int):Int:=vP ns k%p*(if decide (0<vP ns k/7%3)=e6 then 1 else 0)
theorem Kj(d:0<p):0<=yU ns p k/\yU ns p k<p:=by unfold yU;have a:=gX (vP ns k) (show p≠0 by omega);have b:=gD (vP ns k) d;split<;>simp<;>omega
theorem ya{ns:List Int}(L:ns.length<=63){p:Int}(R:0<p){a h w:Nat}(Z:a<=1000)(hh:h<=100)(P:w<=100) :
 jC [xJ ns,.int a,.int p,.int h,.int w]=dV (.val<|vz h w λi j=>yU ns p<|a+i*w+j):=by
 have U:h<=lim:=by have:=js;omega
 have W:w<=lim:=by have:=js;omega
 have Y : ∀(i:Nat) (e:List D) (z B:Cell),i<h->∃f,qC (.nm 8) (zJ (qK 9<|zv zw<|zc (zh 0)<|zc (zo qE (zo qE (zh 1)<|zo xX (zh 6)<|zh 4)<|zh 8) zF)<|jq 7<|zo xX (zo qW (zh 9)<|zh 2)<|Jg<|zo nT (zo qW (zo Zf (zh 9)<|zl<|.int 7)<|zl<|.int 3)<|zl<|.int 0)
  ((eZ w).map λ(j:Nat)=>D.int j) [.val (xJ ns),.val<|.int a,.val<|.int p,.val<|.int h,.val<|.int w,.own e,.val<|.int i,.own [],z,B]=dV (.next f)/\
  ∃z B,f=[.val (xJ ns),.val<|.int a,.val<|.int p,.val<|.int h,.val<|.int w,.own e,.val<|.int i,.own<|ji w λj=>yU ns p<|a+i*w+j,z,B]:=by
  intro i e z B n;have I:=qB (T:= .nm 8) (F:=(zJ (qK 9<|zv zw<|zc (zh 0)<|zc (zo qE (zo qE (zh 1)<|zo xX (zh 6)<|zh 4)<|zh 8) zF)<|jq 7<|zo xX (zo qW (zh 9)<|zh 2)<|Jg<|zo nT (zo qW (zo Zf (zh 9)<|zl<|.int 7)<|zl<|.int 3)<|zl<|.int 0))
   (λj l=>∃z B,l=[.val (xJ ns),.val<|.int a,.val<|.int p,.val<|.int h,.val<|.int w,.own e,.val<|.int i,.own<|ji j λj=>yU ns p<|a+i*w+j,z,B])
   ((eZ w).map λ(j:Nat)=>D.int j) 0 [.val (xJ ns),.val<|.int a,.val<|.int p,.val<|.int h,.val<|.int w,.own e,.val<|.int i,.own [],z,B] ⟨z,B,rfl⟩ ?_
  ·simpa using I
  ·rintro j d l g ⟨z,B,rfl⟩
   have H:j<w:=by have:=(eU.mp g).1;simpa using this
   have J:d = .int j:=by simp[H]at g;exact g.symm
   subst J;have o:i*w<=100*100:=Nat.mul_le_mul ⋯ P;have Q:(0:Int)<=(i:Int)*(w:Int):=by exact_mod_cast gj _
   have g1:(i:Int)*(w:Int)<=100*100:=by exact_mod_cast o
   obtain⟨em,K,N⟩:=kI L (k:=((a:Int)+(i:Int)*(w:Int)+(j:Int))) ⋯ ⋯;have E:vQ (i:Int) (w:Int)=e6:=Zk _ _ ⋯ ⋯;have G : ∀(x y:Int),vQ x (if 0<y then 1 else 0)=e6:=λx b=>Zj _ _ (by split<;>omega) (by split<;>omega);have r:j<lim:=by have:=js;omega
   refine⟨_,.inl ?_,.val<|.int j,.val<|.int<|vP ns<|(a:Int)+(i:Int)*(w:Int)+(j:Int),rfl⟩;have s:ji (0+j+1) (λj=>yU ns p<|a+i*w+j)=ji j (λj=>yU ns p<|a+i*w+j)++[.int (yU ns p<|a+i*w+j)]:=by simp[ji,iq]
   rw[s];simp[z7,E,em,R,G,r,yU]
 have I:=qB (T:= .nm 6) (F:=zJ (k6 7<|qZ zF)<|zJ (wN (jg<|zh 4) (.nm 8)<|zJ (qK 9<|zv zw<|zc (zh 0)<|zc (zo qE (zo qE (zh 1)<|zo xX (zh 6)<|zh 4)<|zh 8) zF)<|jq 7<|zo xX (zo qW (zh 9)<|zh 2)<|Jg<|zo nT (zo qW (zo Zf (zh 9)<|zl<|.int 7)<|zl<|.int 3)<|zl<|.int 0)<|jq 5<|jc<|zk 7)
  (λi l=>∃M O z B,l=[.val (xJ ns),.val<|.int a,.val<|.int p,.val<|.int h,.val<|.int w,.own<|kU i w λi j=>yU ns p<|a+i*w+j,M,O,z,B])
  ((eZ h).map λ(j:Nat)=>D.int j) 0 [.val (xJ ns),.val<|.int a,.val<|.int p,.val<|.int h,.val<|.int w,.own [],.no,.no,.no,.no] ⟨_,_,_,_,rfl⟩ (by
    rintro i d l g ⟨M,O,z,B,rfl⟩;have n:i<h:=by have:=(eU.mp g).1;simpa using this
    have J:d = .int i:=by simp[n]at g;exact g.symm
    subst J;obtain⟨f,m,t,u,rfl⟩:=Y i (kU (0+i) w λi j=>yU ns p<|a+i*w+j) z B n;have A:i<lim:=by have:=js;omega
    refine⟨_,.inl ?_,.val<|.int i,.own<|ji w λj=>yU ns p<|a+i*w+j,t,u,rfl⟩;have C:kU (0+i+1) w (λi j=>yU ns p<|a+i*w+j)=kU (0+i) w (λi j=>yU ns p<|a+i*w+j)++[.tup (ji w λj=>yU ns p<|a+i*w+j)]:=by simp[kU,iq]
    rw[C];simp only[Zl,eV,lu,lr];rw[z7];simp[z7,W,jV];rw[zU w λi=>(i:Int)];rw[show(0+i)=i from by omega]at m;rw[m];simp[A])
 obtain⟨f,m,M,O,z,B,rfl⟩:=I;simp[jC,jo,zY,z7,U,jV];rw[zU h λi=>(i:Int),m];simp[vz]
theorem kr{m:Int}(B:0<=m) : ∃p,([D.int 2,.int 3,.int 5,.int 7])[(m%4).toNat]? = dV (.int p)/\mC 4 (m%4)=dV (m%4).toNat/\(p=2\/p=3\/p=5\/p=7):=by
 have a:=gX m (show(4:Int)≠0 by omega);have b:=gD m (show(0:Int)<4 by omega);obtain⟨k,z⟩:=gf a;rw[z];have d:k<4:=by omega
 have e:mC 4 (k:Int)=dV k:=by rw[j7,GJ d]
 rw[e]
 match k,d with
 | 0,_=>exact⟨2,rfl,rfl,by simp⟩
 | 1,_=>exact⟨3,rfl,rfl,by simp⟩
 | 2,_=>exact⟨5,rfl,rfl,by simp⟩
 | 3,_=>exact⟨7,rfl,rfl,by simp⟩
theorem ZH(k:Int)(d:0<k) : ∃n:Nat,m%k=n/\(n:Int)<k:=by have a:=gX m (show k≠0 by omega);have e:=gD m d;obtain⟨n,b⟩:=gf a;exact⟨n,b,by omega⟩
def i9(b:Bool):Nat:=if b then 108 else 114
def j6(c:Nat):Str:=⟨#[c]⟩
theorem yl : ∀(l:List Nat),(lP "" (l.map j6)).cps.toList=l
 | []=>rfl
 | [c]=>rfl
 | c::d::l=>by
  have z:=yl (d::l);show((j6 c++("" : Str))++lP "" ((d::l).map j6)).cps.toList=_;have e : ∀a b:Str,(a++b).cps.toList=a.cps.toList++b.cps.toList:=λa b=>by show(a.cps++b.cps).toList=_;simp
  rw[e,e,z];rfl
noncomputable def qw(m:Nat)(w:GK):Str:=lP "" ((eZ m).map λk=>j6 (i9 (w k)))
theorem qb(m w):(qw m w).cps.toList=(eZ m).map λk=>i9 (w k):=by have:=yl<|(eZ m).map λk=>i9<|w k;rw[List.map_map]at this;exact this
theorem yn(m w):(qw m w).length=m:=by show(qw m w).cps.size=m;rw[<- il,qb];simp
theorem xy{m:Nat}(w)(g:m<=1000):zT (qw m w)=e6:=decide_eq_true (by rw[yn];exact g)
theorem xY{t:Type}(g:t->Str) : ∀l:List t,k5 (l.map λx=>D.str<|g x)=dV (l.map g)
 | []=>rfl
 | a::l=>by simp[k5,xY g l]
theorem xw{cell:Int}(W:0<=cell) : ∃m w,m<=5/\qd [.int cell]=dV (.val<|.str<|qw m w):=by
 obtain⟨m,J,h⟩ : ∃n:Nat,cell%6=n/\(n:Int)<6:=by have e:=gX cell (show(6:Int)≠0 by omega);have g:=gD cell (show(0:Int)<6 by omega);obtain⟨n,f⟩:=gf e;exact⟨n,f,by omega⟩
 have Y:=js;have B:m<=lim:=by omega
 let d:Nat->Int:=λk=>[6,12,24,48,96].getD k 6;have M:zV (.nm 0) qa (qS (zl (.str "rl")) (zo qW (zo Zf (zh 1) (hF (jS (qZ (zc (zl (.int 6)) (zc (zl (.int 12)) (zc (zl (.int 24)) (zc (zl (.int 48)) (zc (zl (.int 96)) zF))))))) (zh 0))) (zl (.int 2)))) [Cell.no,Cell.val (.int cell)] ((eZ m).map λ(i:Nat)=>D.int i)=dV ((eZ m).map λk=>D.str (j6 (i9 (decide (cell/d k%2=1))))):=by
  refine zy _ _ λk I=>zA rfl rfl ?_;have I:=gB.mp I;have z:k<5:=by omega
  have a:([D.int 6,.int 12,.int 24,.int 48,.int 96])[k]? = dV (.int<|d k):=by
   match k,z with
   | 0,_=>rfl
   | 1,_=>rfl
   | 2,_=>rfl
   | 3,_=>rfl
   | 4,_=>rfl
  have O:0<d k/\d k<1073741824:=by
   match k,z with
   | 0,_=>exact⟨by decide,by decide⟩
   | 1,_=>exact⟨by decide,by decide⟩
   | 2,_=>exact⟨by decide,by decide⟩
   | 3,_=>exact⟨by decide,by decide⟩
   | 4,_=>exact⟨by decide,by decide⟩
  have R:zo qW (zo Zf (zh 1)<|hF (jS<|qZ<|zc (zl<|.int 6)<|zc (zl<|.int 12)<|zc (zl<|.int 24)<|zc (zl<|.int 48)<|zc (zl<|.int 96) zF)<|zh 0) (zl<|.int 2) [Cell.val (.int k),Cell.val (.int cell)]=dV (.int<|cell/d k%2):=by
   have b:mC 5 (k:Int)=dV k:=by rw[j7,GJ z]
   simp only[Zp,Zm,VO,yO,Yk,Ym,VM,Zn,List.getElem?_cons_succ,List.getElem?_cons_zero,kQ,eV,gu,kR,gN,List.length_nil];rw[GJ ⋯];simp only[eV,gu];rw[show([D.int 6,D.int 12,D.int 24,D.int 48,D.int 96]:List D).length=5 from rfl,b];simp only[eV];rw[a];simp[O]
  have q:cell/d k%2=0\/cell/d k%2=1:=by omega
  show qS _ _ [Cell.val (.int k),Cell.val (.int cell)]=_;rw[ql,R];rcases q with q | q
  ·rw[q];rfl
  ·rw[q];rfl
 refine⟨m,λk=>decide<|cell/d k%2=1,by omega,?_⟩;have all1:((eZ m).map λk=>j6<|i9<|decide<|cell/d k%2=1).all zT=e6:=by
  rw[List.all_map];exact fJ.mpr λk _=>by show zT (j6 _)=e6;rfl
 have U:zT ("" : Str)=e6:=rfl;simp[qd,jo,zY,z7,J,B,jV,jH,kG,eS];rw[zU m λi=>(i:Int),M];simp only[gu,eV,Function.comp];rw[xY];simp only[eV];rw[GJ ⟨by simpa using B,fJ.mp all1,U⟩];rfl
noncomputable def lX(w:GK)(wd:GX)(k:Nat):Nat:=if w k then wd k else wd (k+1)
noncomputable def lW(w:GK)(wd:GX)(k:Nat):Nat:=if w k then wd (k+1)else wd k
noncomputable def yM(w:GK)(wd:GX)(T:GV)(k:Nat):D:= .tup [.str (j6<|i9<|w k),vz (lX w wd k) (lW w wd k) (T k)]
noncomputable def jG(m:Nat)(w:GK)(wd:GX)(T:GV):List D:=(eZ m).map (yM w wd T)
noncomputable def qx(p:Int)(m:Nat)(w:GK)(wd:GX)(T:GV):D:= .tup [.int p,.tup<|ji (m+1) λk=>(wd k:Int),.tup (jG m w wd T)]
@[simp] theorem vK(m w wd T):(jG m w wd T).length=m:=by simp[jG]
noncomputable def wC:=(zJ (qK 8 (yt (zc (hF (zk 5) (zo qE (zh 7) (zl (.int 1)))) (zc (hF (zk 5) (zh 7)) zF)))) (zJ (mh (sB (zo lZ (qS (zh 3) (zh 7)) (zl (.str "l")))) (qK 8 (yt (zc (hF (zk 5) (zh 7)) (zc (hF (zk 5) (zo qE (zh 7) (zl (.int 1)))) zF)))) jw) (jq 6 (yt (zc (qS (zh 3) (zh 7)) (zc (zv jC (zc (zh 0) (zc (zo qE (zo qE (zh 1) (zl (.int 10))) (zo xX (zl (.int 17)) (zh 7))) (zc (zh 2) (zc (hF (zk 8) (zl (.int 0))) (zc (hF (zk 8) (zl (.int 1))) zF)))))) zF))))))
theorem ZX{m k:Nat}(w)(t:m<=1000)(d:k<m)(γ:Ctx)(f g:CO D)(z:f γ=dV (.str<|qw m w))(B:g γ=dV (.int k)):qS f g γ=dV (.str<|j6<|i9<|w k):=by rw[ql,z,B];simp only[eV,kR];rw[GJ (xy w t),qb];simp[d,j6]
theorem VA(b:Bool):lZ (.str (j6 (i9 b))) (.str "l")=dV (.bl b):=by
 have e : ∀b:Bool,(j6 (i9 b)==(gg "l"))=b:=by decide +kernel
 have d : ∀b:Bool,mv (.str<|j6<|i9 b)=e6:=by decide +kernel
 have z:mv (.str (gg "l"))=e6:=by decide +kernel
 unfold lZ;rw[GJ ⟨d b,z⟩];show dV (D.bl (j6 (i9 b)==gg "l"))=_;rw[e]
theorem qH{ns:List Int}(R:ns.length<=63){p:Int}(U:0<p){a0 m:Nat}{most:Int}(ha:a0<=500)(hm:m<=20)(w:GK)(W:0<most/\most<=40) :
 ∃wd T,qe [xJ ns,.int a0,.int p,.str<|qw m w,.int most]=dV (.val<|qx p m w wd T)/\(∀k,(wd k:Int)<most)/\∀k i j,0<=T k i j/\T k i j<p:=by
 have hl:=js;have u:m<=lim:=by omega
 have Y:m+1<=lim:=by omega
 have X : ∀k:Nat,∃n:Nat,vP ns ((a0:Int)+(k:Int))%most=n/\(n:Int)<most:=λk=>ZH most W.1;let wd:Nat->Nat:=λk=>(vP ns ((a0:Int)+(k:Int))%most).toNat;have I : ∀k:Nat,vP ns ((a0:Int)+(k:Int))%most=(wd k:Int)/\(wd k:Int)<most:=λk=>by
  obtain⟨n,f,G⟩:=X k;have:wd k=n:=by show(vP ns ((a0:Int)+(k:Int))%most).toNat=n;rw[f];rfl
  rw[this];exact⟨f,G⟩
 let T:Nat->Nat->Nat->Int:=λk i j=>yU ns p<|(((a0+10+17*k:Nat):Int))+(i:Int)*((lW w wd k:Nat):Int)+(j:Int);refine⟨wd,T,?_,λk=>(I k).2,λk i j=>Kj U⟩;have x:zV (.nm 0) qa (zo qW (zv zw<|zc (zh 1)<|zc (zo qE (zh 2)<|zh 0) zF)<|zh 3) [Cell.no,Cell.val<|xJ ns,Cell.val<|.int a0,Cell.val (.int most)] ((eZ<|m+1).map λ(i:Nat)=>D.int i)=dV (ji (m+1) λk=>(wd k:Int)):=by rw[zU];refine zy _ _ λk z=>zA rfl rfl ?_;have z:=gB.mp z;simp[(kI R (k:=(a0:Int)+(k:Int)) ⋯ ⋯).1,W.1,(I k).1]
 have tab : ∀k,k<m->jC [xJ ns,.int<|(a0:Int)+10+17*(k:Int),.int p,.int (lX w wd k:Nat),.int (lW w wd k:Nat)]=dV (.val<|vz (lX w wd k) (lW w wd k)<|T k):=λk z=>by
  have b : ∀j,wd j<=100:=λj=>by have:=(I j).2;omega
  have K:lX w wd k<=100:=by unfold lX;split<;>exact b _
  have L:lW w wd k<=100:=by unfold lW;split<;>exact b _
  have:=ya R U (a:=a0+10+17*k) (h:=lX w wd k) (w:=lW w wd k) ⋯ K L;rw[show(((a0+10+17*k:Nat)):Int)=(a0:Int)+10+17*(k:Int)by omega]at this;rw[this];show _=dV (Res.val<|vz _ _ λi j=>yU ns p<|(((a0+10+17*k:Nat):Int))+(i:Int)*((lW w wd k:Nat):Int)+(j:Int));rw[show(((a0+10+17*k:Nat)):Int)=(a0:Int)+10+17*(k:Int)by omega]
 have y:=qB (T:= .nm 7) (F:=wC)
  (λk e=>∃J M,e=[.val (xJ ns),.val<|.int a0,.val<|.int p,.val<|.str<|qw m w,.val<|.int most,.val<|.tup<|ji (m+1) λk=>(wd k:Int),.own<|jG k w wd T,J,M])
  ((eZ m).map λ(i:Nat)=>D.int i) 0 [.val (xJ ns),.val<|.int a0,.val<|.int p,.val<|.str<|qw m w,.val<|.int most,.val<|.tup<|ji (m+1) λk=>(wd k:Int),.own [],.no,.no] ⟨.no,.no,rfl⟩ (by
    rintro k d e g ⟨J,M,rfl⟩;have z:k<m:=by have:=(eU.mp g).1;simpa using this
    have A:d = .int k:=by simp[z]at g;exact g.symm
    subst A;rw[Nat.zero_add];have l:k<lim:=by omega
    have t:mC (m+1) ((k:Int)+1)=dV (k+1):=by have:=j7 (m+1)<|k+1;rw[GJ ⋯]at this;rw[<- this];congr 1
    have o:k+1<m+1:=by omega
    have r:k<m+1:=by omega
    have s:vQ 17 (k:Int)=e6:=Zk _ _ ⋯ ⋯;have app:jG (k+1) w wd T=jG k w wd T++[yM w wd T k]:=by simp[jG,iq]
    have B:=tab k z;refine⟨_,.inl ?_,.val<|.int k,.val<|.tup [.int (lX w wd k:Nat),.int (lW w wd k:Nat)],rfl⟩;rw[app];have O : ∀e:Ctx,e[3]? = dV (.val<|.str<|qw m w)->e[7]? = dV (.val<|.int k)->qS (zh 3) (zh 7) e=dV (.str<|j6<|i9<|w k):=λe N P=>ZX w ⋯ z e _ _ (by rw[Zm,N];rfl) (by rw[Zm,P];rfl);simp only[Zl,eV,lu,lr,wC];rw[z7];simp[-ql,t,o,r];rw[z7];rw[VP,cO,Zp,O _ rfl rfl];simp[-ql,VA];cases hw:w k with
    | true=>
     simp[-ql,lX,lW,hw]at B ⊢;simp[-ql,t,o,r];rw[O _ rfl rfl];simp[s,B,l,hw,yM,lX,lW]
    | false=>
     simp[-ql,lX,lW,hw]at B ⊢;rw[O _ rfl rfl];simp[s,B,l,hw,yM,lX,lW])
 obtain⟨Z,f,J,M,rfl⟩:=y;have H:((eZ m).map λ(i:Nat)=>D.int i).length=m:=by simp
 rw[H,Nat.zero_add]at f;have E:qe=jo 9 (zJ (qK 5<|jc<|jS<|jt (jg<|zo qE (Zw<|zh 3)<|zl<|.int 1) (.nm 0) 1 [0,1,4] qa (zo qW (zv zw<|zc (zh 1)<|zc (zo qE (zh 2)<|zh 0) zF)<|zh 3))<|zJ (k6 6<|qZ zF)<|zJ (wN (jg<|Zw<|zh 3) (.nm 7) wC)<|jU<|yt<|zc (zh 2)<|zc (zh 5)<|zc (jc<|zk 6) zF):=rfl;have ln : ∀e:Ctx,e[3]? = dV (.val<|.str<|qw m w)->Zw (zh 3) e=dV (.int m):=λe h=>by rw[Yl,Zm,h];simp only[kQ,eV];rw[GJ (xy w ⋯),yn]
 have C:((m:Int)+1)=((m+1:Nat):Int):=by omega
 rw[E];simp only[jo,zY];rw[z7];simp only[Kb,ZL,yO,yP,vL,Zp,fO,List.map_nil,gN,List.length_nil,eS,List.cons_append,List.nil_append];rw[ln _ rfl];have Q:inR ((m:Int)+1)=e6:=by rw[C];exact K4 Y
 have S:((m:Int)+1).toNat=m+1:=by omega
 simp only[eV,kR,Xz,Zn];rw[GJ Q,S,jV];simp[Y,jH,kG,eS];rw[zU (m+1) λi=>(i:Int),x];simp[z7,xy w (show m<=1000 by omega),yn,u,jV];rw[zU m λi=>(i:Int),f];simp[qx]
noncomputable def Qw:=(zJ (mh (xc (zW<|sB<|mw .tuple<|zh 2)<|xc (sB<|zo mm (xZ<|zk 2)<|zl<|.int 2)<|sB<|zo mm (hF (zk 2)<|zl<|.int 0)<|hF (zk 3)<|zl<|.int 0) (jU<|zl<|.bl f9) jw)<|mh (xc (zW<|sB<|mw .str<|hF (zk 2)<|zl<|.int 0)<|zW<|sB<|zv jb<|zc (hF (zk 2)<|zl<|.int 1)<|zc (hF (zk 3)<|zl<|.int 1) zF) (jU<|zl<|.bl f9) jw)
theorem JK(b:Bool):mv (.str<|j6<|i9 b)=e6:=by cases b<;>decide +kernel
theorem wI{p:Int}{m:Nat}(w:GK)(wd:GX)(T:GV)(C:m<=900)(g : ∀k,wd k<=lim):j0 [qx p m w wd T,qx p m w wd T]=dV (.val<|.bl e6):=by
 have u:=js;have t:m<=lim:=by omega
 have J:m+1<=lim:=by omega
 have M:XH (jG m w wd T) (jG m w wd T)=(eZ m).map λk=>D.tup [yM w wd T k,yM w wd T k]:=by unfold XH jG;rw[List.zip_map'];simp
 have O:=qB (T:= .tp [2,3]) (F:=Qw)
  (λk b=>∃z B,b=[.val (qx p m w wd T),.val<|qx p m w wd T,z,B])
  ((eZ m).map λk=>D.tup [yM w wd T k,yM w wd T k]) 0 [.val (qx p m w wd T),.val<|qx p m w wd T,.no,.no] ⟨.no,.no,rfl⟩ (by
    rintro k d b a ⟨z,B,rfl⟩;have R:k<m:=by have:=(eU.mp a).1;simpa using this
    have U:d = .tup [yM w wd T k,yM w wd T k]:=by simp[R]at a;exact a.symm
    subst U;refine⟨_,.inl ?_,.val<|yM w wd T k,.val<|yM w wd T k,rfl⟩;have i:lX w wd k<=lim:=by unfold lX;split<;>exact g _
    have j:lW w wd k<=lim:=by unfold lW;split<;>exact g _
    have l:=yS (T k) i j;have n:=xq<|JK<|w k;have W:ju (yM w wd T k)=dV (.T,[.str (j6<|i9<|w k),vz (lX w wd k) (lW w wd k) (T k)]):=rfl;have I:yG .tuple (yM w wd T k)=e6:=rfl;simp only[Qx,eV,lu,lr,Qw];rw[z7];have r:yG .str (.str<|j6<|i9<|w k)=e6:=rfl;simp[W,I,n,l,r])
 obtain⟨s,h,z,B,rfl⟩:=O;have Y:ju (qx p m w wd T)=dV (.T,[.int p,.tup<|ji (m+1) λk=>(wd k:Int),.tup (jG m w wd T)]):=rfl;have I:yG .tuple (qx p m w wd T)=e6:=rfl;have o:=qX (λk=>(wd k:Int)) J;have f:j0=jo 4 (zJ (mh (xc (zW<|sB<|mw .tuple<|zh 0)<|xc (sB<|zo mm (xZ<|zk 0)<|zl<|.int 3)<|xc (zW<|sB<|zv zQ<|zc (hF (zk 0)<|zl<|.int 0) zF)<|sB<|zo mm (hF (zk 0)<|zl<|.int 0)<|hF (zk 1)<|zl<|.int 0) (jU<|zl<|.bl f9) jw)<|zJ (mh (xc (zW<|sB<|zv jD<|zc (hF (zk 0)<|zl<|.int 1)<|zc (hF (zk 1)<|zl<|.int 1) zF)<|xc (zW<|sB<|mw .tuple<|hF (zk 0)<|zl<|.int 2)<|sB<|zo mm (xZ<|zN<|hF (zk 0)<|zl<|.int 2)<|xZ<|zN<|hF (zk 1)<|zl<|.int 2) (jU<|zl<|.bl f9) jw)<|zJ (wN (VY (hF (zk 0)<|zl<|.int 2)<|hF (zk 1)<|zl<|.int 2) (.tp [2,3]) Qw)<|jU<|zl<|.bl e6):=rfl;rw[f];have e:yG .tuple (.tup<|jG m w wd T)=e6:=rfl;simp[jo,zY,z7,Y,I,q9,o,e,M,eS];rw[h];simp
theorem XD{m k:Nat}(w wd T)(d:k<(jG m w wd T).length):(jG m w wd T)[k]=yM w wd T k:=by simp[jG]
theorem J4(b:Bool):lZ (.str (j6 (i9 b))) (.str "r")=dV (.bl (!b)):=by
 have e : ∀b:Bool,(j6 (i9 b)==(gg "r")) = !b:=by decide +kernel
 have d:mv (.str (gg "r"))=e6:=by decide +kernel
 unfold lZ;rw[GJ ⟨JK b,d⟩];show dV (D.bl (j6 (i9 b)==gg "r"))=_;rw[e]
theorem j9(i:Int):zZ [.int i]=dV (.val<|.bl e6):=by simp[zZ,jo,zY,yG]
abbrev Vc:=Nat->Int
def rS(r:Nat)(B:Nat->Vc):Vc->Prop:=λv=>∃k,k<r/\v=B k
noncomputable def Un(r:Nat)(B:Nat->Vc)(m:Nat)(W:Nat->Vc):Vc->Prop:=λv=>rS r B v\/rS m W v
@[simp] def VH:=@WT.eq_1
@[simp] def aW:=@dj.eq_1
theorem Kc{a b:Bool}(h:i9 a=i9 b):a=b:=by cases a<;>cases b<;>first | rfl | exact absurd h ⋯
def wG(m g:Nat)(w w':GK):Prop:=m=g/\∀k,k<m->w k=w' k
instance (m m':Nat) (w w':GK):Decidable (wG m m' w w'):=inferInstanceAs (Decidable (m=m'/\∀k,k<m->w k=w' k))
theorem ZT{m g:Nat}{w w':GK}:qw m w=qw g w'↔wG m g w w':=by
 constructor
 ·intro h
  have a:=qb m w;rw[h,qb]at a;have z:m=g:=by have:=congrArg List.length a;simpa using this.symm
  subst z;refine⟨rfl,λk d=>?_⟩;have:=congrArg (λl=>l[k]?) a;simp[d]at this;exact(Kc this).symm
 ·rintro⟨rfl,h⟩
  unfold qw;rw[List.map_congr_left λk d=>by rw[h k (gB.mp d)]]
theorem kE(m w):mv (.str<|qw m w)=e6:=by refine wY (n:=0) (by simp[deep]) ⋯ ?_;show(qw m w).cps.all (· < 0x110000)=e6;rw[<- Array.all_toList,qb];simp only[fJ];intro c d;obtain⟨k,_,rfl⟩:=gH.mp d;unfold i9;split<;>decide
section
variable{p p':Int}{m m':Nat}{w w':GK}{wd wd':GX}{T T':GV}
theorem qz:ju (qx p m w wd T)=dV (.T,[.int p,.tup<|ji (m+1) λk=>(wd k:Int),.tup (jG m w wd T)]):=rfl
theorem Yi(k):ju (yM w wd T k)=dV (.T,[.str (j6<|i9<|w k),vz (lX w wd k) (lW w wd k) (T k)]):=rfl
theorem ZS:zV (.nm 0) qa (hF (zk 0)<|zl<|.int 0) [Cell.no] (jG m w wd T)=dV ((eZ m).map λk=>D.str<|j6<|i9<|w k):=by unfold jG;refine zy _ _ λk d=>zA rfl rfl ?_;simp[Yi]
theorem qG(g:m<=900):jR [qx p m w wd T]=dV (.val<|.str<|qw m w):=by
 have I:=js;have d:m<=lim:=by omega
 have st:k5 ((eZ m).map λk=>D.str<|j6<|i9<|w k)=dV ((eZ m).map λk=>j6<|i9<|w k):=xY _ _;have z:((eZ m).map λk=>j6<|i9<|w k).all zT=e6:=by simp only[fJ];intro x B;obtain⟨k,_,rfl⟩:=gH.mp B;unfold i9;split<;>decide
 have a:zT "" = e6:=by decide +kernel
 simp only[jR,jo,zY];simp only[VI,Qz,Zn,yO,yP,Zo,XE,VO,Yj,fO,List.map_nil,gN,List.length_nil,eS,iP,List.getElem?_cons_zero,wA,qz,eV,gu,kR,sX,List.getElem?_cons_succ,VG,lK,Nat.zero_add];rw[vK,GJ d,show jH 1 [] [Cell.val (qx p m w wd T)]=[Cell.no]from rfl,ZS];simp only[gu,eV,st];rw[GJ ⟨by simpa using d,z,a⟩];rfl
theorem xv(g:m<=900)(B:m'<=900):jB [qx p m w wd T,qx p' m' w' wd' T']=dV (.val<|.bl<|decide<|p=p'/\wG m m' w w'):=by
 have z:=qG (p:=p) (wd:=wd) (T:=T) (w:=w) g;have I:=qG (p:=p') (wd:=wd') (T:=T') (w:=w') B;have d:lZ (.str<|qw m w) (.str<|qw m' w')=dV (.bl<|decide<|wG m m' w w'):=by unfold lZ;rw[GJ ⟨kE m w,kE m' w'⟩];congr 2;rw[iv];simp only[mq,rm,beq_iff_eq,decide_eq_true_eq];exact ZT
 by_cases q:p=p'
 ·simp[jB,jo,zY,qz,q,z,I,d]
  subst q;simp[z,d]
 ·simp[jB,jo,zY,qz,q]
end
section
variable{p:Int}
theorem xx(d:p=2\/p=3\/p=5\/p=7):qQ [.int p]=dV (.val<|.bl e6):=by rcases d with rfl | rfl | rfl | rfl<;>kernel_rfl
theorem xU{n:Nat}(h:n<=30):qI [.int n]=dV (.val<|.bl e6):=by
 have a:(0:Int)<=n:=by omega
 have b:(n:Int)<=30:=by omega
 simp[qI,jo,zY,j9,ye,a,b]
noncomputable def qD(h w:Nat)(f:Nat->Nat->Int):List D:=(eZ h).map λi=>D.lst<|ji w<|f i
@[simp] theorem VC(h w f):(qD h w f).length=h:=by simp[qD]
theorem qp{n:Nat}(l:List D)(h:l.length=n):zR [.lst l,.int n]=dV (.val<|.bl e6):=by simp[zR,jo,zY,Jf,yG,h]
theorem vM{w:Nat}(f:Nat->Int)(g:w<=lim):qJ [.int w,.lst (ji w f)]=dV (.val<|.bl e6):=by
 have b:=qp (n:=w) (ji w f) ⋯;have a:zV (.nm 0) qa (zv zZ<|zc (zh 0) zF) [Cell.no] (ji w f)=dV ((eZ w).map λ_=>D.bl e6):=by rw[zU];refine zy _ _ λj d=>zA rfl rfl ?_;simp[j9]
 simp[qJ,jo,zY,b,g,jH,a,qy,yQ,eS]
theorem yR{h w:Nat}(z:p=2\/p=3\/p=5\/p=7)(B:h<=30)(g:w<=30)(f:Nat->Nat->Int):qO [.int p,.int h,.int w,.lst (qD h w f)]=dV (.val<|vz h w λi j=>f i j%p):=by
 have U:=js;have I:h<=lim:=by omega
 have d:w<=lim:=by omega
 have J:=qp (n:=h) (qD h w f) ⋯;have M:zV (.nm 0) qa (zv qJ<|zc (zh 1)<|zc (zh 0) zF) [Cell.no,Cell.val (.int w)] (qD h w f)=dV ((eZ h).map λ_=>D.bl e6):=by unfold qD;refine zy _ _ λj O=>zA rfl rfl ?_;simp[vM (f j) d]
 have R:zV (.nm 0) qa (zv xM<|zc (zh 1)<|zc (zh 0) zF) [Cell.no,Cell.val (.int p)] (qD h w f)=dV (kU h w λi j=>f i j%p):=by unfold qD kU;refine zy _ _ λj O=>zA rfl rfl ?_;simp[QC (f j) (show 0<p by omega) d]
 simp[qO,jo,zY,z7,xx z,xU B,xU g,J,I,jH,kG,M,R,qy,yQ,eS];rfl
end
@[simp] theorem Yp(r):kG (.nest r) = .no:=rfl
@[simp] theorem Vh(r):kG (.own r) = .no:=rfl
@[simp] theorem Vg(d):kG (.val d) = .val d:=rfl
@[simp] theorem V5:kG .no = .no:=rfl
def QD(w:GK)(k:Nat):Nat:=if w k then k+1 else k
def J5(w:GK)(k:Nat):Nat:=if w k then k else k+1
theorem vv(w:GK)(wd:GX)(k):lX w wd k=wd (J5 w k):=by unfold lX J5;split<;>rfl
theorem wJ(w:GK)(wd:GX)(k):lW w wd k=wd (QD w k):=by unfold lW QD;split<;>rfl
theorem yb(w:GK)(k:Nat):jE [.int k,.str (j6<|i9<|w k)]=dV (.val<|.int (QD w k:Nat)):=by have q:=J4<|w k;cases h:w k<;>rw[h]at q<;>simp[jE,jo,zY,QD,q,h]
theorem XG(w:GK)(k:Nat):kg [.int k,.str (j6<|i9<|w k)]=dV (.val<|.int (J5 w k:Nat)):=by have q:=J4<|w k;cases h:w k<;>rw[h]at q<;>simp[kg,jo,zY,J5,q,h]
section
variable{p:Int}{m:Nat}{w:GK}{wd:GX}{f g T:GV}
theorem ym(m:Nat)(F:Nat->D):kN ((eZ m).map F)=(eZ m).map λ(k:Nat)=>D.tup [.int k,F k]:=by unfold kN;rw[gy,List.length_range];apply List.map_congr_left;intro k d;have d:=gB.mp d;simp[d]
end
theorem zK(h:F γ=dV (.next γ'))(g:G γ'=r):zJ F G γ=r:=by rw[z7,h];exact g
theorem vW(h:F (zY n ds)=dV (.ret r)):jo n F ds=dV r:=by show(F<|zY n ds).bind _=_;rw[h];rfl
theorem vw{T:Tg}{F:CO Fl}(P:Nat->Ctx->Prop)(n:Nat){γ:Ctx}(I:P 0 γ)(step : ∀s,s<n->∀γ,P s γ->∃z d,jT T (.int (s:Int)) γ=dV z/\F z=dV (.next d)/\P (s+1) d) :
 ∃γ',qC T F ((eZ n).map λ(i:Nat)=>D.int (i:Int)) γ=dV (.next γ')/\P n γ':=by
 have J : ∀(k s:Nat) (γ:Ctx),s+k=n->P s γ->∃γ',qC T F ((List.range' s k).map λ(i:Nat)=>D.int (i:Int)) γ=dV (.next γ')/\P n γ':=by
  intro k
  induction k with
  | zero=>
   intro s γ e B;obtain rfl:s=n:=by omega
   exact⟨γ,rfl,B⟩
  | succ k M=>
   intro s γ e B;obtain⟨z,d,a,b,O⟩:=step s ⋯ γ B;obtain⟨γ',R,U⟩:=M (s+1) d ⋯ O;refine⟨γ',?_,U⟩;rw[List.range'_succ,fO,xI,a];simp only[eV,b];exact R
 have:=J n 0 γ ⋯ I;rw[<- List.range_eq_range']at this;exact this
theorem ZI(P:Nat->Ctx->Prop)(n:Nat)(g:n<=lim)(B:f γ=dV (.int (n:Int)))(I:P 0 γ)(step : ∀s,s<n->∀γ,P s γ->∃d z,jT T (.int (s:Int)) γ=dV d/\F d=dV (.next z)/\P (s+1) z) :
 ∃γ',wN (jg f) T F γ=dV (.next γ')/\P n γ':=by
 obtain⟨γ',e,J⟩:=vw P n I step;refine⟨γ',?_,J⟩;have M:=js;have r:inR (n:Int)=e6:=JY ⋯ ⋯;rw[VR,vL,B];simp only[eV,kR,r,if_true,lI,jV];rw[zU n λi=>(i:Int)];exact e
@[simp] def Wq:=@bD.eq_1
section ap
variable(γ:Ctx)
@[simp] def Wp:=@bC.eq_1
@[simp] def Wu:=@bI.eq_1
@[simp] def Wv:=@XO.eq_1
@[simp] def cF:=@ey.eq_1
end ap
section
variable{p:Int}{m:Nat}{w:GK}{wd:GX}{T S:GV}
noncomputable def xm(w:GK)(wd:GX)(S:GV)(k:Nat):D:= .tup [.str (j6<|i9<|w k),.lst (qD (lX w wd k) (lW w wd k)<|S k)]
noncomputable def zL(m:Nat)(w:GK)(wd:GX)(S:GV):List D:=(eZ m).map (xm w wd S)
theorem QN(h : ∀k,wd k<=4) : ∀n,vR (λk=>(wd k:Int)) n<=4*n:=by
 intro n
 induction n with
 | zero=>simp[vR]
 | succ n d=>
  have:=h n;simp only[vR];omega
theorem yN(g:m<=5)(h : ∀k,wd k<=4):j4 [.lst (ji (m+1) λk=>(wd k:Int))]=dV (.val<|.bl e6):=by
 have J:=js;have d:m+1<=lim:=by omega
 have M:=QN h<|m+1;have z:vR (λk=>(wd k:Int)) (m+1)<=30:=by omega
 have a:zV (.nm 0) qa (vV (zv zZ<|zc (zh 0) zF)<|zo pa (zh 0)<|zl<|.int 0) [Cell.no] (ji (m+1) λk=>(wd k:Int))=dV ((eZ<|m+1).map λ_=>D.bl e6):=by rw[zU];refine zy _ _ λj O=>zA rfl rfl ?_;simp[j9]
 have R:((m+1:Nat):Int)<=6:=by omega
 have b:(1:Int)<=((m+1:Nat):Int):=by omega
 have B:(m:Int)+1<=6:=by omega
 have I:(1:Int)<=(m:Int)+1:=by omega
 simp[j4,jo,zY,z7,jH,eS,d,a,qy,yQ,y7,z,Jf,yG,B,I]
theorem yW(g:m<=5)(h : ∀k,wd k<=4):qm [.lst (ji (m+1) λk=>(wd k:Int))]=dV (.val<|.tup<|ji (m+1) λk=>(wd k:Int)):=by
 have z:=js;have d:m+1<=lim:=by omega
 simp[qm,jo,zY,z7,eS,yN g h,d]
theorem ZJ(a b:D):zR [.tup [a,b],.int 2]=dV (.val<|.bl e6):=by rfl
theorem Xm(b:Bool)(γ:Ctx)(f:CO D)(d:f γ=dV (.str (j6 (i9 b)))):vT f (zN (zl (.tup [.str "r",.str "l"]))) γ=dV (.bl f9):=by
 show(f γ).bind _=_;rw[d];have e : ∀b:Bool,((!([("r" : Str),"l"].any λy=>y==j6 (i9 b))):Bool)=f9:=by decide +kernel
 show dV (D.bl (!([("r" : Str),"l"].any λy=>y==j6 (i9 b))))=_;rw[e]
theorem wF(B:p=2\/p=3\/p=5\/p=7)(C:m<=5)(h : ∀k,wd k<=4){k:Nat}(R:k<m)(I : ∀i j,S k i j%p=T k i j) :
 qf [.int p,.tup<|ji (m+1) λk=>(wd k:Int),.int k,xm w wd S k]=dV (.val<|yM w wd T k):=by
 have a:=XG w k;have b:=yb w k;have d:J5 w k<m+1:=by unfold J5;split<;>omega
 have z:QD w k<m+1:=by unfold QD;split<;>omega
 have e:lX w wd k<=30:=by rw[vv];have:=h<|J5 w k;omega
 have f:lW w wd k<=30:=by rw[wJ];have:=h<|QD w k;omega
 have t:=yR (p:=p) B e f<|S k;rw[show(λi j=>S k i j%p)=T k from funext λi=>funext λj=>I i j]at t;have l:=ZJ (.str<|j6<|i9<|w k)<|.lst<|qD (lX w wd k) (lW w wd k)<|S k;have J:=Xm (w k) [.val (.int p),.val<|.tup<|ji (m+1) λk=>(wd k:Int),.val<|.int k,.val<|xm w wd S k,.no,.no] (hF (zk 3)<|zl<|.int 0) rfl;have g:mC (m+1) (J5 w k:Int)=dV (J5 w k):=by rw[j7,GJ d]
 have M:mC (m+1) (QD w k:Int)=dV (QD w k):=by rw[j7,GJ z]
 unfold qf;refine vW<|zK (γ':=[.val (.int p),.val<|.tup<|ji (m+1) λk=>(wd k:Int),.val<|.int k,.val<|xm w wd S k,.no,.no]) ?_ (zK (γ':=[.val (.int p),.val<|.tup<|ji (m+1) λk=>(wd k:Int),.val<|.int k,.val<|xm w wd S k,.val<|.str<|j6<|i9<|w k,.no]) rfl<|zK (γ':=[.val (.int p),.val<|.tup<|ji (m+1) λk=>(wd k:Int),.val<|.int k,.val<|xm w wd S k,.val<|.str<|j6<|i9<|w k,.val (vz (lX w wd k) (lW w wd k)<|T k)]) ?_ rfl)
 ·show(mh _ _ _ [.val (.int p),.val<|.tup<|ji (m+1) λk=>(wd k:Int),.val<|.int k,.val<|xm w wd S k,.no,.no])=_
  rw[VP,VL];have O:(zW<|sB<|zv zR<|zc (zh 3)<|zc (zl<|.int 2) zF) [.val (.int p),.val<|.tup<|ji (m+1) λk=>(wd k:Int),.val<|.int k,.val<|xm w wd S k,.no,.no]=dV f9:=by simp[xm,l]
  rw[O,eV,GY fm,cO,J];rfl
 ·rw[vv,wJ]at t
  simp[a,b,g,M,xm,vv,wJ,d,z,t]
theorem Jh(d:p=2\/p=3\/p=5\/p=7)(g:m<=5)(h : ∀k,wd k<=4)(z : ∀k i j,S k i j%p=T k i j) :
 qP [.int p,.lst<|ji (m+1) λk=>(wd k:Int),.lst (zL m w wd S)]=dV (.val<|qx p m w wd T):=by
 have O:=js;have R:m<=lim:=by omega
 have l:=qp (n:=m) (zL m w wd S) (by simp[zL]);have B:=yW g h;have a:zV (.tp [0,1]) qa (zv qf<|zc (zh 2)<|zc (zh 3)<|zc (zh 0)<|zc (zh 1) zF) [.no,.no,.val<|.int p,.val (.tup<|ji (m+1) λk=>(wd k:Int))] (kN<|zL m w wd S)=dV (jG m w wd T):=by unfold zL jG;rw[ym];refine zy _ _ λk I=>zA rfl rfl ?_;have:=wF (w:=w) d g h (gB.mp I)<|z k;simp[this]
 simp[qP,jo,zY,z7,eS,xx d,B,l,jH];have J:(kN<|zL m w wd S).length<=lim:=by unfold zL;rw[ym];simp;omega
 rw[GJ J,a];have M:3<=lim:=by omega
 simp[M,qx]
end
theorem Ke:kT=jo 14 (zJ Kh<|zJ Kg<|zJ Kf<|Jd 4 5 6 7 8 9 (wO jl<|zc (zh 0)<|zc (zh 3) zF) ZU (qY<|zN<|hF (zk 3)<|zl<|.int 1) (zv qP<|zc (zh 1)<|zc (zh 6)<|zc (zh 4) zF) QI<|zJ QU<|zJ KA<|zJ Ji<|zJ Kz<|zJ Ky<|zJ Kx Kw):=rfl
theorem K5:jl=jo 7 (zJ (k6 2<|qZ zF)<|zJ (wN (jg<|xZ<|zN<|hF (zk 1)<|zl<|.int 2) (.nm 3) rq)<|Je 2):=rfl
section
variable{p:Int}{m:Nat}{w:GK}{wd:GX}{T S:GV}{ns:List Int}
noncomputable def KY(ns:List Int)(k:Nat):Int:=vP ns (120+(k:Int))%2001 - 1000
noncomputable def ZQ(ns:List Int)(p:Int)(T:GV)(k i j:Nat):Int:=T k i j+p*KY ns k
theorem ZC(s:Nat):zL (s+1) w wd S=zL s w wd S++[xm w wd S s]:=by unfold zL;rw[iq,iu];rfl
theorem wu(B:p<=7)(I:0<p)(h : ∀k,wd k<=4)(k:Nat):zV (.nm 0) qa (vN<|jt (jv<|zk 0) (.nm 0) 1 [1,2] qa (zo qE (zh 0)<|zo xX (hF (zk 1)<|zl<|.int 0)<|zh 2)) [.no,.val<|qx p m w wd T,.val (.int<|KY ns k)] (kU (lX w wd k) (lW w wd k)<|T k)=dV (qD (lX w wd k) (lW w wd k)<|ZQ ns p T k):=by
 have J:=js;have a:lW w wd k<=lim:=by rw[wJ];have:=h<|QD w k;omega
 have d:vQ p (KY ns k)=e6:=Zk _ _ ⋯ ⋯;have z : ∀i,zV (.nm 0) qa (zo qE (zh 0)<|zo xX (hF (zk 1)<|zl<|.int 0)<|zh 2) [.no,.val<|qx p m w wd T,.val (.int<|KY ns k)] (ji (lW w wd k)<|T k i)=dV (ji (lW w wd k)<|ZQ ns p T k i):=λi=>by rw[zU,zU];refine zy _ _ λj _=>zA rfl rfl ?_;simp[qz,d,ZQ]
 unfold kU qD;refine zy _ _ λi _=>zA rfl rfl ?_;have:=z i;simp[a,jH,eS,this]
theorem J1(M:ns.length<=63)(O:p<=7)(R:0<p)(t:m<=5)(h : ∀k,wd k<=4):jl [xJ ns,qx p m w wd T]=dV (.own<|zL m w wd<|ZQ ns p T):=by
 have i:=js;obtain⟨γ',U,z,B,I,d,rfl⟩:=ZI (T:= .nm 3) (F:=rq) (f:=xZ<|zN<|hF (zk 1)<|zl<|.int 2)
  (λs γ=>∃z B I d,γ=[.val (xJ ns),.val<|qx p m w wd T,.own<|zL s w wd<|ZQ ns p T,z,B,I,d]) m ⋯ (γ:=[.val (xJ ns),.val<|qx p m w wd T,.own [],.no,.no,.no,.no])
  (by simp[qz]) ⟨_,_,_,_,rfl⟩ λs J γ W=>by
    obtain⟨z,B,I,d,rfl⟩:=W;refine⟨_,[.val (xJ ns),.val<|qx p m w wd T,.own<|zL (s+1) w wd<|ZQ ns p T,.val<|.int s,.val<|.str<|j6<|i9<|w s,.val<|vz (lX w wd s) (lW w wd s)<|T s,.val (.int<|KY ns s)],rfl,?_,_,_,_,_,rfl⟩;have g:(jG m w wd T)[s]? = dV (yM w wd T s):=by simp[jG,J]
    have Y:=(kI M (k:=120+(s:Int)) ⋯ ⋯).1;have a:lX w wd s<=lim:=by rw[vv];have:=h<|J5 w s;omega
    have e:=wu (ns:=ns) (m:=m) (w:=w) (T:=T) O R h s;refine zK (γ':=[.val (xJ ns),.val<|qx p m w wd T,.own<|zL s w wd<|ZQ ns p T,.val<|.int s,.val<|.str<|j6<|i9<|w s,.val<|vz (lX w wd s) (lW w wd s)<|T s,d]) ?_ (zK (γ':=[.val (xJ ns),.val<|qx p m w wd T,.own<|zL s w wd<|ZQ ns p T,.val<|.int s,.val<|.str<|j6<|i9<|w s,.val<|vz (lX w wd s) (lW w wd s)<|T s,.val (.int<|KY ns s)]) ?_ ?_)
    ·simp[qz,J]
     rw[XD];rfl
    ·simp[Y,KY]
    ·have pl:(zL s w wd<|ZQ ns p T).length<lim:=by simp[zL];omega
     have dl:(kU (lX w wd s) (lW w wd s)<|T s).length<=lim:=by simpa[kU]using a
     have b:ju (vz (lX w wd s) (lW w wd s)<|T s)=dV (.T,[.int (lX w wd s:Nat),.int (lW w wd s:Nat),.tup (kU (lX w wd s) (lW w wd s)<|T s)]):=rfl;rw[ZC];simp[b,jH,eS,e,pl,a];rfl
 rw[K5];exact vW<|zK (γ':=[.val (xJ ns),.val<|qx p m w wd T,.own [],.no,.no,.no,.no]) rfl<|zK U rfl
theorem Km(t:m<=5)(h : ∀k,wd k<=4)(d z B I J M O R U W Y a0 g:Cell):ZU [d,z,B,I,.val<|.lst<|zL m w wd S,J,M,O,R,U,W,Y,a0,g]=dV (zL m w wd S):=by
 have j:=js;have a:m<=lim:=by omega
 have b:zV (.tp [0,1]) qa (yt<|zc (zh 0)<|zc (vN<|jt (jv<|zk 1) (.nm 0) 1 [] qa (vN<|qY<|zk 0)) zF) [.no,.no] (zL m w wd S)=dV (zL m w wd S):=by
  unfold zL;refine zy _ _ λk _=>zA rfl rfl ?_;have e:lX w wd k<=lim:=by rw[vv];have:=h<|J5 w k;omega
  have g2:zV (.nm 0) qa (vN<|qY<|zk 0) [.no] (qD (lX w wd k) (lW w wd k)<|S k)=dV (qD (lX w wd k) (lW w wd k)<|S k):=by unfold qD;refine zy _ _ λi _=>zA rfl rfl ?_;rfl
  have f:2<=lim:=by omega
  simp[e,jH,eS,g2,xm,f]
 unfold ZU;rw[yP];show(dV (zL m w wd S)).bind _=_;rw[eV,GJ (by simp[zL];exact a)];exact b
theorem JN:mv (.lst<|zL m w wd S)=e6:=by
 refine wY (n:=4) ?_ ⋯ ?_
 ·simp only[deep]
  have:nj (zL m w wd S)<=3:=kc λd a=>by
   obtain⟨k,_,rfl⟩:=gH.mp a;simp only[xm,deep,nj];have:nj (qD (lX w wd k) (lW w wd k)<|S k)<=1:=kc λd a=>by obtain⟨i,_,rfl⟩:=gH.mp a;exact yI _ _
   omega
  omega
 ·simp only[mu]
  refine yD λd a=>?_;obtain⟨k,_,rfl⟩:=gH.mp a;have z:mu (.str<|j6<|i9<|w k)=e6:=by have:=JK<|w k;unfold mv at this;rw[fe]at this;exact this.2
  have B:m9 (qD (lX w wd k) (lW w wd k)<|S k)=e6:=yD λd a=>by obtain⟨i,_,rfl⟩:=gH.mp a;exact wg _ _
  simp only[xm,mu,m9]at z ⊢;rw[z,B];rfl
theorem yE : ∀{l:List D},(∀d∈l,nY d=e6)->nE l=e6
 | [],_=>rfl
 | d::ds,h=>by simp only[nE,h d fw,yE λe z=>h e<|ft _ z,Bool.and_self]
theorem K0:nY (qx p m w wd T)=e6:=by
 have v : ∀n (f:Nat->Int),nE (ji n f)=e6:=λn f=>yE λd b=>by simp[ji]at b;obtain⟨i,_,rfl⟩:=b;rfl
 have a:nE (jG m w wd T)=e6:=yE λd b=>by
  obtain⟨k,_,rfl⟩:=gH.mp b;have:nE (kU (lX w wd k) (lW w wd k)<|T k)=e6:=yE λd b=>by simp[kU]at b;obtain⟨i,_,rfl⟩:=b;exact v _ _
  simp only[yM,vz,nY,nE,this];rfl
 simp only[qx,nY,nE,v,a];rfl
end
theorem Vs{p:Int}{m:Nat}{w:GK}{wd:GX}{T:GV}(t:m<=5)(d z B I J M O R U W Y a0 g:Cell):vU (zl (.str "")) (jS (jt (jv (zN (hF (zk 11) (zl (.int 2))))) (.tp [0,1]) 2 [] qa (zh 0))) [d,z,B,I,J,M,O,R,U,W,Y,.val (qx p m w wd T),a0,g]=dV (.str (qw m w)):=by
 have j:=js;have a:m<=lim:=by omega
 have st:k5 ((eZ m).map λk=>D.str<|j6<|i9<|w k)=dV ((eZ m).map λk=>j6<|i9<|w k):=xY _ _;have h:((eZ m).map λk=>j6<|i9<|w k).all zT=e6:=by simp only[fJ];intro x e;obtain⟨k,_,rfl⟩:=gH.mp e;unfold i9;split<;>decide
 have f:zT "" = e6:=by decide +kernel
 have i:zN (hF (zk 11)<|zl<|.int 2) [d,z,B,I,J,M,O,R,U,W,Y,.val<|qx p m w wd T,a0,g]=dV (.T,jG m w wd T):=rfl;have b:zV (.tp [0,1]) qa (zh 0) [.no,.no] (jG m w wd T)=dV ((eZ m).map λk=>D.str<|j6<|i9<|w k):=by unfold jG;exact zy _ _ λk _=>zA rfl rfl rfl
 simp only[Qz,Zn,yO,yP,Zo,i,eV,gu];rw[vK,GJ a,show jH 2 [] [d,z,B,I,J,M,O,R,U,W,Y,Cell.val<|qx p m w wd T,a0,g]=[Cell.no,.no]from rfl,b];simp only[gu,eV,st];rw[GJ ⟨by simpa using a,h,f⟩];rfl
theorem ag(ns:List Int)(B:ns.length<=63):kT [xJ ns]=dV (.val<|.bl e6):=by
 have hl:=js;obtain⟨e0,a0,_⟩:=kI B (k:=0) ⋯ ⋯;obtain⟨e1,J,_⟩:=kI B (k:=1) ⋯ ⋯;obtain⟨e8,C,_⟩:=kI B (k:=58) ⋯ ⋯;obtain⟨M,E,_⟩:=kI B (k:=59) ⋯ ⋯;obtain⟨p,ep,ix,hp⟩:=kr a0;obtain⟨q,eq,H,hq⟩:=kr C;obtain⟨m,w,e,ew⟩:=xw J;obtain⟨O,U,K,L⟩:=xw E;have Y:0<p:=by omega
 have q0:0<q:=by omega
 obtain⟨wd,T,er,N,s⟩:=qH B Y (a0:=2) (m:=m) (most:=5) ⋯ ⋯ w ⋯;have I : ∀k,wd k<=4:=λk=>by have:=N k;omega
 have x:=J1 (T:=T) (w:=w) B ⋯ Y e I;have hS : ∀k i j,ZQ ns p T k i j%p=T k i j:=λk i j=>by unfold ZQ;rw[Int.add_mul_emod_self_left];exact Int.emod_eq_of_lt (s k i j).1 (s k i j).2
 have A:=Jh (w:=w) hp e I hS;generalize ZQ ns p T=S at x A;let R:=qx p m w wd T;let P:=zL m w wd S;let W:=ji (m+1) λk=>(wd k:Int);let d:Cell->Cell->Cell->Cell->Cell->Cell->Cell->Cell->Cell->Cell->Ctx:=λQ X Z c7 c8 c9 ca cd ce ch=>[.val (xJ ns),.val<|.int p,.val<|.str<|qw m w,.val R,Q,X,Z,c7,c8,c9,ca,cd,ce,ch];rw[Ke];refine vW<|zK (γ':=[.val (xJ ns),.val<|.int p,.no,.no,.no,.no,.no,.no,.no,.no,.no,.no,.no,.no]) (by simp[Kh,zY,eS,e0,ix,ep])<|zK (γ':=[.val (xJ ns),.val<|.int p,.val<|.str<|qw m w,.no,.no,.no,.no,.no,.no,.no,.no,.no,.no,.no]) (by simp[Kg,e1,ew])<|zK (γ':=d .no .no .no .no .no .no .no .no .no .no) (by simp[Kf,d,R];exact⟨_,er,rfl⟩) ?_;have t1:QI (d (.val<|.lst P) (.val<|.lst P) (.val<|.lst W) (.val R) .no .no .no .no .no .no)=dV f9:=by have n1:=xq<|JN (m:=m) (w:=w) (wd:=wd) (S:=S);have n2:mm (.lst W) (.lst W)=dV (.bl f9):=xq<|wY (n:=1) (yI _ _) ⋯<|wg _ _;simp[QI,d,P,n1,R,qz];show(mm (.lst W)<|.lst W).bind nM=_;rw[n2];rfl
 unfold Jd;rw[GJ ⟨rfl,by decide,⟨by simp[d],by simp[d],by simp[d]⟩,by simp[d],by simp[d],by simp[d]⟩];have f1:wO jl (zc (zh 0)<|zc (zh 3) zF) (d .no .no .no .no .no .no .no .no .no .no)=dV P:=by simp[d,R,x,P]
 rw[f1,eV];have f2:ZU ((d .no .no .no .no .no .no .no .no .no .no).set 4 (.val<|.lst P))=dV P:=Km e I _ _ _ _ _ _ _ _ _ _ _ _ _;rw[f2,eV];have f4:zv qP (zc (zh 1)<|zc (zh 6)<|zc (zh 4) zF) (d (.val<|.lst P) (.val<|.lst P) (.val<|.lst W) .no .no .no .no .no .no .no)=dV R:=by simp[d,P,W,A,R]
 refine(congrArg (iR · _)<|show _=dV W from rfl).trans ?_;rw[eV];refine(congrArg (iR · _) f4).trans ?_;rw[eV];refine(GJ K0).trans ?_;refine(congrArg (iR · _) t1).trans ?_;rw[eV,GY fm];show zJ QU _ (d .no .no .no (.val R) .no .no .no .no .no .no)=_;have wo:=qG (p:=p) (wd:=wd) (T:=T) (w:=w) (show m<=900 by omega);have ir:=wI (p:=p) w wd T (show m<=900 by omega) (λk=>by have:=I k;omega);have nw:=xq<|kE m w;obtain⟨a,w',cw,s3⟩ : ∃a w',a<=5/\Ji (d .no .no .no (.val R) .no .no (.val<|.str<|qw O U) .no .no .no)=dV (.next<|d .no .no .no (.val R) .no .no (.val<|.str<|qw a w') .no .no .no):=by
  by_cases u:vP ns 59/200%2=1
  ·exact⟨m,w,e,by simp[Ji,d,M,u]⟩
  ·exact⟨O,U,K,by simp[Ji,d,M,u]⟩
 obtain⟨h,f,cz,_,_⟩:=qH B q0 (a0:=60) (m:=a) (most:=3) ⋯ ⋯ w' ⋯;obtain⟨l,g,d0,_,_⟩:=qH B Y (a0:=60) (m:=m) (most:=4) ⋯ ⋯ w ⋯;have y:=xv (p:=p) (p':=q) (w:=w) (w':=w') (wd:=wd) (wd':=h) (T:=T) (T':=f) (show m<=900 by omega) (show a<=900 by omega);have r:=xv (p:=p) (p':=p) (w:=w) (w':=w) (wd:=wd) (wd':=l) (T:=T) (T':=g) (show m<=900 by omega) (show m<=900 by omega);have r:jB [qx p m w wd T,qx p m w l g]=dV (.val<|.bl e6):=by rw[r,decide_eq_true ⟨rfl,rfl,λ_ _=>rfl⟩]
 obtain⟨b,t⟩ : ∃b,b=decide (p=q/\wG m a w w'):=⟨_,rfl⟩;rw[<- t]at y;let z:=qx q a w' h f;let R2:=qx p m w l g;have tr : ∀b:Bool,qo [.bl b,.bl b]=dV (.val<|.bl e6):=λb=>by cases b<;>rfl
 refine zK (γ':=d .no .no .no (.val R) .no .no .no .no .no .no) ?_ (zK (γ':=d .no .no .no (.val R) .no .no (.val<|.str<|qw O U) .no .no .no) (by simp[KA,d,M,L])<|zK s3<|zK (γ':=d .no .no .no (.val R) .no .no (.val<|.str<|qw a w') (.val z) .no .no) ?_ (zK (γ':=d .no .no .no (.val R) .no .no (.val<|.str<|qw a w') (.val z) (.val R2) .no) ?_ (zK (γ':=d .no .no .no (.val R) .no .no (.val<|.str<|qw a w') (.val z) (.val R2)<|.val<|.bl b) ?_ ?_)))
 ·simp[QU,d,R,ir,wo,nw,yG]
 ·simp[Kz,d,e8,H,eq,z]
  exact⟨_,cz,rfl⟩
 ·simp[Ky,d,R2]
  exact⟨_,d0,rfl⟩
 ·have jn:=Vs (p:=q) (w:=w') (wd:=h) (T:=f) cw (.val<|xJ ns) (.val<|.int p) (.val<|.str<|qw m w) (.val R) .no .no .no (.val R) .no .no (.val<|.str<|qw a w') (.val R2) .no
  have ds:lZ (.str<|qw m w) (.str<|qw a w')=dV (.bl<|decide<|wG m a w w'):=by unfold lZ;rw[GJ ⟨kE m w,kE a w'⟩];congr 2;rw[iv];simp only[mq,rm,beq_iff_eq,decide_eq_true_eq];exact ZT
  have G:zo lZ (zh 2) (vU (zl (.str "")) (jS (jt (jv (zN (hF (zk 11) (zl (.int 2))))) (.tp [0,1]) 2 [] qa (zh 0)))) (d .no .no .no (.val R) .no .no (.val (.str (qw a w'))) (.val z) (.val R2) .no)=dV (.bl (decide (wG m a w w'))):=by rw[Zp];refine(congrArg (iR · _) (show _=dV (D.str (qw m w))from rfl)).trans ?_;rw[eV];refine(congrArg (iR · _) jn).trans ?_;rw[eV];exact ds
  have J:zo lZ (zh 1) (hF (zk 11)<|zl<|.int 0) (d .no .no .no (.val R) .no .no (.val<|.str<|qw a w') (.val z) (.val R2) .no)=dV (.bl<|decide<|p=q):=by simp[d,z,qz]
  unfold Kx;rw[Kb];have F:(vV (zo lZ (zh 1) (hF (zk 11) (zl (.int 0)))) (zo lZ (zh 2) (vU (zl (.str "")) (jS (jt (jv (zN (hF (zk 11) (zl (.int 2))))) (.tp [0,1]) 2 [] qa (zh 0)))))) (d .no .no .no (.val R) .no .no (.val (.str (qw a w'))) (.val z) (.val R2) .no)=dV (.bl b):=by
   rw[VT,J,t];by_cases o:p=q
   ·rw[decide_eq_true o]
    refine G.trans ?_;simp[o]
   ·simp[o]
  rw[F];rfl
 ·simp[Kw,d,R,z,R2,y,r,tr]
noncomputable def top(i:Nat):PySem.Stmt:=PySem.Challenge.pw_barsplit_k10_rows_made.main.body.getD i<|.Pass ⟨0,0,0,0⟩
section
variable{CR CL:PySem.Addr}{P:PySem.Program}{w:PySem.World}{K:eO}{mg:PySem.Str->Option PySem.Value}{base:PySem.Heap}
theorem wq(h:us.length=n+1) : ∃a t,us=a::t/\t.length=n:=by
 cases us with
 | nil=>exact absurd h<|Nat.zero_ne_add_one n
 | cons a t=>exact⟨a,t,rfl,Nat.succ.inj h⟩
theorem eK(h:us.length=1) : ∃a,us=[a]:=by obtain⟨a,z,rfl,d⟩:=wq h;rw[fA d];exact⟨a,rfl⟩
theorem eJ(h:us.length=2) : ∃a b,us=[a,b]:=by obtain⟨a,z,rfl,d⟩:=wq h;obtain⟨b,B,rfl,e⟩:=wq d;rw[fA e];exact⟨a,b,rfl⟩
theorem eI(h:us.length=3) : ∃a b c,us=[a,b,c]:=by obtain⟨a,z,rfl,d⟩:=wq h;obtain⟨b,B,rfl,e⟩:=wq d;obtain⟨c,I,rfl,f⟩:=wq e;rw[fA f];exact⟨a,b,c,rfl⟩
theorem eH(h:us.length=4) : ∃a b c d,us=[a,b,c,d]:=by obtain⟨a,I,rfl,z⟩:=wq h;obtain⟨b,J,rfl,e⟩:=wq z;obtain⟨c,M,rfl,f⟩:=wq e;obtain⟨d,O,rfl,B⟩:=wq f;rw[fA B];exact⟨a,b,c,d,rfl⟩
theorem eG{t:Type}{g:List t}(h:g.length=5) : ∃a b c d e,g=[a,b,c,d,e]:=by obtain⟨a,J,rfl,z⟩:=wq h;obtain⟨b,M,rfl,f⟩:=wq z;obtain⟨c,O,rfl,i⟩:=wq f;obtain⟨d,R,rfl,B⟩:=wq i;obtain⟨e,U,rfl,I⟩:=wq B;rw[fA I];exact⟨a,b,c,d,e,rfl⟩
structure E0(K:eO)(mg:PySem.Str->Option PySem.Value):Prop where
 Q0:mf K mg "is_whole" (top 10) ["x"]
 Q1:mf K mg "is_prime" (top 11) ["p"]
 Q2:mf K mg "rests" (top 12) ["p","numbers"]
 Q3:mf K mg "is_side" (top 13) ["many"]
 Q4:mf K mg "is_listed" (top 14) ["things","many"]
 Q5:mf K mg "is_line" (top 15) ["wide","row"]
 Q6:mf K mg "table_of" (top 16) ["p","high","wide","rows"]
 Q7:mf K mg "beginning_of" (top 21) ["k","way"]
 Q8:mf K mg "end_of" (top 22) ["k","way"]
 Q9:mf K mg "are_widths" (top 23) ["widths"]
 Qa:mf K mg "widths_of" (top 24) ["widths"]
 Qb:mf K mg "arrow_of" (top 25) ["p","widths","k","pair"]
 Qc:mf K mg "row_of" (top 26) ["p","widths","arrows"]
 Qd:mf K mg "ways_of" (top 27) ["row"]
 Qe:mf K mg "one_kind" (top 28) ["one","other"]
 Qf:mf K mg "_law_mix" (top 30) ["_law_script","_law_k"]
 Qg:mf K mg "_law_whole" (top 31) ["_law_found"]
 Qh:mf K mg "_law_rests" (top 32) ["_law_found","_law_due"]
 Qi:mf K mg "_law_is_table" (top 33) ["_law_found","_law_due"]
 Qj:mf K mg "_law_table" (top 34) ["_law_script","_law_at","_law_p","_law_high","_law_wide"]
 Qk:mf K mg "_law_ways" (top 35) ["_law_cell"]
 Ql:mf K mg "_law_row" (top 36) ["_law_script","_law_at","_law_p","_law_ways_here","_law_most"]
 Qm:mf K mg "_law_is_row" (top 37) ["_law_found","_law_due"]
 Qn:mf K mg "_law_handed" (top 38) ["_law_script","_law_row_here"]
 Qo:mf K mg "_law_truth" (top 39) ["_law_found","_law_due"]
 Qp:mf K mg "law" (top 40) ["_law_script"]
 Z0:mg "bool" = f6
 Z1:mg "int" = f6
 Z2:mg "isinstance" = f6
 Z3:mg "tuple" = f6
 Z4:mg "len" = f6
 Z5:mg "list" = f6
 Z6:mg "all" = f6
 Z7:mg "sum" = f6
 Z8:mg "enumerate" = f6
 Z9:mg "range" = f6
 Za:mg "str" = f6
 Zb:mg "zip" = f6
 G0:GL K mg "PRIMES" (.tup [.int 2,.int 3,.int 5,.int 7])
 G1:GL K mg "MOST_HIGH_OR_WIDE" (.int 30)
 G2:GL K mg "MOST_ROOMS" (.int 6)
 G3:GL K mg "MOST_TOGETHER" (.int 30)
 G4:GL K mg "WAYS" (.tup [.str "r",.str "l"])
theorem qh(E:E0 K mg):mj P w K mg base 1 "is_whole" 1 zZ:=
 ka (N:=["x"]) E.Q0 ⋯ λX z b B a I d J=>by subst z b B a I;exact zg (zt (qt (vf d ⋯ E.Z2 ⋯ E.Z1 (zq d)) (qr (XT (xD d ⋯ E.Z2 ⋯ E.Z0 (zq d))))))
theorem kC(E:E0 K mg):mj P w K mg base 2 "is_prime" 1 qQ:=
 ka (N:=["p"]) E.Q1 ⋯ λX z b B a I d J=>by subst z b B a I;exact zg (zt (qt (zH (qh E) d (za (zq d) zf)) (qr (YL (zq d) (PV.q (Jm d ⋯ E.G0))))))
theorem Xl(E:E0 K mg):mj P w K mg base 1 "rests" 2 xM:=
 ka (N:=["p","numbers"]) E.Q2 ⋯ λX z e B b I d J=>by subst z e B b I;exact zg (zt (jW d ⋯ E.Z3 (PO.q (xn d (jI (zS d)) (λ_ _ _ a=>jr (zq a) (zq a))))))
theorem yj(E:E0 K mg):mj P w K mg base 2 "is_side" 1 qI:=
 ka (N:=["many"]) E.Q3 ⋯ λX z b B a I d J=>by subst z b B a I;exact zg (zt (qt (zH (qh E) d (za (zq d) zf)) (qr (QX JI JI va va zd (zq d) (Jm d ⋯ E.G1)))))
theorem jZ(E:E0 K mg):mj P w K mg base 1 "is_listed" 2 zR:=
 ka (N:=["things","many"]) E.Q4 ⋯ λX z b B a I d J=>by subst z b B a I;exact zg (zt (qt (Jl d ⋯ E.Z2 ⋯ E.Z5 ⋯ E.Z3 (zq d)) (qr (vY d (jF d ⋯ E.Z4 (zS d)) (zq d)))))
theorem ZF(E:E0 K mg):mj P w K mg base 2 "is_line" 2 qJ:=
 ka (N:=["wide","row"]) E.Q5 ⋯ λX z e B b I d J=>by subst z e B b I;exact zg (zt (qt (zH (jZ E) d (za (zq d) (za (zq d) zf))) (qr (vh d ⋯ E.Z6 (PO.q (xn d (jI (zS d)) (λ_ _ _ a=>zH (qh E) a (za (zq a) zf))))))))
theorem wc(E:E0 K mg):mj P w K mg base 3 "table_of" 4 qO:=
 ka (N:=["p","high","wide","rows"]) E.Q6 ⋯ λX z e B b I d J=>by subst z e B b I;exact by refine ze (ja (zG (zI (zH (kC E) d (za (zq d) zf)))) (zg jP) zD) ?_;refine ze (ja (xl (z9 (zG (zI (zH (yj E) d (za (zq d) zf)))) (jx (zG (zI (zH (yj E) d (za (zq d) zf))))))) (zg jP) zD) ?_;refine ze (ja (xl (z9 (zG (zI (zH (jZ E) d (za (zq d) (za (zq d) zf))))) (jx (zG (zI (vh d ⋯ E.Z6 (PO.q (xn d (jI (zS d)) (λ_ _ _ a=>zH (ZF E) a (za (zq a) (za (zq a) zf))))))))))) (zg jP) zD) ?_;exact(zg (zt (xk (vO (za (zq d) (za (zq d) (za (jW d ⋯ E.Z3 (PO.q (xn d (jI (zS d)) (λ_ _ _ a=>zH (Xl E) a (za (zq a) (za (zq a) zf)))))) zf)))))))
theorem kD(E:E0 K mg):mj P w K mg base 1 "beginning_of" 2 jE:=
 ka (N:=["k","way"]) E.Q7 ⋯ λX z b B a I d J=>by subst z b B a I;exact zg (zt (wV (yh d (zq d) kn) (zq d) (jJ (zq d) zd)))
theorem JM(E:E0 K mg):mj P w K mg base 1 "end_of" 2 kg:=
 ka (N:=["k","way"]) E.Q8 ⋯ λX z b B a I d J=>by subst z b B a I;exact zg (zt (wV (yh d (zq d) kn) (jJ (zq d) zd) (zq d)))
theorem yC(E:E0 K mg):mj P w K mg base 2 "are_widths" 1 j4:=
 ka (N:=["widths"]) E.Q9 ⋯ λX z e B b I d J=>by subst z e B b I;exact by refine ze (ja (xl (z9 (zG (zI (Jl d ⋯ E.Z2 ⋯ E.Z5 ⋯ E.Z3 (zq d)))) (jx (zG (Jn JI JI va va zd (jF d ⋯ E.Z4 (zS d)) (Jm d ⋯ E.G2)))))) (zg (zt xE)) zD) ?_;refine ze (ja (zG (zI (vh d ⋯ E.Z6 (PO.q (xn d (jI (zS d)) (λ_ _ _ a=>qt (zH (qh E) a (za (zq a) zf)) (qr (W6 (zq a) zd)))))))) (zg (zt xE)) zD) ?_;exact(zg (zt (W4 (YK d ⋯ E.Z7 (zS d)) (Jm d ⋯ E.G3))))
theorem vm(E:E0 K mg):mj P w K mg base 3 "widths_of" 1 qm:=
 ka (N:=["widths"]) E.Qa ⋯ λX z b B a I d J=>by subst z b B a I;exact by refine ze (ja (zG (zI (zH (yC E) d (za (zq d) zf)))) (zg jP) zD) ?_;exact(zg (zt (jW d ⋯ E.Z3 (zS d))))
theorem we(E:E0 K mg):mj P w K mg base 4 "arrow_of" 4 qf:=
 ka (N:=["p","widths","k","pair","way","table"]) E.Qb ⋯ λX B b I a J z M=>by subst B b I a J;exact by refine ze (ja (xl (z9 (zG (zI (zH (jZ E) z (za (zq z) (za zd zf))))) (jx (Zy (zB (zS z) zd) (PV.q (Jm z ⋯ E.G4)))))) (zg jP) zD) ?_;refine ze (qv z (zB (zS z) zd)) ?_;refine ze (QZ (have d:=z.nc (λ_ _=>False);Js 5 (d.set 5 ⋯ (zH (wc E) d (za (zq d) (za (zB (zS d) (zH (JM E) d (za (zq d) (za (zq d) zf)))) (za (zB (zS d) (zH (kD E) d (za (zq d) (za (zq d) zf)))) (za (zB (zS d) zd) zf)))))))) ?_;exact(zg (zt (xk (vO (za (zq z) (za (zq z) zf))))))
theorem JL(E:E0 K mg):mj P w K mg base 5 "row_of" 3 qP:=
 ka (N:=["p","widths","arrows","wide","made"]) E.Qc ⋯ λX z e B b I d J=>by subst z e B b I;exact by refine ze (ja (zG (zI (zH (kC E) d (za (zq d) zf)))) (zg jP) zD) ?_;refine ze (qv d (zH (vm E) d (za (zq d) zf))) ?_;refine ze (ja (zG (zI (zH (jZ E) d (za (zq d) (za (wU (jF d ⋯ E.Z4 (zS d)) zd) zf))))) (zg jP) zD) ?_;refine ze (Xb 4 (YS d (mY.c (KN d ⋯ E.Z8 (zq d))) (λ_ _ _ a=>zH (we E) a (za (zq a) (za (zq a) (za (zq a) (za (zq a) zf))))))) ?_;exact(zg (zt (xk (vO (za (zq d) (za (zq d) (za (jW d ⋯ E.Z3 (zS d)) zf)))))))
theorem qL(E:E0 K mg):mj P w K mg base 1 "ways_of" 1 jR:=
 ka (N:=["row"]) E.Qd ⋯ λX z e B b I d J=>by subst z e B b I;exact zg (zt (vX kn (PO.q (xn d (jI (PV.q (zB (zS d) zd))) (λ_ _ _ a=>zB (zS a) zd)))))
theorem kz(E:E0 K mg):mj P w K mg base 2 "one_kind" 2 jB:=
 ka (N:=["one","other"]) E.Qe ⋯ λX z b B a I d J=>by subst z b B a I;exact zg (zt (qt (vY d (zB (zS d) zd) (zB (zS d) zd)) (qr (vY d (zH (qL E) d (za (zq d) zf)) (zH (qL E) d (za (zq d) zf))))))
theorem jj(E:E0 K mg):mj P w K mg base 1 "_law_mix" 2 zw:=
 ka (N:=["_law_script","_law_k","_law_cell","_law_digits","_law_turn"]) E.Qf ⋯ λX z b B a I d J=>by subst z b B a I;exact by refine ze (ja (yh d (jF d ⋯ E.Z4 (zS d)) zd) (zg (zt (jr (qs (jr (qs (jJ (qs (qs (zq d) (zq d)) zd) zd) zd) zd) zd) zd))) zD) ?_;refine ze (qv d (zB (zS d) (jr (zq d) (jF d ⋯ E.Z4 (zS d))))) ?_;refine ze (ja (xl (KB (YM (jF d ⋯ E.Z4 (zS d)) zd) (QV (yh d (jr (zB (zS d) zd) zd) zd)))) (by refine ze (qv d (zB (zS d) (jJ zd (jr (zq d) (wU (jF d ⋯ E.Z4 (zS d)) zd))))) ?_;refine ze (vi J d (jX d ⋯ E.Z9 (vg (zq d) (wU (jF d ⋯ E.Z4 (zS d)) zd))) (zg (qv d (vg (zq d) (Jj zd zd))))) ?_;exact(zg (zt (jr (zq d) (Jj zd zd))))) zD) ?_;exact(zg (zt (jr (qs (jr (jJ (jJ (qs (jr (zq d) (Jj zd zd)) zd) (qs (qs (zq d) (zq d)) zd)) zd) zd) zd) zd)))
theorem jY(E:E0 K mg):mj P w K mg base 1 "_law_whole" 1 zQ:=
 ka (N:=["_law_found"]) E.Qg ⋯ λX z b B a I d J=>by subst z b B a I;exact zg (zt (qt (vf d ⋯ E.Z2 ⋯ E.Z1 (zq d)) (qr (XT (xD d ⋯ E.Z2 ⋯ E.Z0 (zq d))))))
theorem xS(E:E0 K mg):mj P w K mg base 2 "_law_rests" 2 jD:=
 ka (N:=["_law_found","_law_due"]) E.Qh ⋯ λX z e B b I d J=>by subst z e B b I;exact by refine ze (ja (xl (z9 (zG (zI (jA d ⋯ E.Z2 ⋯ E.Z3 (zq d)))) (jx (qu d (jF d ⋯ E.Z4 (zS d)) (jF d ⋯ E.Z4 (zS d)))))) (zg (zt xE)) zD) ?_;exact(zg (zt (qt (vh d ⋯ E.Z6 (PO.q (xn d (jI (zS d)) (λ_ _ _ a=>zH (jY E) a (za (zq a) zf))))) (qr (vY d (zq d) (zq d))))))
theorem kB(E:E0 K mg):mj P w K mg base 3 "_law_is_table" 2 jb:=
 ka (N:=["_law_found","_law_due"]) E.Qi ⋯ λX z e B b I d J=>by subst z e B b I;exact by refine ze (ja (xl (z9 (zG (zI (jA d ⋯ E.Z2 ⋯ E.Z3 (zq d)))) (z9 (qu d (jF d ⋯ E.Z4 (zS d)) zd) (z9 (zG (zI (zH (jY E) d (za (zB (zS d) zd) zf)))) (jx (zG (zI (zH (jY E) d (za (zB (zS d) zd) zf))))))))) (zg (zt xE)) zD) ?_;refine ze (ja (xl (z9 (qu d (XS (zq d) JG (JF zd)) (XS (zq d) JG (JF zd))) (z9 (zG (zI (jA d ⋯ E.Z2 ⋯ E.Z3 (zB (zS d) zd)))) (jx (qu d (jF d ⋯ E.Z4 (PV.q (zB (zS d) zd))) (zB (zS d) zd)))))) (zg (zt xE)) zD) ?_;exact(zg (zt (vh d ⋯ E.Z6 (PO.q (xn d (mY.c (jX d ⋯ E.Z9 (zB (zS d) zd))) (λ_ _ _ a=>zH (xS E) a (za (zB (PV.q (zB (zS a) zd)) (zq a)) (za (zB (PV.q (zB (zS a) zd)) (zq a)) zf))))))))
theorem vn(E:E0 K mg):mj P w K mg base 2 "_law_table" 5 jC:=
 ka (N:=["_law_script","_law_at","_law_p","_law_high","_law_wide","_law_rows","_law_i","_law_row_here","_law_j","_law_cell"]) E.Qj ⋯ λX B b I a J d z=>by subst B b I a J;exact by refine ze (Jt d (kv (vO zf))) ?_;refine ze (vi z d (jX d ⋯ E.Z9 (zq d)) (by refine ze (Jt d (kv (vO zf))) ?_;refine ze (vi z d (jX d ⋯ E.Z9 (zq d)) (by refine ze (qv d (zH (jj E) d (za (zq d) (za (jJ (jJ (zq d) (qs (zq d) (zq d))) (zq d)) zf)))) ?_;exact(zg (v7 7 d ⋯ (qs (jr (zq d) (zq d)) (KF d ⋯ E.Z1 (W5 (jr (vg (zq d) zd) zd) zd))))))) ?_;exact(zg (v7 5 d ⋯ (jW d ⋯ E.Z3 (zS d)))))) ?_;exact(zg (zt (xk (vO (za (zq d) (za (zq d) (za (jW d ⋯ E.Z3 (zS d)) zf)))))))
theorem kA(E:E0 K mg):mj P w K mg base 1 "_law_ways" 1 qd:=
 ka (N:=["_law_cell","_law_many"]) E.Qk ⋯ λX z e B b I d J=>by subst z e B b I;exact by refine ze (qv d (jr (zq d) zd)) ?_;exact(zg (zt (vX kn (PO.q (xn d (mY.c (jX d ⋯ E.Z9 (zq d))) (λ_ _ _ a=>yv kn (jr (vg (zq a) (zB (PO.q (kv (vO (za zd (za zd (za zd (za zd (za zd zf)))))))) (zq a))) zd)))))))
theorem xG(E:E0 K mg):mj P w K mg base 3 "_law_row" 5 qe:=
 ka (N:=["_law_script","_law_at","_law_p","_law_ways_here","_law_most","_law_widths","_law_arrows","_law_k","_law_sizes"]) E.Ql ⋯ λX z e B b I d J=>by subst z e B b I;exact by refine ze (qv d (jW d ⋯ E.Z3 (PO.q (xn d (mY.c (jX d ⋯ E.Z9 (jJ (Jk d ⋯ E.Z4 (zq d)) zd))) (λ_ _ _ a=>jr (zH (jj E) a (za (zq a) (za (jJ (zq a) (zq a)) zf))) (zq a)))))) ?_;refine ze (Jt d (kv (vO zf))) ?_;refine ze (vi J d (jX d ⋯ E.Z9 (Jk d ⋯ E.Z4 (zq d))) (by refine ze (qv d (xk (vO (za (zB (zS d) (jJ (zq d) zd)) (za (zB (zS d) (zq d)) zf))))) ?_;refine ze (ja (yh d (yv (zq d) (zq d)) kn) (zg (qv d (xk (vO (za (zB (zS d) (zq d)) (za (zB (zS d) (jJ (zq d) zd)) zf)))))) zD) ?_;exact(zg (v7 6 d ⋯ (xk (vO (za (yv (zq d) (zq d)) (za (zH (vn E) d (za (zq d) (za (jJ (jJ (zq d) zd) (qs zd (zq d))) (za (zq d) (za (zB (zS d) zd) (za (zB (zS d) zd) zf)))))) zf)))))))) ?_;exact(zg (zt (xk (vO (za (zq d) (za (zq d) (za (jW d ⋯ E.Z3 (zS d)) zf)))))))
theorem yB(E:E0 K mg):mj P w K mg base 4 "_law_is_row" 2 j0:=
 ka (N:=["_law_found","_law_due","_law_arrow","_law_other"]) E.Qm ⋯ λX z b B a I d J=>by subst z b B a I;exact by refine ze (ja (xl (z9 (zG (zI (jA d ⋯ E.Z2 ⋯ E.Z3 (zq d)))) (z9 (qu d (jF d ⋯ E.Z4 (zS d)) zd) (z9 (zG (zI (zH (jY E) d (za (zB (zS d) zd) zf)))) (jx (qu d (zB (zS d) zd) (zB (zS d) zd))))))) (zg (zt xE)) zD) ?_;refine ze (ja (xl (z9 (zG (zI (zH (xS E) d (za (zB (zS d) zd) (za (zB (zS d) zd) zf))))) (z9 (zG (zI (jA d ⋯ E.Z2 ⋯ E.Z3 (zB (zS d) zd)))) (jx (qu d (jF d ⋯ E.Z4 (PV.q (zB (zS d) zd))) (jF d ⋯ E.Z4 (PV.q (zB (zS d) zd)))))))) (zg (zt xE)) zD) ?_;refine ze (vi J d (YV d ⋯ E.Zb (zB (zS d) zd) (zB (zS d) zd)) (by refine ze (ja (xl (z9 (zG (zI (jA d ⋯ E.Z2 ⋯ E.Z3 (zq d)))) (z9 (qu d (jF d ⋯ E.Z4 (zS d)) zd) (jx (qu d (zB (zS d) zd) (zB (zS d) zd)))))) (zg (zt xE)) zD) ?_;exact(zg (ja (xl (z9 (zG (zI (ve d ⋯ E.Z2 ⋯ E.Za (zB (zS d) zd)))) (jx (zG (zI (zH (kB E) d (za (zB (zS d) zd) (za (zB (zS d) zd) zf)))))))) (zg (zt xE)) zD)))) ?_;exact(zg (zt xE))
theorem k7(E:E0 K mg):p6 P w K mg base 2 "_law_handed" 2 jl:=
 dR (N:=["_law_script","_law_row_here","_law_pairs","_law_k","_law_way","_law_table_here","_law_off"]) E.Qn ⋯ λX z f B e I d J=>by subst z f B e I;exact Y9 2 3 4 5 6 ⋯ ⋯ (JH J) d ⋯ (d.set 2 ⋯ (kv (vO zf))) (jX d ⋯ E.Z9 (jF d ⋯ E.Z4 (PV.q (zB (zS d) zd)))) (d.nI 3 ⋯) (XX (zB (PV.q (zB (zS d) zd)) (zq d)) (d.pZ (jK (d.nI 4 ⋯) (jK (d.nI 5 ⋯) yA))) rfl rfl rfl) (d.set 6 ⋯ (wU (jr (zH (jj E) d (za (zq d) (za (jJ zd (zq d)) zf))) zd) zd)) (KQ 2 d ⋯ (KD (zq d) (xn d (jI (PV.q (zB (zS d) zd))) (λ_ _ _ b=>PO.v (xn b (jI (zS b)) (λ_ _ _ a=>jJ (zq a) (qs (zB (zS a) zd) (zq a))))))))
theorem xR(E:E0 K mg):mj P w K mg base 1 "_law_truth" 2 qo:=
 ka (N:=["_law_found","_law_due"]) E.Qo ⋯ λX z b B a I d J=>by subst z b B a I;exact zg (zt (qt (xD d ⋯ E.Z2 ⋯ E.Z0 (zq d)) (qr (vY d (zq d) (zq d)))))
theorem bS(D:L2.om K "law" "law" (top 40) f fd)(E:E0 K mg):nf P w K mg base nt 6 f fd ["_law_script"] (nG K 1 kT):=
 az (N:=["_law_script","_law_p","_law_ways_here","_law_due","_law_pairs","_law_stay","_law_widths","_law_found","_law_way","_law_rows","_law_far","_law_other","_law_near","_law_like"]) D ⋯ λX z g B e I d J=>by subst z g B e I;exact by refine ze (qv d (zB (PO.q (kv (vO (za zd (za zd (za zd (za zd zf))))))) (jr (zH (jj E) d (za (zq d) (za zd zf))) zd))) ?_;refine ze (qv d (zH (kA E) d (za (zH (jj E) d (za (zq d) (za zd zf))) zf))) ?_;refine ze (qv d (zH (xG E) d (za (zq d) (za zd (za (zq d) (za (zq d) (za zd zf))))))) ?_;exact(Jq 4 5 6 7 8 9 (JH J) d ⋯ ⋯ ⋯ (d.set 4 ⋯ (YU (k7 E) ⋯ d ⋯ (za (zq d) (za (zq d) zf)))) (YS d (jI (zS d)) (λ_ _ _ a=>xk (vO (za (zq a) (za (PO.v (xn a (jI (zS a)) (λ_ _ _ b=>PO.v (v9 b ⋯ E.Z5 (zS b))))) zf))))) (d.set 6 ⋯ (v9 d ⋯ E.Z5 (PV.q (zB (zS d) zd)))) (d.set 7 ⋯ (zH (JL E) d (za (zq d) (za (zq d) (za (zq d) zf))))) (xl (z9 (qu d (zq d) (zq d)) (jx (qu d (zq d) (PO.v (v9 d ⋯ E.Z5 (PV.q (zB (zS d) zd)))))))) xE (d.pZ (jK (d.nI 8 ⋯) (jK (d.nI 9 ⋯) yA))) (by refine ze (ja (xl (z9 (zG (zI (zH (yB E) d (za (zq d) (za (zq d) zf))))) (z9 (qu d (zH (qL E) d (za (zq d) zf)) (zq d)) (jx (zG (zI (ve d ⋯ E.Z2 ⋯ E.Za (zH (qL E) d (za (zq d) zf))))))))) (zg (zt xE)) zD) ?_;refine ze (qv d (zH (kA E) d (za (zH (jj E) d (za (zq d) (za zd zf))) zf))) ?_;refine ze (ja (yh d (jr (vg (zH (jj E) d (za (zq d) (za zd zf))) zd) zd) zd) (zg (qv d (zq d))) zD) ?_;refine ze (qv d (zH (xG E) d (za (zq d) (za zd (za (zB (PO.q (kv (vO (za zd (za zd (za zd (za zd zf))))))) (jr (zH (jj E) d (za (zq d) (za zd zf))) zd)) (za (zq d) (za zd zf))))))) ?_;refine ze (qv d (zH (xG E) d (za (zq d) (za zd (za (zq d) (za (zq d) (za zd zf))))))) ?_;refine ze (qv d (qt (vY d (zq d) (zB (zS d) zd)) (qr (vY d (zq d) (vX kn (PO.q (xn d (jI (PV.q (zB (zS d) zd))) (λ_ _ _ a=>zq a)))))))) ?_;exact(zg (zt (qt (zH (xR E) d (za (zH (kz E) d (za (zq d) (za (zq d) zf))) (za (zq d) zf))) (qr (zH (xR E) d (za (zH (kz E) d (za (zq d) (za (zq d) zf))) (za xE zf)))))))))
end
end DL
namespace PySem.W.Fast
def tw2318261039853057253:=0
def tw15490446804156317361:=0
def tw17412303848486095241:=0
def tw6121504006061688012:=0
def tw15577770536855217039:=0
def tw17349611297770874636:=0
def tw11072751936783045114:=0
def tw10789085263988502758:=0
def tw5513413690068935060:=0
def tw11265826760559869468:=0
def tw3968051233026820581:=0
def tw2674424869640107237:=0
def tw8851406050714679439:=0
def tw10586288454546623130:=0
def tw10830867016801622745:=0
def tw7009129260372649954:=0
def tw14123817236065058882:=0
def tw9788108749650164258:=0
def tw4114107225356194002:=0
def tw4833455209745156039:=0
def tw1325039702459885870:=0
def tw7544157347522794209:=0
def tw12651665551482317019:=0
def tw7543079284853321109:=0
def tw9612657963886000291:=0
def tw1129424860873642965:=0
def tw4179427629345489094:=0
def tw5726767958535476250:=0
def tw784525629840046263:=0
def tw16733516751122463019:=0
def tw13114522762851995835:=0
def tw11074640713474712260:=0
def tw4751918457089026568:=0
def tw14151368425424243371:=0
def tw9994938854104323871:=0
def tw18202607922643603473:=0
def tw11190038256294920493:=0
def tw9312534840502806459:=0
def tw9178720114939446091:=0
def tw3509227856057622179:=0
def tw9294115526811197436:=0
def tw8003004148357168622:=0
def tw10346374517854644789:=0
def tw6284083170005607668:=0
def tw12214036591908791782:=0
def tw14038253029268968066:=0
def tw10883322516691679131:=0
def tw3108403397346518600:=0
def tw2980838076563290370:=0
def tw18371266854259394335:=0
def tw6391808973557093933:=0
def tw952323727617147654:=0
def tw1694183115860593041:=0
def tw9603156942541042472:=0
def tw18109424229154980500:=0
def tw5102356204148772491:=0
def tw6339357422371757750:=0
def tw9073267481023716503:=0
def tw7851781344173534819:=0
def tw4901403547463242395:=0
def tw16361780970187017612:=0
def tw2431652463024599894:=0
def tw11478272520053842996:=0
def tw8557415084927729087:=0
def tw18178009059419203356:=0
def tw16604022846842131374:=0
def tw12738951715960733976:=0
def tw11863546856812085919:=0
def tw15385757364986077388:=0
def tw9463907156613115681:=0
def tw14065821420334868834:=0
def tw17228015226389016291:=0
def tw358172053270078185:=0
def tw2882839397456203607:=0
def tw6249697072299484639:=0
def tw8507615325594244875:=0
def tw9009009392276723113:=0
def tw5896882096207453767:=0
def tw8692471492477850050:=0
def tw197800804877152694:=0
def tw5907623436073120672:=0
def tw6058086360966413273:=0
def tw1452106531368251875:=0
def tw7120115082881235061:=0
def tw14065627370428353660:=0
def tw12254481045222730881:=0
def tw5963084877695275934:=0
def tw2624422830690584329:=0
def tw8791293686548976909:=0
def tw7900830639071506141:=0
def tw4162157422230924399:=0
def tw1059511459650747809:=0
def tw10395634213923504073:=0
def tw4707625589253936180:=0
def tw11815064482437815916:=0
def tw8472068846357032066:=0
def tw6969793234186696112:=0
def tw6298613673955020903:=0
def tw2435822964822216754:=0
def tw5930862634079694722:=0
def tw5892534661257617205:=0
def tw16686744574093073013:=0
def tw5895434988291569477:=0
def tw9929212525169187933:=0
def tw1824461666273859225:=0
def tw10721891300915891861:=0
end PySem.W.Fast
open PySem PySem.W PyProof.Rows
set_option maxRecDepth 100000 in
set_option maxHeartbeats 0 in
theorem PySem.Challenge.cw_barsplit_k10_rows_made_holds : PySem.Challenge.rw_barsplit_k10_rows_made.Holds := by
 w_on;o_law;k_head;(case hw=>w_witness2)
 k_fill
 refine L2.VW (l:=ig) (n:=63) (k:=6) (x:="_law_script") (CX:=L2.nt) (sp:=λK=>DL.nG K 1 DL.kT) rfl ⋯ rfl ⟨rfl,by decide,by decide⟩ (λw h Y=>PySem.W.kIn_of Y) ?F ?S ?C
 case S=>exact λK H a ns B U I=>DL.Wg I (DL.ag ns B)
 case C=>exact λ_ _ _ _ z=>z
 case F=>
  intro w mg fa h d G J;have a0:DL.GL (L2.nh d) mg "MOST_HIGH_OR_WIDE" (.int 30):=by
   dsimp only[L2.nh];refine' DL.bT d G ?a
   (case a=>k_is)
  have a1:DL.GL (L2.nh d) mg "MOST_ROOMS" (.int 6):=by
   dsimp only[L2.nh];refine' DL.bT d G ?a
   (case a=>k_is)
  have a2:DL.GL (L2.nh d) mg "MOST_TOGETHER" (.int 30):=by
   dsimp only[L2.nh];refine' DL.bT d G ?a
   (case a=>k_is)
  have a3:DL.GL (L2.nh d) mg "PRIMES" (.tup [.int 2,.int 3,.int 5,.int 7]):=by
   dsimp only[L2.nh];refine' DL.au [2,3,5,7] d G ?a ?l ?v ?z
   (case a=>k_is);(case l=>k_is);(case v=>rfl);(case z=>decide)
  have a4:DL.GL (L2.nh d) mg "WAYS" (.tup [.str "r",.str "l"]):=by
   dsimp only[L2.nh];refine' DL.aq ["r","l"] d G ?a ?l ?v ?z
   (case a=>k_is);(case l=>k_is);(case v=>rfl);(case z=>decide)
  have E:DL.E0 (L2.nh d) mg:=by
   constructor
   all_goals first
    | assumption
    | exact PySem.W.mg_none_of d G (by k_is)
    | (dsimp only[L2.nh];refine' DL.bY d G ?a ?l ?c ?k ?b;(case a=>k_is);(case l=>k_is);(case c=>k_is);(case k=>k_is);(case b=>intro _ _ _ _ _ _ us B;first | (obtain⟨_,rfl⟩:=DL.eK B;rfl) | (obtain⟨_,_,rfl⟩:=DL.eJ B;rfl) | (obtain⟨_,_,_,rfl⟩:=DL.eI B;rfl) | (obtain⟨_,_,_,_,rfl⟩:=DL.eH B;rfl) | (obtain⟨_,_,_,_,_,rfl⟩:=DL.eG B;rfl)))
  obtain⟨f,fd,M,O,hm⟩:=E.Qp.ex;have R:=J.symm.trans hm;cases R;refine⟨fd,λs u=> .of_eq (O [u] rfl),λbase kb nb=>?_⟩;exact DL.bS M E
