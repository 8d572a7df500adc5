import PyProof.Rows.All
import Wide.All
import OpenK.AllK
import Wide.FinOn
import Lean
import PyProof.EqAt
import PyProof.EqKinds
import PyProof.TupleCall
import PySem.Str
import PyProof.ZipIter
import PyProof.IsiBase
import KE.KItemsList
import KE.KIsAll
import OpenK.KOwn
import KE.KSortAsk
import PyProof.StrBlockI
import PyProof.Rows.EqDataRows
import PyProof.Rows.InDataRows
import PyProof.SumWalkG
import PyProof.ConsumeWalk
import PyProof.WalksMore
import KE.KSortTup
import PyProof.ListMulRoad
import PyProof.EnumFor
import PyProof.Rows.EnumRows
import PyProof.StrBlockL
import PyProof.JoinWalk
import PyProof.NsDelKeeps
import KE.KTryDeep
import PyProof.InstStoreFacts
import PyProof.NsCount
import PyProof.ExcClass2
import PyProof.Rows.FStr
import PyProof.StationsW
import PyProof.Rows.Catch
import KE.KRevIter
import PyProof.CollectIter
import PyProof.TupleOfGen
import PyProof.Rows.Tup
import PyProof.Draws
import PyProof.EnumMake
import PyProof.StrWalks
import PyProof.SliceStr2
import PyProof.ListNew
import KE.KDictOf
import PyProof.ListRange
import PyProof.Rows.GenSrcRange
import PyProof.ListCopy
import PyProof.AttrMissHeap
import PyProof.DictWalks
import PyProof.FactsDict
import KE.KSortKey
import PyProof.TableCode
import PyProof.Rows.KernelRfl
import PySem.Challenge.RW_barsplit_k21_carried_along_a_row
open PySem.W renaming Frag → rH, findIn → sD, keepIn → sQ, kia_one → sZ, mg_none_of → tE, fnOf → ue, kitOne → uw, emptyDict → uE, codeIn → uY, instObj → uZ, nsIn → Ap, plainGet → Az, isFn → AB, mroIn → AH, cellsFrom_some → AL, specialIn → AO, hasDictIn → AQ, typeIn → Bk, plainOver → Bp, mg_of → By, makesIn → BH, lookIn → BL, plainGet_of → BR, callWith_K → BW, methodObj → Cg, kitx_list → Ci, kitx_dict → Cj
open PySem.Challenge renaming rw_barsplit_k21_carried_along_a_row → rJ
open PySem renaming wpAny_bind → rK, wpAny_pure → rS, wpAny_newObj_type → ui, wpAny_callSpecial?_slot → uv, wpAny_call_entry → uA, wpAny_holding → uD, wpAny_field → uO, wpAny_truthy_bool → uW, wpAny_Call_Name_kw → Ab, wpAny_typeNameOfWhole_keyiter → Ar, wpAny_seqItems → As, mem_of_lookup → AC, Builtin → AK, wpAny_mono → AS, wpAny_setField_rec → AZ, wpAny_loadPart' → Ba, wpAny_attempt → Bo, wpAny_passesOwn → Bv, pushCells_keeps → Bx, call_meets → BJ, sizeLine_eq → BQ, codeAny_mono → Cd, wpAny_updateSeq_pair → Co, wpAny_setField → Cq, Within → Cr, wpAny_standAt → CF, wpAny_onRaise → CG, wpAny_rule → CJ, wpAny_dictEntries → CK, wpAny_typeOf → CN, concat_meets → CP, noFill_tuple_add → CQ
open Option renaming bind_some → rL, map_some → sj, some → tG, bind → uT, isSome_iff_exists → Aa, map_eq_some_iff → Al, map → Bs
open PySem.Heap renaming get?_push_of_some → rM, lt_size → sg, get?_push_size → sh, push → uk, size_push → uq, SameBut → Ah, get?_push_ne → BD, get?_update_self → BN, size_update → CD
open List renaming getElem?_eq_getElem → rN, range → rO, getElem?_eq_some_iff → rP, getElem?_cons_zero → rQ, getElem?_cons_succ → rR, getD_eq_getElem?_getD → rT, mem_range → rV, getElem?_set_ne → rW, mem_cons_self → rX, replicate → rY, size_toArray → rZ, mem_cons_of_mem → sd, map_congr_left → sf, mem_cons → si, getElem?_map → sk, mem_of_getElem? → sy, length_map → sC, map_cons → sJ, getElem?_set_self → sM, length_cons → sP, eq_nil_of_length_eq_zero → sS, mem_filter → sT, set_cons_zero → sV, set_cons_succ → sW, all_eq_true → sX, getElem?_append_left → sY, length_range → tf, not_mem_nil → tq, getElem?_append_right → tw, mem_singleton → tK, length_append → tM, lookup_cons → ua, mem_append_right → ub, map_append → uf, map_map → uh, nodup_cons → ux, map → uy, replicate_succ → uH, drop_eq_getElem_cons → uK, range_succ → uN, range_eq_range' → uQ, mem_map → uS, length_set → uV, flatten_cons → Ae, ext_getElem? → Af, getElem?_range → Aj, range'_succ → Am, mem_append → Au, length_singleton → Av, getElem?_eq_none → Aw, length_take → AD, drop_length → AE, lookup → AG, getElem?_replicate → AM, take_of_length_le → AW, length → AX, getElem?_of_mem → Be, range' → Bh, length_nil → Bi, append_nil → Bj, getElem_range → Br, any_eq_false → BC, forIn_cons → BM, mem_iff_getElem → BV, range_add → BY, forIn_nil → BZ, filterMap_cons → Cc, append_assoc → Cs, toArray → Cv, getElem_mem → Cz
open Nat renaming le_refl → se, lt_of_lt_of_le → su, not_lt_zero → sv, ne_of_lt → sF, lt_succ_of_lt → tJ, le_trans → tP, zero_le → tZ, lt_or_ge → ud, le_add_right → ug, lt_irrefl → uz, lt_succ_self → uC, zero_add → uP, ne_of_gt → Ai, add_sub_cancel_left → Ak, pow_le_pow_right → AA, pow_le_pow_left → AI, le_of_lt → BS, le_succ_of_le → Cu, mul_comm → Cy
open Int renaming mul_emod → so, add_emod → sA, emod_lt_of_pos → sG, emod_nonneg → sU, toNat_natCast → tm, emod_emod → tD, eq_ofNat_of_zero_le → tW, emod_eq_of_lt → Ax, add_zero → Bb, mul_zero → Bu, sub_emod → BU, mul_one → Ck, mul_add → Cm, mul_comm → CB
open Bool renaming and_eq_true → sr, false_ne_true → tj, or_eq_true → uo, false_eq_true → AN, not_eq_true' → BE, eq_iff_iff → BO
open Option.some renaming inj → sH
open PySem.Value renaming ref → sN, none → tH, type → AF, int → Ce, bool → Cp
open PySem.NameKind renaming free → sO, cell → Ad
open PySem.Builtin.SmallTypes renaming nextOf → tF, ownedTupleIsFree → uM, ownedTupleHandOut → Bl
open PyProof.Rows renaming callWith_type1 → tX, slot_tuple_getitem → uj, callWith_builtin1 → AJ, boot_list → Bm, slot_tupleiter_next → Bw, tupleItemsOf_ → BP, boot_isinstance → BX
open True renaming intro → uc
open Ne renaming symm → uu
open PySem.Str renaming ofString → uB
open PySem.Builtin.Tuple renaming tupleExact → uF, tupleIsExact → An
open Array renaming length_toList → uG, getElem?_toList → BK
open PySem.Obj renaming mapSeq → uJ, data_mapFields → Bt
open PySem.F renaming slot_dict_keyiterator_next → uU, slot_tuple_mul → Bg, args_tuple_add_2 → Bq, plainAttrs_list → Bz, entry_tuple_add → BA, slot_tuple_add → BF, slot_zip_next → Ca, args_tuple_mul_2 → Cw, entry_tuple_mul → CH, args_dict_keyiterator_next_1 → CI, entry_dict_keyiterator_next → CM
open Classical renaming byContradiction → uX
open False renaming elim → Ac
open PySem.PyData renaming depth → Ag, eqv → AU, canLay0 → AV, eqvAll → Cb, canLayAll0 → Cn
open PySem.Calls renaming spliced_cons → Ao, spliced_nil → BB
open PySem.Builtin.Slice renaming slicePlaces → Aq, sliceAdjust → Bd
open PySem.Builtin.Range renaming rangeSize → Ay
open PySem.Heap.SameBut renaming update → AY
open Eq renaming trans → Bc
open PySem.Builtin.List renaming listTooLong → Bf
open Function renaming comp_def → Bn
open ForInStep renaming yield → BG
open PySem.Builtin.Dict_items renaming ownsTuple → BI
open Sum renaming inl → Cf, inr → Ct
local macro_rules | `(⋯) => `(by first | decide +kernel | omega | simp)
noncomputable section
set_option Elab.async false
set_option linter.all false
set_option maxRecDepth 100000
set_option maxHeartbeats 4000000
namespace L2
open PySem PySem.Spec PyProof.Rows
abbrev Key:=Sum Int Str
def iH:Key->Value->Bool
 | .inl k,v=>Value.isInt k v
 | .inr x,v=>Value.isStrOf x v
def rj(w:World):Key->Int
 | .inl k=>hashInt k
 | .inr x=>hashStr w x
theorem jC : ∀{k:Key} {v:Value},iH k v=true->(∃i t,k=Cf i/\v=Ce i t)\/(∃x t,k=Ct x/\v=Value.str x t)
 | .inl i,v,h=>by
  obtain⟨t,e⟩:=Value.isInt_shape (k:=i) (v:=v) h;exact .inl ⟨i,t,rfl,e⟩
 | .inr x,v,h=>by
  obtain⟨t,e⟩:=Value.isStrOf_shape (x:=x) (v:=v) h;exact .inr ⟨x,t,rfl,e⟩
theorem iG(a b:Int):decide ((Cf a:Key)=Cf b)=(a==b):=by
 by_cases e:a=b
 ·subst e;simp
 ·have h : ¬(Cf a:Key)=Cf b:=λq=>e (Cf.inj q)
  rw [decide_eq_false h];exact(beq_eq_false_iff_ne.mpr e).symm
theorem iD(a b:Str):decide ((Ct a:Key)=Ct b)=decide (a=b):=by
 by_cases e:a=b
 ·subst e;simp
 ·have h : ¬(Ct a:Key)=Ct b:=λq=>e (Ct.inj q)
  rw [decide_eq_false h,decide_eq_false e]
theorem iF(a:Int)(b:Str):decide ((Cf a:Key)=Ct b)=false:=decide_eq_false (λq=>nomatch q)
theorem iE(a:Str)(b:Int):decide ((Ct a:Key)=Cf b)=false:=decide_eq_false (λq=>nomatch q)
def Qq(prog:Program)(w:World):PySem.KeyKind prog w Key where
 is:=iH
 hash:=rj w
 inj:=λv a b ha I=>by
  rcases jC ha with⟨i,t,rfl,rfl⟩ | ⟨x,t,rfl,rfl⟩
  ·rcases jC I with⟨j,u,rfl,e⟩ | ⟨y,u,rfl,e⟩
   ·injection e with e1 _;rw [e1]
   ·exact nomatch e
  ·rcases jC I with⟨j,u,rfl,e⟩ | ⟨y,u,rfl,e⟩
   ·exact nomatch e
   ·injection e with e1 _;rw [e1]
 byValue:=λk v h=>by
  rcases jC h with⟨i,t,rfl,rfl⟩ | ⟨x,t,rfl,rfl⟩<;>rfl
 pyHash:=λz h=>by
  rcases jC z with⟨i,t,rfl,rfl⟩ | ⟨x,t,rfl,rfl⟩
  ·exact wpAny_pyHash_int h
  ·exact wpAny_pyHash_str h
 eqBool:=λJ z h=>by
  rcases jC J with⟨i,t,rfl,rfl⟩ | ⟨x,t,rfl,rfl⟩
  ·rcases jC z with⟨j,u,rfl,rfl⟩ | ⟨y,u,rfl,rfl⟩
   ·rw [iG]at h;exact wpAny_eqBool_int h
   ·rw [iF]at h;exact SeqAt.EqAt.int_str i t y u _ _ _ _ h
  ·rcases jC z with⟨j,u,rfl,rfl⟩ | ⟨y,u,rfl,rfl⟩
   ·rw [iE]at h;exact SeqAt.EqAt.str_int x t j u _ _ _ _ h
   ·rw [iD]at h;exact wpAny_eqBool_str h
 «strs» :=λk x t v h=>by
  rcases jC h with⟨i,u,rfl,e⟩ | ⟨y,u,rfl,e⟩
  ·exact nomatch e
  ·injection e with e1 _
   subst e1;cases v<;>rfl
inductive V where
 | non | bl (b:Bool) | int (i:Int) | str (x:Str) | byt (b:Array UInt8) | flt (b:UInt64) | ref (a:Addr) | ty (n:String)
 deriving DecidableEq
def RelV:V->Value->Prop
 | .non,u=>u=tH
 | .bl b,u=>u=Cp b
 | .int i,u=>∃t,u=Ce i t
 | .str x,u=>∃t,u=Value.str x t
 | .byt b,u=>∃t,u=Value.bytes b t
 | .flt b,u=>∃t,u=Value.float b t
 | .ref a,u=>u=sN a
 | .ty n,u=>u=AF n
abbrev Vals:List V->List Value->Prop:=Paired RelV
theorem Vals.length{xs:List V}{us:List Value}(r:Vals xs us):xs.length=us.length:=Paired.length r
theorem Vals.get : ∀{xs:List V} {us:List Value} {i:Nat} {x:V},Vals xs us->xs[i]? = some x->∃u,us[i]? = some u/\RelV x u
 | _,_,_,_,.nil,e=>by simp at e
 | _,_,0,_,.cons r _,e=>by simp at e;subst e;exact⟨_,rfl,r⟩
 | _,_,i+1,x,.cons _ t,e=>by
  obtain⟨u,h1,h2⟩:=Vals.get (i:=i) (x:=x) t (by simpa using e);exact⟨u,by simpa using h1,h2⟩
theorem Vals.set{x:V}{u:Value}(r:RelV x u) : ∀{xs:List V} {us:List Value} (i:Nat),Vals xs us->Vals (xs.set i x) (us.set i u)
 | _,_,_,.nil=> .nil
 | _,_,0,.cons _ t=> .cons r t
 | _,_,i+1,.cons q t=> .cons q (Vals.set r i t)
theorem Vals.append : ∀{xs ys:List V} {us z:List Value},Vals xs us->Vals ys z->Vals (xs++ys) (us++z)
 | _,_,_,_,.nil,s=>s
 | _,_,_,_,.cons r t,s=> .cons r (Vals.append t s)
theorem Vals.take : ∀{xs:List V} {us:List Value} (n:Nat),Vals xs us->Vals (xs.take n) (us.take n)
 | _,_,0,_=> .nil
 | _,_,_+1,.nil=> .nil
 | _,_,n+1,.cons r t=> .cons r (Vals.take n t)
theorem Vals.drop : ∀{xs:List V} {us:List Value} (n:Nat),Vals xs us->Vals (xs.drop n) (us.drop n)
 | _,_,0,r=>r
 | _,_,_+1,.nil=> .nil
 | _,_,n+1,.cons _ t=>Vals.drop n t
def RelO:Option V->Option Value->Prop
 | some v,some u=>RelV v u
 | none,none=>True
 | _,_=>False
def KV{κ:Type}:List (κ×V)->List (κ×Value)->Prop:=Paired λ(p:κ×V) (q:κ×Value)=>p.1=q.1/\RelV p.2 q.2
def kV:Key->V
 | .inl i=> .int i
 | .inr x=> .str x
inductive HO where
 | lst (xs:List V)
 | tup (xs:List V)
 | dK (kvs:List (Key×V)) | dT (kvs:List (List Key×V))
 | set (S:Int->Bool) (n:Nat)
 | ins (C dx:Addr) (fs:List (Str×V))
 | own (x:Addr)
 | xd (fs:List (Str×V))
 | met (f x:Addr)
 | rng (lo hi:Int)
 | frz (o:Obj) (u:HO)
 | tbl (ps:Array Value)
 | ext (φ:Heap->Prop)
abbrev Hp:=Addr->Option HO
def upd(H:Hp)(a:Addr)(o:HO):Hp:=λb=>if b=a then some o else H b
theorem zw{H:Hp}{a:Addr}{o:HO}:upd H a o a=some o:=by unfold upd;rw [if_pos rfl]
theorem zz{H:Hp}{a b:Addr}{o:HO}(h:b≠a):upd H a o b=H b:=by unfold upd;rw [if_neg h]
theorem J8{H:Hp}{a:Addr}{o u:HO}:upd (upd H a o) a u=upd H a u:=by
 funext b;unfold upd;split<;>rfl
theorem jz{H:Hp}{a b:Addr}{o:HO}(h:H a=some o)(h':H b=none):a≠b:=by
 intro e;subst e;rw [h]at h';cases h'
def IsTupD(h:Heap)(a:Addr)(z:Array Value):Prop:=∃o,h.get? a=some o/\(o.cls,o.dict)=(AF "tuple",none)/\∃n,o.data = .seq z n
theorem IsTupD.new(h:Heap)(z:Array Value):IsTupD (h.push {cls:= .type "tuple",data:= .seq z}) h.objs.size z:=⟨_,sh _ rfl,rfl,_,rfl⟩
theorem IsTupD.tup{h:Heap}{a:Addr}{z:Array Value}(x:IsTupD h a z):IsTup h a z:=let ⟨o,e,c,r⟩:=x;⟨o,e,(Prod.mk.inj c).1,r⟩
section
variable(P:Program)(w:World)
def ObjOk(H:Hp)(h:Heap)(a:Addr):HO->Prop
 | .lst xs=>xs.length<=sizeLine/\∃(z:List Value) (n:Nat),Vals xs z/\h.get? a=some {cls:= .type "list",data:= .seq z.toArray n}
 | .tup xs=>xs.length<=sizeLine/\∃z:List Value,Vals xs z/\IsTupD h a z.toArray
 | .dK kvs=>kvs.length<=sizeLine/\(a==sysModules)=false/\∃vs,KV kvs vs/\h.DictOf (Qq P w) a vs
 | .dT kvs=>kvs.length<=sizeLine/\(a==sysModules)=false/\∃xs:List (List Key×Addr×Value),
  Paired (λ(p:List Key×V) (q:List Key×Addr×Value)=>p.1=q.1/\H q.2.1=some (.tup (p.1.map kV))/\RelV p.2 q.2.2) kvs xs/\
  ∃o es ep,h.get? a=some o/\o.ExactDict/\o.data = .dict es ep/\es.toList=xs.map (entryOfKey (tupleKind (Qq P w)))/\(xs.map (·.1)).Nodup
 | .set S n=>h.SetOf (intKind P w) a S n
 | .ins C dx fs=>H dx=some (.own a)/\fs.length<=1000/\dx≠a/\h.get? a=some (uZ C dx)/\
  ∃mA,h.Ns1 dx mA/\(∀f,RelO (fs.lookup f) (mA f))/\Cr mA (fs.map (·.1))
 | .own _=>∃o,h.get? a=some o
 | .xd fs=>∃mA,h.Ns1 a mA/\∀f,RelO (fs.lookup f) (mA f)
 | .rng lo hi=>∃t u v,h.get? a=some {cls:= .type "range",data:= .fields #[.int lo t,.int hi u,.int 1 v]}
 | .frz o u=>h.get? a=some o/\ObjOk H h a u
 | .tbl ps=>h.get? a=some {cls:= .none,data:= .fields ps}
 | .met f x=>h.get? a=some (Cg (.ref f) (.ref x))
 | .ext φ=>φ h/\(∃o,h.get? a=some o)/\∀h1 h2:Heap,φ h1->(∀o,h1.get? a=some o->h2.get? a=some o)->φ h2
def HOk(H:Hp)(h:Heap):Prop:=∀a o,H a=some o->ObjOk P w H h a o
end
section
variable{P:Program}{w:World}{H H':Hp}{h h':Heap}{a:Addr}{o:HO}
theorem ObjOk.lt(x:ObjOk P w H h a o):a<h.objs.size:=by
 cases o with
 | lst xs=>obtain⟨_,_,_,_,e⟩:=x;exact sg e
 | tup xs=>obtain⟨_,_,_,p⟩:=x;exact p.tup.lt
 | dK kvs=>obtain⟨_,_,_,_,o,_,_,e,_⟩:=x;exact sg e
 | dT kvs=>obtain⟨_,_,_,_,o,_,_,e,_⟩:=x;exact sg e
 | set S n=>obtain⟨o,_,_,_,e,_⟩:=x;exact sg e
 | ins C dx fs=>obtain⟨_,_,_,e,_⟩:=x;exact sg e
 | own y=>obtain⟨_,e⟩:=x;exact sg e
 | xd fs=>obtain⟨_,⟨_,_,_,e,_⟩,_⟩:=x;exact sg e
 | rng lo hi=>obtain⟨_,_,_,e⟩:=x;exact sg e
 | frz z u=>obtain⟨e,_⟩:=x;exact sg e
 | tbl ps=>exact sg (show h.get? a=some _ from x)
 | met f y=>exact sg (show h.get? a=some _ from x)
 | ext φ=>obtain⟨_,⟨_,e⟩,_⟩:=x;exact sg e
theorem Paired.mapP{α β:Type}{F G:α->β->Prop} : ∀{z:List α} {I:List β},Paired F z I->(∀a b,F a b->G a b)->Paired G z I
 | _,_,.nil,_=> .nil
 | _,_,.cons r t,f=> .cons (f _ _ r) (Paired.mapP t f)
theorem ObjOk.stay(x:ObjOk P w H h a o)(k : ∀b u,(b=a\/H b=some (.own a))->h.get? b=some u->h'.get? b=some u)
 (M : ∀b,H b=some (.own a)->H' b=some (.own a)) (O : ∀b xs,H b=some (.tup xs)->H' b=some (.tup xs)):ObjOk P w H' h' a o:=by
 induction o with
 | lst xs=>obtain⟨z,J,n,r,e⟩:=x;exact⟨z,J,n,r,k _ _ (.inl rfl) e⟩
 | tup xs=>obtain⟨z,J,r,I,e,c⟩:=x;exact⟨z,J,r,I,k _ _ (.inl rfl) e,c⟩
 | dK kvs=>obtain⟨z,y,vs,r,I,es,ep,e,c⟩:=x;exact⟨z,y,vs,r,I,es,ep,k _ _ (.inl rfl) e,c⟩
 | dT kvs=>
  obtain⟨z,y,xs,r,I,es,ep,e,c⟩:=x;exact⟨z,y,xs,Paired.mapP r λp q z=>⟨z.1,O _ _ z.2.1,z.2.2⟩,I,es,ep,k _ _ (.inl rfl) e,c⟩
 | set S n=>obtain⟨I,es,ep,t,e,c⟩:=x;exact⟨I,es,ep,t,k _ _ (.inl rfl) e,c⟩
 | ins C dx fs=>
  obtain⟨d,z,ne,e,mA,⟨od,es,ep,e2,c⟩,r⟩:=x;exact⟨M _ d,z,ne,k _ _ (.inl rfl) e,mA,⟨od,es,ep,k _ _ (.inr d) e2,c⟩,r⟩
 | own y=>obtain⟨I,e⟩:=x;exact⟨I,k _ _ (.inl rfl) e⟩
 | xd fs=>obtain⟨mA,⟨od,es,ep,e,c⟩,r⟩:=x;exact⟨mA,⟨od,es,ep,k _ _ (.inl rfl) e,c⟩,r⟩
 | rng lo hi=>obtain⟨t,u,v,e⟩:=x;exact⟨t,u,v,k _ _ (.inl rfl) e⟩
 | frz I u Y=>obtain⟨e,q⟩:=x;exact⟨k _ _ (.inl rfl) e,Y q⟩
 | tbl ps=>
  have e:h.get? a=some {cls:= .none,data:= .fields ps}:=x;show h'.get? a=some {cls:= .none,data:= .fields ps};exact k a _ (.inl rfl) e
 | met f y=>
  have e:h.get? a=some (Cg (.ref f) (.ref y)):=x;show h'.get? a=some (Cg (.ref f) (.ref y));exact k a _ (.inl rfl) e
 | ext φ=>obtain⟨p,⟨o,e⟩,st⟩:=x;exact⟨st _ _ p λo q=>k _ _ (.inl rfl) q,⟨o,k _ _ (.inl rfl) e⟩,st⟩
theorem HOk.lt(x:HOk P w H h)(e:H a=some o):a<h.objs.size:=(x a o e).lt
theorem HOk.fresh(x:HOk P w H h)(e:h.objs.size<=a):H a=none:=by
 cases q:H a with
 | none=>rfl
 | some u=>exact absurd (su (x.lt q) e) (uz _)
theorem HOk.kept(x:HOk P w H h)(k : ∀b u,h.get? b=some u->h'.get? b=some u):HOk P w H h':=λa o e=>
 (x a o e).stay (λb u _ q=>k b u q) (λ_ q=>q) λ_ _ q=>q
theorem HOk.laid(x:HOk P w H h)(k : ∀b u,h.get? b=some u->h'.get? b=some u)(I:h.objs.size<=a)(new:ObjOk P w (upd H a o) h' a o):HOk P w (upd H a o) h':=λb u e=>by
 have hn:=x.fresh I;by_cases z:b=a
 ·subst z;rw [zw]at e;cases e;exact new
 ·rw [zz z]at e
  exact(x b u e).stay (λc v _ q=>k c v q) (λc q=>by rw [zz (jz q hn)];exact q) λc xs q=>by rw [zz (jz q hn)];exact q
end
def Rd(H:Hp)(a:Addr)(u:HO):Prop:=H a=some u\/∃o,H a=some (.frz o u)
theorem Rd.ok{P:Program}{w:World}{H:Hp}{h:Heap}{a:Addr}{u:HO}(r:Rd H a u)(x:HOk P w H h):ObjOk P w H h a u:=by
 rcases r with r | ⟨o,r⟩
 ·exact x a u r
 ·obtain⟨_,q⟩:=x a _ r
  exact q
def Mut:Option HO->Prop
 | some (.lst _)=>True
 | some (.dK _)=>True
 | some (.dT _)=>True
 | some (.set _ _)=>True
 | some (.ins _ _ _)=>True
 | some (.ext _)=>True
 | _=>False
section
variable{P:Program}{w:World}{H:Hp}{h h':Heap}{x e:Addr}{o':HO}
theorem HOk.write(ok:HOk P w H h)(I:Mut (H x))(he:e=x\/H e=some (.own x))(k : ∀b u,b≠e->h.get? b=some u->h'.get? b=some u)(a1 : ∃u,h'.get? e=some u)
 (new:ObjOk P w (upd H x o') h' x o'):HOk P w (upd H x o') h':=λb u q=>by
 have Y : ∀c y,H c=some (.own y)->c≠x:=λc y r z=>by subst z;rw [r]at I;exact I
 have a2 : ∀c xs,H c=some (.tup xs)->c≠x:=λc xs r z=>by subst z;rw [r]at I;exact I
 by_cases J:b=x
 ·subst J;rw [zw]at q;cases q;exact new
 ·rw [zz J]at q
  by_cases M:b=e
  ·have q':H b=some (.own x):=by
    rcases he with z | z
    ·exact absurd (M.trans z) J
    ·rw [M];exact z
   rw [q]at q';cases q';obtain⟨v,hv⟩:=a1;exact⟨v,by rw [M];exact hv⟩
  ·refine(ok b u q).stay (λc v O r=>k c v ?_ r) (λc r=>by rw [zz (Y c b r)];exact r) λc xs r=>by rw [zz (a2 c xs r)];exact r
   rcases O with rfl | O
   ·exact M
   ·rintro rfl
    rcases he with z | z
    ·exact Y c b O z
    ·rw [O]at z;cases z;exact J rfl
end
structure Un(fs ex:List Addr)(H H':Hp)(h h':Heap):Prop where
 keep : ∀b o,h.get? b=some o->H b=none->b∉fs->b∉ex->h'.get? b=some o
 slot : ∀b o,h.get? b=some o->H b=none->b∈fs->b∉ex->∃sl,h'.get? b=some {o with slots:=sl}
 free : ∀b o,h.get? b=some o->H b=none->b∉ex->H' b=none
 there : ∀b o,h.get? b=some o->b∉ex->∃o',h'.get? b=some o'
 tups : ∀b xs,H b=some (.tup xs)->H' b=some (.tup xs)
 frzs : ∀b o u,H b=some (.frz o u)->H' b=some (.frz o u)
 tbls : ∀b ps,H b=some (.tbl ps)->∃more,H' b=some (.tbl (ps++more))
section
variable{fs fs' ex ex':List Addr}{H H1 H2:Hp}{h h1 h2 h':Heap}{a x e:Addr}{o:HO}
theorem Un.any(u:Un fs ex H H1 h h1){b:Addr}{z:Obj}(q:h.get? b=some z)(n:H b=none)(I:b∉ex) : ∃sl,h1.get? b=some {z with slots:=sl}:=by
 by_cases J:b∈fs
 ·exact u.slot b z q n J I
 ·exact⟨z.slots,u.keep b z q n J I⟩
theorem Un.kept(k : ∀b u,h.get? b=some u->h'.get? b=some u):Un fs ex H H h h':=
 ⟨λb z q _ _ _=>k b z q,λb z q _ _ _=>⟨z.slots,k b z q⟩,λ_ _ _ n _=>n,λb z q _=>⟨z,k b z q⟩,λ_ _ q=>q,λ_ _ _ q=>q,λ_ ps q=>⟨#[],by rw [q];simp⟩⟩
theorem Un.refl:Un fs ex H H h h:=Un.kept λ_ _ q=>q
theorem Un.laid(k : ∀b u,h.get? b=some u->h'.get? b=some u)(z:h.objs.size<=a)(hn:H a=none):Un fs ex H (upd H a o) h h' where
 keep:=λb u q _ _ _=>k b u q
 slot:=λb u q _ _ _=>⟨u.slots,k b u q⟩
 free:=λb u q n _=>by rw [zz (sF (su (sg q) z))];exact n
 there:=λb u q _=>⟨u,k b u q⟩
 tups:=λb xs q=>by rw [zz (jz q hn)];exact q
 frzs:=λb u xs q=>by rw [zz (jz q hn)];exact q
 tbls:=λb ps q=>⟨#[],by rw [zz (jz q hn),q];simp⟩
theorem Un.write(I:Mut (H x))(he:e=x\/H e=some (.own x))(k : ∀b u,b≠e->h.get? b=some u->h'.get? b=some u)(Y : ∃u,h'.get? e=some u):Un fs ex H (upd H x o) h h':=by
 have J : ∀b,H b=none->b≠x:=λb n z=>by subst z;rw [n]at I;exact I
 have M : ∀b,H b=none->b≠e:=λb n z=>by
  subst z;rcases he with r | r
  ·exact J b n r
  ·rw [n]at r;cases r
 have hm : ∀b u,H b=some u->¬Mut (some u)->b≠x:=λb u q nm z=>by subst z;rw [q]at I;exact nm I
 refine⟨λb u q n _ _=>k b u (M b n) q,λb u q n _ _=>⟨u.slots,k b u (M b n) q⟩,λb u q n _=>by rw [zz (J b n)];exact n,λb u q _=>?_,
  λb xs q=>by rw [zz (hm b _ q λz=>z)];exact q,λb u xs q=>by rw [zz (hm b _ q λz=>z)];exact q,λb ps q=>⟨#[],by rw [zz (hm b _ q λz=>z),q];simp⟩⟩
 by_cases O:b=e
 ·subst O;exact Y
 ·exact⟨u,k b u O q⟩
end
def trk(h:Heap)(H:Hp):List Addr:=(rO h.objs.size).filter λa=>(H a).isSome
def W6(h:Heap)(H:Hp):Heap:=PySem.W.hideAll h (trk h H)
theorem Y7(h:Heap)(H:Hp):(W6 h H).objs.size=h.objs.size:=PySem.W.hideAll_size _ _
theorem W5{h:Heap}{H:Hp}{b:Addr}{o:Obj}(e:h.get? b=some o)(n:H b=none):(W6 h H).get? b=some o:=
 PySem.W.hideAll_get _ e λhm=>by
  have q:(H b).isSome=true:=(sT.mp hm).2;rw [n]at q;simp at q
theorem dO{h:Heap}{H:Hp}{b:Addr}{o:Obj}(e:(W6 h H).get? b=some o):h.get? b=some o/\H b=none:=by
 have I:h.get? b=some o:=PySem.W.of_hideAll (trk h H) e;refine⟨I,?_⟩;cases q:H b with
 | none=>rfl
 | some x=>
  have hm:b∈trk h H:=sT.mpr ⟨rV.mpr (sg I),by simp [q]⟩;have z:(W6 h H).get? b=none:=PySem.W.hideAll_none (trk h H) hm;rw [z]at e;cases e
def fw(g h:Heap)(L:Addr):List (Addr×Obj):=(rO h.objs.size).filterMap λa=>if a=L\/(g.get? a).isSome=true then none else (h.get? a).map λo=>(a,o)
def jV(g h:Heap)(L d:Addr):List (Addr×Obj):=(fw g h L).filter λp=>decide (p.1≠d)
structure Mod(K:rH)(mg:Str->Option Value)(base:Heap):Prop where
 kin:K.In base
 glob:base.Ns mainGlobals mg
 blt : ∃mb,base.Ns builtinsNs mb/\∀x:Str,x ≠ "__name__"->mb x=bootBuiltins x
 nolimit:base.NoLimit
structure Cx where
 prog:Program
 w:World
 K:rH
 mg:Str->Option Value
 base:Heap
 A:Around
 N:List Str
 s₀:Shared
 H₀:Hp
 env:Env
 outer:List Env
 stack:List Env
 ex:List Addr
 fn:Str->Bool
 calm:Bool
 pn:List (Addr×Obj)
 xe:Value->Shared->Prop
def frs(l:List Env):List Addr:=l.filterMap (·.frame)
abbrev Cx.fs(X:Cx):List Addr:=frs X.outer
def Vis(sc:Scope)(x:Str):Prop:=sc.names.lookup x=some .local\/sc.names.lookup x=some .cell\/sc.names.lookup x=some .free
def Loc(sc:Scope)(x:Str):Prop:=sc.names.lookup x=some .local\/sc.names.lookup x=some .cell
def Look(env:Env)(h:Heap)(m:Str->Option Value)(x:Str)(u:Value):Prop:=
 (env.kindOf x=some .local/\m x=some u)\/((env.kindOf x=some .cell\/env.kindOf x=some .free)/\∃c,env.cells.lookup x=some c/\h.IsCell c (some u))
structure Cx.Ok(X:Cx):Prop where
 mod:Mod X.K X.mg X.base
 kind:X.env.scope.kind = .function
 glob:X.env.globals=mainGlobals
 blt:X.env.builtins=builtinsNs
 above:X.s₀.heap.objs.size<=X.env.locals
 inj : ∀x y c,X.env.cells.lookup x=some c->X.env.cells.lookup y=some c->x=y
 has : ∀x,(X.env.kindOf x=some .cell\/X.env.kindOf x=some .free)->∃c,X.env.cells.lookup x=some c
 cab : ∀x c,X.fn x=true->X.env.cells.lookup x=some c->X.s₀.heap.objs.size<=c
 hd:X.calm=true->X.A.handled=none
 frames:X.A.frames=some X.stack
 stk:X.stack=X.outer\/(X.stack=X.env::X.outer/\X.env.frame=some X.env.locals)
 exf : ∀b∈X.ex,b≠X.env.locals/\∀x c,X.env.cells.lookup x=some c->c≠b
 bs : ∀b o,X.base.get? b=some o->X.s₀.heap.get? b=some o/\X.H₀ b=none
 bsz:X.base.objs.size<=X.s₀.heap.objs.size
 noex : ∀b o,X.base.get? b=some o->b∉X.ex
 exfs : ∀b∈X.ex,b∉X.fs
 funs:X.s₀.heap.FunFrames X.base X.outer
 frf : ∀b∈X.fs,X.H₀ b=none
structure Inv(X:Cx)(pins:List (Addr×Obj))(σ:List (Option V))(H:Hp)(s:Shared):Prop where
 ok:X.Ok
 os:s.os=X.s₀.os
 bare:AllBare s.gens
 base:Un X.fs X.ex X.H₀ H X.s₀.heap s.heap
 loc : ∃m,s.heap.Ns X.env.locals m/\∀(i:Nat) (x:Str) (v:V),X.N[i]? = some x->σ[i]? = some (some v)->Vis X.env.scope x->∃u,RelV v u/\Look X.env s.heap m x u
 cell : ∀x c,X.env.cells.lookup x=some c->∃v,s.heap.IsCell c v
 free:H X.env.locals=none
 freeC : ∀x c,X.env.cells.lookup x=some c->H c=none
 pin : ∀p∈X.pn++pins,s.heap.get? p.1=some p.2/\H p.1=none/\p.1≠X.env.locals/\p.1∉X.fs/\∀v,p.2.data ≠ .cell v
 hok:HOk X.prog X.w H s.heap
 len:σ.length=X.N.length
section
variable{X:Cx}{pins:List (Addr×Obj)}{σ:List (Option V)}{H H':Hp}{s:Shared}{h':Heap}
theorem Cx.Ok.nofr(ok:X.Ok){b:Addr}{o:Obj}(e:X.base.get? b=some o):b∉X.fs:=λz=>by
 have:=(ok.funs.mem z).1;rw [e]at this;cases this
theorem Inv.bs(I:Inv X pins σ H s) : ∀b o,X.base.get? b=some o->s.heap.get? b=some o/\H b=none:=λb o e=>
 ⟨I.base.keep b o (I.ok.bs b o e).1 (I.ok.bs b o e).2 (I.ok.nofr e) (I.ok.noex b o e),I.base.free b o (I.ok.bs b o e).1 (I.ok.bs b o e).2 (I.ok.noex b o e)⟩
theorem Inv.bk(I:Inv X pins σ H s) : ∀b o,X.base.get? b=some o->s.heap.get? b=some o:=λb o e=>(I.bs b o e).1
theorem Inv.mod(I:Inv X pins σ H s):Mod X.K X.mg X.base:=I.ok.mod
theorem Inv.kIn(I:Inv X pins σ H s):X.K.In s.heap:=I.ok.mod.kin.keeps I.bk
theorem Inv.lt(I:Inv X pins σ H s):X.env.locals<s.heap.objs.size:=let ⟨_,hn,_⟩:=I.loc;hn.lt
theorem Inv.sz(I:Inv X pins σ H s):X.s₀.heap.objs.size<=s.heap.objs.size:=tP I.ok.above (BS I.lt)
theorem Inv.nofs(I:Inv X pins σ H s){a:Addr}(h:s.heap.objs.size<=a):a∉X.fs:=λz=>by
 obtain⟨_,o,J,_⟩:=I.ok.funs.mem z;exact absurd (su (sg J) (tP I.sz h)) (uz _)
theorem Inv.cne(I:Inv X pins σ H s) : ∀x c,X.env.cells.lookup x=some c->c≠X.env.locals:=λx c e z=>by
 obtain⟨v,o,J,hd⟩:=I.cell x c e;obtain⟨m,⟨o',es,ep,M,O,_⟩,_⟩:=I.loc;rw [z,M]at J;cases J;rw [O]at hd;cases hd
theorem Inv.funs(I:Inv X pins σ H s):s.heap.FunFrames X.base X.outer:=by
 have all : ∀(l:List Env),(∀b∈frs l,b∈X.fs)->X.s₀.heap.FunFrames X.base l->s.heap.FunFrames X.base l:=by
  intro l
  induction l with
  | nil=>intro _ _;trivial
  | cons env r Y=>
   intro O hl;obtain⟨hk,⟨L,o,J,hn,ho,hd⟩,hr⟩:=hl;have hL:L∈X.fs:=O L (by unfold frs;rw [Cc,J];exact rX);obtain⟨sl,e⟩:=I.base.slot L o ho (I.ok.frf L hL) hL λz=>I.ok.exfs L z hL;exact⟨hk,⟨L,_,J,hn,e,hd⟩,Y (λb M=>O b (by unfold frs;rw [Cc,J];exact sd _ M)) hr⟩
 exact all X.outer (λ_ M=>M) I.ok.funs
theorem Inv.stack(I:Inv X pins σ H s):s.heap.FunFrames X.base X.stack:=by
 rcases I.ok.stk with e | ⟨e,z⟩
 ·rw [e];exact I.funs
 ·rw [e]
  obtain⟨m,hn,_⟩:=I.loc;refine .cons (by rw [I.ok.kind];decide) z hn ?_ I.funs;exact Heap.get?_none_of_le (tP I.ok.bsz I.ok.above)
theorem Inv.stkSub(I:Inv X pins σ H s) : ∀b∈frs X.stack,b∈X.env.locals::X.fs:=λb z=>by
 rcases I.ok.stk with e | ⟨e,J⟩
 ·rw [e]at z;exact sd _ z
 ·rw [e]at z
  unfold frs at z;rw [Cc,J]at z;exact z
theorem Inv.stkFree(I:Inv X pins σ H s) : ∀b∈frs X.stack,H b=none:=λb J=>by
 rcases si.mp (I.stkSub b J)with e | J
 ·rw [e];exact I.free
 ·obtain⟨_,o,M,_⟩:=I.ok.funs.mem J
  exact I.base.free b o M (I.ok.frf b J) λz=>I.ok.exfs b z J
theorem Inv.step{g':Array GenState}{t':Nat}{d':Drawn}{ch:List Addr}(I:Inv X pins σ H s)
 (Y : ∀b∈ch,(b∈X.ex\/X.s₀.heap.objs.size<=b)/\b≠X.env.locals/\(∀x c,X.env.cells.lookup x=some c->c≠b)/\∀p∈X.pn++pins,p.1≠b)
 (keep : ∀b o,b≠X.env.locals->b∉X.fs->b∉ch->s.heap.get? b=some o->H b=none->h'.get? b=some o)
 (slot : ∀b o,b≠X.env.locals->b∈X.fs->b∉ch->s.heap.get? b=some o->H b=none->∃sl,h'.get? b=some {o with slots:=sl}) (free : ∀b o,b∉ch->s.heap.get? b=some o->H b=none->H' b=none)
 (there : ∀b o,b∉ch->s.heap.get? b=some o->∃o',h'.get? b=some o')
 (tups : ∀b xs,H b=some (.tup xs)->H' b=some (.tup xs)) (frzs : ∀b o u,H b=some (.frz o u)->H' b=some (.frz o u)) (tbls : ∀b ps,H b=some (.tbl ps)->∃more,H' b=some (.tbl (ps++more)))
 (ns : ∀m,s.heap.Ns X.env.locals m->h'.Ns X.env.locals m) (hok:HOk X.prog X.w H' h') (hg:AllBare g') :
 Inv X pins σ H' {s with heap:=h',gens:=g',drawn:=d',toks:=t'}:=by
 have a2 : ∀b o,X.s₀.heap.get? b=some o->b≠X.env.locals:=λb o e=>sF (su (sg e) I.ok.above);have a1 : ∀b o,X.s₀.heap.get? b=some o->b∉X.ex->b∉ch:=λb o e J M=>by
  rcases (Y b M).1 with z | z
  ·exact J z
  ·exact absurd (su (sg e) z) (uz _)
 have a3 : ∀x c,X.env.cells.lookup x=some c->∀v,s.heap.IsCell c v->h'.IsCell c v:=λx c e v hZ=>by
  obtain⟨o,O,hd⟩:=hZ;have a0:c∉ch:=λz=>(Y c z).2.2.1 x c e rfl;by_cases hc:c∈X.fs
  ·obtain⟨sl,q⟩:=slot c o (I.cne x c e) hc a0 O (I.freeC x c e)
   exact⟨_,q,hd⟩
  ·exact⟨o,keep c o (I.cne x c e) hc a0 O (I.freeC x c e),hd⟩
 refine⟨I.ok,I.os,hg,⟨λb o e n M J=>?_,λb o e n M J=>?_,λb o e n J=>?_,λb o e J=>?_,λb xs e=>tups b xs (I.base.tups b xs e),λb o xs e=>frzs b o xs (I.base.frzs b o xs e),λb ps e=>?_⟩,?_,λx c e=>?_,?_,λx c e=>?_,λp hp=>?_,hok,I.len⟩
 ·exact keep b o (a2 b o e) M (a1 b o e J) (I.base.keep b o e n M J) (I.base.free b o e n J)
 ·obtain⟨sl,e1⟩:=I.base.slot b o e n M J
  obtain⟨a9,e2⟩:=slot b _ (a2 b o e) M (a1 b o e J) e1 (I.base.free b o e n J);exact⟨a9,e2⟩
 ·obtain⟨o',e1⟩:=I.base.there b o e J
  exact free b o' (a1 b o e J) e1 (I.base.free b o e n J)
 ·obtain⟨o',e1⟩:=I.base.there b o e J
  exact there b o' (a1 b o e J) e1
 ·obtain⟨m1,e1⟩:=I.base.tbls b ps e
  obtain⟨m2,e2⟩:=tbls b _ e1;exact⟨m1++m2,by rw [e2,Array.append_assoc]⟩
 ·obtain⟨m,hn,hl⟩:=I.loc
  refine⟨m,ns m hn,λi x v e1 e2 e3=>?_⟩;obtain⟨u,r,l⟩:=hl i x v e1 e2 e3;refine⟨u,r,?_⟩;rcases l with l | ⟨k,c,e,z⟩
  ·exact .inl l
  ·exact .inr ⟨k,c,e,a3 x c e _ z⟩
 ·obtain⟨v,z⟩:=I.cell x c e
  exact⟨v,a3 x c e v z⟩
 ·obtain⟨m,⟨o,_,_,O,_⟩,_⟩:=I.loc
  exact free _ o (λz=>(Y _ z).2.1 rfl) O I.free
 ·obtain⟨v,o,O,hd⟩:=I.cell x c e
  exact free c o (λz=>(Y c z).2.2.1 x c e rfl) O (I.freeC x c e)
 ·obtain⟨e,n,ne,nf,d⟩:=I.pin p hp
  have a0:p.1∉ch:=λz=>(Y p.1 z).2.2.2 p hp rfl;exact⟨keep p.1 p.2 ne nf a0 e n,free p.1 p.2 a0 e n,ne,nf,d⟩
theorem Inv.un{t':Nat}(I:Inv X pins σ H s)(u:Un X.fs [] H H' s.heap h')(hok:HOk X.prog X.w H' h'):Inv X pins σ H' {s with heap:=h',toks:=t'}:=by
 obtain⟨m,⟨o,es,ep,M,r⟩,_⟩:=id I.loc;obtain⟨sl,hL⟩:=u.any M I.free ⋯;exact I.step (g':=s.gens) (d':=s.drawn) (ch:=[]) (λ_ z=>nomatch z) (λb o _ J _ e n=>u.keep b o e n J ⋯) (λb o _ J _ e n=>u.slot b o e n J ⋯) (λb o _ e n=>u.free b o e n ⋯) (λb o _ e=>u.there b o e ⋯) u.tups u.frzs u.tbls (λm' hm=>by
  obtain⟨o',Y,a0,O,r'⟩:=hm;rw [M]at O;cases O;exact⟨_,Y,a0,hL,r'⟩) hok I.bare
theorem Inv.call{g':Array GenState}{t':Nat}{d':Drawn}{ch:List Addr}(I:Inv X pins σ H s)(u:Un (frs X.stack) ch H H' s.heap h')(hok:HOk X.prog X.w H' h')(hg:AllBare g')
 (M : ∀b∈ch,(b∈X.ex\/X.s₀.heap.objs.size<=b)/\b≠X.env.locals/\(∀x c,X.env.cells.lookup x=some c->c≠b)/\∀p∈X.pn++pins,p.1≠b) :
 Inv X pins σ H' {s with heap:=h',gens:=g',drawn:=d',toks:=t'}:=by
 obtain⟨m,⟨o,es,ep,O,r⟩,_⟩:=id I.loc;obtain⟨sl,hL⟩:=u.any O I.free λz=>(M _ z).2.1 rfl;exact I.step (ch:=ch) M (λb o hL hb J e n=>u.keep b o e n (λz=>(si.mp (I.stkSub b z)).elim hL hb) J) (λb o _ _ J e n=>u.any e n J) (λb o J e n=>u.free b o e n J) (λb o J e=>u.there b o e J) u.tups u.frzs u.tbls (λm' hm=>by
  obtain⟨o',a2,a3,Y,r'⟩:=hm;rw [O]at Y;cases Y;exact⟨_,a2,a3,hL,r'⟩) hok hg
theorem Inv.turned{t':Nat}{it:Addr}(I:Inv X pins σ H s)(k : ∀b o,b≠it->s.heap.get? b=some o->h'.get? b=some o)(hn:H it=none)(hL:it≠X.env.locals)
 (h1:it∈X.ex\/X.s₀.heap.objs.size<=it) (h2 : ∀x c,X.env.cells.lookup x=some c->c≠it) (O : ∀p∈X.pn++pins,p.1≠it):Inv X pins σ H {s with heap:=h',toks:=t'}:=by
 have M : ∀b u,H b=some u->b≠it:=λb u e z=>by rw [z,hn]at e;cases e
 refine I.step (g':=s.gens) (d':=s.drawn) (ch:=[it]) (λb Y=>?_) (λb o _ _ J e _=>k b o (λz=>J (by simp [z])) e) (λb o _ _ J e _=>⟨o.slots,k b o (λz=>J (by simp [z])) e⟩) (λ_ _ _ _ n=>n)
  (λb o J e=>⟨o,k b o (λz=>J (by simp [z])) e⟩) (λ_ _ e=>e) (λ_ _ _ e=>e) (λb ps e=>⟨#[],by rw [e];simp⟩) (λm hm=>?_) (λb u e=>?_) I.bare
 ·have e:b=it:=by simpa using Y
  subst e;exact⟨h1,hL,h2,O⟩
 ·obtain⟨o,es,ep,ho,r⟩:=hm
  exact⟨o,es,ep,k _ o (uu hL) ho,r⟩
 ·refine(I.hok b u e).stay (λc v J q=>k c v ?_ q) (λ_ q=>q) λ_ _ q=>q
  rcases J with z | z
  ·rw [z];exact M b u e
  ·exact M c _ z
theorem Inv.tok(I:Inv X pins σ H s)(t:Nat):Inv X pins σ H {s with toks:=t}:=I.un (h':=s.heap) (t':=t) Un.refl I.hok
theorem Inv.kept{t':Nat}(I:Inv X pins σ H s)(k : ∀b u,s.heap.get? b=some u->h'.get? b=some u):Inv X pins σ H {s with heap:=h',toks:=t'}:=I.un (Un.kept k) (I.hok.kept k)
theorem Inv.laid{a:Addr}{o:HO}{t':Nat}(I:Inv X pins σ H s)(k : ∀b u,s.heap.get? b=some u->h'.get? b=some u)(z:s.heap.objs.size<=a)(new:ObjOk X.prog X.w (upd H a o) h' a o) :
 Inv X pins σ (upd H a o) {s with heap:=h',toks:=t'}:=I.un (Un.laid k z (I.hok.fresh z)) (I.hok.laid k z new)
theorem Inv.write{x e:Addr}{o:HO}{t':Nat}(I:Inv X pins σ H s)(z:Mut (H x))(he:e=x\/H e=some (.own x))(k : ∀b u,b≠e->s.heap.get? b=some u->h'.get? b=some u)(J : ∃u,h'.get? e=some u)
 (new:ObjOk X.prog X.w (upd H x o) h' x o):Inv X pins σ (upd H x o) {s with heap:=h',toks:=t'}:=I.un (Un.write z he k J) (I.hok.write z he k J new)
theorem Inv.pins_of{J:List (Addr×Obj)}(I:Inv X pins σ H s)(h : ∀p∈J,s.heap.get? p.1=some p.2/\H p.1=none/\p.1≠X.env.locals/\p.1∉X.fs/\∀v,p.2.data ≠ .cell v):Inv X J σ H s:=
 ⟨I.ok,I.os,I.bare,I.base,I.loc,I.cell,I.free,I.freeC,λp M=>(Au.mp M).elim (λz=>I.pin p (List.mem_append_left _ z)) (h p),I.hok,I.len⟩
theorem Xo{N:List Str}(z:N.Nodup){i j:Nat}{x:Str}(a:N[i]? = some x)(b:N[j]? = some x):i=j:=by
 obtain⟨h1,e1⟩:=rP.mp a;obtain⟨h2,e2⟩:=rP.mp b;exact(List.getElem_inj z).mp (e1.trans e2.symm)
theorem Z1{M:Model}{A:Around}{E:Value->Shared->Prop}{i:Nat}{x:Str}{v:V}{u:Value}{Q:Unit->Shared->Prop}(I:Inv X pins σ H s)(hN:X.N.Nodup)(hi:X.N[i]? = some x)(Y:Loc X.env.scope x)(r:RelV v u)
 (h : ∀s',Inv X pins (σ.set i (some v)) H s'->(∃a,Ah a s.heap s'.heap/\(a=X.env.locals\/X.env.cells.lookup x=some a))->Q () s') (hf:X.fn x=true\/X.env.scope.names.lookup x=some .local:=by first | exact .inl rfl | exact .inr rfl | assumption):wpAny M A (storeName X.env x u) Q E s:=by
 obtain⟨m,hn,hl⟩:=id I.loc;have b0:(X.env.scope.kind == .class || (X.env.scope.kind == .module && X.env.locals != X.env.globals))=false:=by rw [I.ok.kind];rfl
 have ac:i<σ.length:=by rw [I.len];exact(rP.mp hi).1
 have cne:=I.cne;have am : ∀{a:Addr} {h':Heap},(∃o,s.heap.get? a=some o/\H a=none)->Ah a s.heap h'->HOk X.prog X.w H h':=λ{a h'} ha J b ob e=>by
  obtain⟨_,_,an⟩:=ha;refine(I.hok b ob e).stay (λc w' O q=>(J.2 c ?_).trans q) (λ_ q=>q) λ_ _ q=>q;rintro rfl;rcases O with rfl | O
  ·rw [an]at e;cases e
  ·rw [an]at O;cases O
 rcases Y with hk | hk
 ·refine wpAny_storeName_local hk hn (λh' bb J=>?_) b0
  obtain⟨oL,_,_,bd,_⟩:=id hn;refine h _ ⟨I.ok,I.os,I.bare,⟨λb o e n hb Y=>?_,λb o e n hb Y=>?_,I.base.free,λb o e Y=>?_,I.base.tups,I.base.frzs,I.base.tbls⟩,⟨_,bb,λj y v' e1 e2 e3=>?_⟩,λy c e=>?_,I.free,I.freeC,λp hp=>?_,am ⟨oL,bd,I.free⟩ J,by simpa using I.len⟩ ⟨_,J,.inl rfl⟩
  ·exact(J.2 b (sF (su (sg e) I.ok.above))).trans (I.base.keep b o e n hb Y)
  ·obtain⟨sl,e1⟩:=I.base.slot b o e n hb Y
   exact⟨sl,(J.2 b (sF (su (sg e) I.ok.above))).trans e1⟩
  ·obtain⟨o',e1⟩:=I.base.there b o e Y
   exact⟨o',(J.2 b (sF (su (sg e) I.ok.above))).trans e1⟩
  ·by_cases hj:j=i
   ·subst hj
    rw [hi]at e1;cases e1;rw [sM ac]at e2;cases e2;exact⟨u,r,.inl ⟨hk,by simp⟩⟩
   ·rw [rW (uu hj)]at e2
    obtain⟨u',r',q⟩:=hl j y v' e1 e2 e3;refine⟨u',r',?_⟩;rcases q with⟨k,e⟩ | ⟨k,c,e,z⟩
    ·refine .inl ⟨k,?_⟩
     have:y≠x:=λe=>hj (Xo hN e1 (e ▸ hi));simp [this,e]
    ·exact .inr ⟨k,c,e,z.sameBut J (cne y c e)⟩
  ·obtain⟨w',z⟩:=I.cell y c e
   exact⟨w',z.sameBut J (cne y c e)⟩
  ·obtain⟨e,n,ne,nf,d⟩:=I.pin p hp
   exact⟨(J.2 p.1 ne).trans e,n,ne,nf,d⟩
 ·have a7:X.fn x=true:=by
   rcases hf with z | z
   ·exact z
   ·rw [z]at hk;cases hk
  obtain⟨c,O⟩:=I.ok.has x (.inl hk);obtain⟨w',z⟩:=I.cell x c O;refine wpAny_storeName_cell I.ok.kind hk O z (λh' ap J=>?_);obtain⟨oc,ar,be⟩:=id z;refine h {s with heap:=h'} ⟨I.ok,I.os,I.bare,⟨λb o e n hb Y=>?_,λb o e n hb Y=>?_,I.base.free,λb o e Y=>?_,I.base.tups,I.base.frzs,I.base.tbls⟩,⟨m,hn.sameBut J (uu (cne x c O)),λj y v' e1 e2 e3=>?_⟩,λy c' e=>?_,I.free,I.freeC,λp hp=>?_,am ⟨oc,ar,I.freeC x c O⟩ J,by simpa using I.len⟩ ⟨c,J,.inr O⟩
  ·exact(J.2 b (sF (su (sg e) (I.ok.cab x c a7 O)))).trans (I.base.keep b o e n hb Y)
  ·obtain⟨sl,e1⟩:=I.base.slot b o e n hb Y
   exact⟨sl,(J.2 b (sF (su (sg e) (I.ok.cab x c a7 O)))).trans e1⟩
  ·obtain⟨o',e1⟩:=I.base.there b o e Y
   exact⟨o',(J.2 b (sF (su (sg e) (I.ok.cab x c a7 O)))).trans e1⟩
  ·by_cases hj:j=i
   ·subst hj
    rw [hi]at e1;cases e1;rw [sM ac]at e2;cases e2;exact⟨u,r,.inr ⟨.inl hk,c,O,ap⟩⟩
   ·rw [rW (uu hj)]at e2
    obtain⟨u',r',q⟩:=hl j y v' e1 e2 e3;refine⟨u',r',?_⟩;rcases q with q | ⟨k,c',e,z'⟩
    ·exact .inl q
    ·refine .inr ⟨k,c',e,z'.sameBut J ?_⟩
     rintro rfl;exact hj (Xo hN e1 (I.ok.inj _ _ _ e O ▸ hi))
  ·by_cases as:c'=c
   ·subst as;exact⟨_,ap⟩
   ·obtain⟨w2,z2⟩:=I.cell y c' e
    exact⟨w2,z2.sameBut J as⟩
  ·obtain⟨e,n,ne,nf,d⟩:=I.pin p hp
   refine⟨(J.2 p.1 ?_).trans e,n,ne,nf,d⟩;intro q;rw [q,ar]at e;have q':oc=p.2:=sH e;exact d w' (by rw [<- q'];exact be)
theorem QY{M:Model}{A:Around}{E:Value->Shared->Prop}{i:Nat}{x:Str}{v:V}{u:Value}{Q:Unit->Shared->Prop}(I:Inv X pins σ H s)(z:X.N.Nodup)(hi:X.N[i]? = some x)(J:Loc X.env.scope x)(r:RelV v u)
 (h : ∀s',Inv X pins (σ.set i (some v)) H s'->Q () s') (O:X.fn x=true\/X.env.scope.names.lookup x=some .local:=by first | exact .inl rfl | exact .inr rfl | assumption):wpAny M A (storeName X.env x u) Q E s:=
 Z1 I z hi J r (λs' Y _=>h s' Y) O
theorem Inv.call'{s':Shared}{ch:List Addr}(I:Inv X pins σ H s)(z:s'.os=s.os)(u:Un (frs X.stack) ch H H' s.heap s'.heap)(hok:HOk X.prog X.w H' s'.heap)(J:AllBare s'.gens)
 (M : ∀b∈ch,(b∈X.ex\/X.s₀.heap.objs.size<=b)/\b≠X.env.locals/\(∀x c,X.env.cells.lookup x=some c->c≠b)/\∀p∈X.pn++pins,p.1≠b):Inv X pins σ H' s':=by
 obtain⟨h',g',d',t',o'⟩:=s';have e:o'=s.os:=z;subst e;exact I.call (g':=g') (t':=t') (d':=d') u hok J M
end
abbrev XK:=Value->Option Addr->Hp->Prop
abbrev St:=List (Option V)
abbrev VK:=V->Hp->Prop
abbrev TE:=St->Hp->VK->Prop
abbrev TT:=St->Hp->(Bool->Hp->Prop)->Prop
abbrev TA:=St->Hp->(List V->Hp->Prop)->Prop
structure Ends where
 nx:St->Hp->Prop
 rt:VK
 bk:St->Hp->Prop:=λ_ _=>False
 ct:St->Hp->Prop:=λ_ _=>False
abbrev TS:=Ends->St->Hp->Prop
def EP(X:Cx)(pins:List (Addr×Obj))(σ:St)(Q:VK)(u:Value)(s':Shared):Prop:=∃v H',Inv X pins σ H' s'/\RelV v u/\Q v H'
def TP(X:Cx)(pins:List (Addr×Obj))(σ:St)(Q:Bool->Hp->Prop)(b:Bool)(s':Shared):Prop:=∃H',Inv X pins σ H' s'/\Q b H'
def AP(X:Cx)(pins:List (Addr×Obj))(σ:St)(Q:List V->Hp->Prop)(us:List Value)(s':Shared):Prop:=∃vs H',Inv X pins σ H' s'/\Vals vs us/\Q vs H'
def SP(X:Cx)(pins:List (Addr×Obj))(D:Ends)(f:Flow)(s':Shared):Prop:=
 match f with
 | .next=>∃σ' H',Inv X pins σ' H' s'/\D.nx σ' H'
 | .brk=>∃σ' H',Inv X pins σ' H' s'/\D.bk σ' H'
 | .cont=>∃σ' H',Inv X pins σ' H' s'/\D.ct σ' H'
 | .ret u=>∃v σ' H',Inv X pins σ' H' s'/\RelV v u/\D.rt v H'
def PE(X:Cx)(e:Expr)(t:TE):Prop:=
 ∀(pins:List (Addr×Obj)) (s:Shared) (σ:St) (H:Hp) (Q:VK),Inv X pins σ H s->t σ H Q->wpAny (model X.prog X.w) X.A (eval e X.env) (EP X pins σ Q) X.xe s
def PT(X:Cx)(e:Expr)(t:TT):Prop:=
 ∀(pins:List (Addr×Obj)) (s:Shared) (σ:St) (H:Hp) (Q:Bool->Hp->Prop),Inv X pins σ H s->t σ H Q->wpAny (model X.prog X.w) X.A (isTrue e X.env (eval e X.env)) (TP X pins σ Q) X.xe s
def PW(X:Cx)(e:Expr)(t:TT):Prop:=
 ∀(z:Sem Value) (pins:List (Addr×Obj)) (s:Shared) (σ:St) (H:Hp) (Q:Bool->Hp->Prop),Inv X pins σ H s->t σ H Q->wpAny (model X.prog X.w) X.A (isTrue e X.env z) (TP X pins σ Q) X.xe s
theorem PW.pt{X:Cx}{e:Expr}{t:TT}(h:PW X e t):PT X e t:=h _
def PA(X:Cx)(es:List Expr)(t:TA):Prop:=
 ∀(pos:Pos) (pins:List (Addr×Obj)) (s:Shared) (σ:St) (H:Hp) (Q:List V->Hp->Prop),Inv X pins σ H s->t σ H Q->wpAny (model X.prog X.w) X.A (spliced (backTo pos (starEach es X.env))) (AP X pins σ Q) X.xe s
def PS(X:Cx)(st:Stmt)(t:TS):Prop:=
 ∀(pins:List (Addr×Obj)) (s:Shared) (σ:St) (H:Hp) (D:Ends),Inv X pins σ H s->t D σ H->wpAny (model X.prog X.w) X.A (exec st X.env) (SP X pins D) X.xe s
def PSs(X:Cx)(st:List Stmt)(t:TS):Prop:=
 ∀(pins:List (Addr×Obj)) (s:Shared) (σ:St) (H:Hp) (D:Ends),Inv X pins σ H s->t D σ H->wpAny (model X.prog X.w) X.A (execs st X.env) (SP X pins D) X.xe s
theorem thn{α:Type}{t:Sem α}{Q z:α->Shared->Prop}{M:Model}{A:Around}{E:Value->Shared->Prop}{s:Shared}(h:wpAny M A t Q E s)(I : ∀a s,Q a s->z a s):wpAny M A t z E s:=AS h I λ_ _ x=>x
section
variable{X:Cx}
def vZ(i:Nat):TE:=λσ H Q=>∃v,σ[i]? = some (some v)/\Q v H
def tC(v:V):TE:=λ_ H Q=>Q v H
theorem gZ{i:Nat}{x:Str}{pos:Pos}(Y:X.N[i]? = some x)(hv:Vis X.env.scope x)(hd:(x==("__debug__" : Str))=false:=by decide)(a1:(x==("__classdict__" : Str))=false:=by decide):PE X (.Name x pos) (vZ i):=by
 intro pins s σ H Q I h;obtain⟨v,e,h⟩:=h;obtain⟨m,hn,hl⟩:=I.loc;obtain⟨u,r,l⟩:=hl i x v Y e hv;have J:EP X pins σ Q u s:=⟨v,H,I,r,h⟩;rcases l with⟨z,hm⟩ | ⟨z,c,M,O⟩
 ·exact wpAny_Name (wpAny_loadName_local I.ok.kind z hn hm J) hd
 ·rcases z with z | z
  ·exact wpAny_Name (wpAny_loadName_cell I.ok.kind z M O J) hd
  ·exact wpAny_Name (wpAny_loadName_free I.ok.kind z M O J a1) hd
theorem ia{i j pos}:PE X (.Constant (.int i) j pos) (tC (.int i)):=λ_ _ _ H _ I h=>wpAny_Constant_int ⟨.int i,H,I.tok _,⟨_,rfl⟩,h⟩
theorem ny{b j pos}:PE X (.Constant (.bool b) j pos) (tC (.bl b)):=λ_ _ _ H _ I h=>Constant_bool ⟨.bl b,H,I,rfl,h⟩
theorem hJ{x j pos}:PE X (.Constant (.str x) j pos) (tC (.str x)):=λ_ _ _ H _ I h=>Calls.Constant_str ⟨.str x,H,I.tok _,⟨_,rfl⟩,h⟩
def Gl(X:Cx)(x:Str):Prop:=X.env.kindOf x=some .globalImplicit
theorem Qu{E:Value->Shared->Prop}{pins:List (Addr×Obj)}{s:Shared}{σ:St}{H:Hp}{x:Str}{u:Value}{pos:Pos}{Q:Value->Shared->Prop}(I:Inv X pins σ H s)(z:Gl X x)(hm:X.mg x=some u)(h:Q u s)
 (hd:(x==("__debug__" : Str))=false:=by decide):wpAny (model X.prog X.w) X.A (eval (.Name x pos) X.env) Q E s:=
 Calls.Name_function_global I.ok.kind z (Calls.loadGlobal_global (by rw [I.ok.glob];exact I.mod.glob.keeps I.bk) hm h) hd
theorem xp{E:Value->Shared->Prop}{pins:List (Addr×Obj)}{s:Shared}{σ:St}{H:Hp}{x:Str}{u:Value}{pos:Pos}{Q:Value->Shared->Prop}(I:Inv X pins σ H s)(z:Gl X x)(hm:X.mg x=none)(J:bootBuiltins x=some u)(h:Q u s)
 (hn:x ≠ "__name__":=by decide) (hd:(x==("__debug__" : Str))=false:=by decide):wpAny (model X.prog X.w) X.A (eval (.Name x pos) X.env) Q E s:=by
 obtain⟨mb,h1,h2⟩:=I.mod.blt;exact Calls.Name_function_global I.ok.kind z (Calls.loadGlobal_builtin (by rw [I.ok.glob];exact I.mod.glob.keeps I.bk) hm (by rw [I.ok.blt];exact h1.keeps I.bk) ((h2 x hn).trans J) h) hd
variable{a b:Expr}{ta tb:TE}{pos:Pos}
def tB(t:TE):TT:=λσ H Q=>t σ H λx H1=>∃c,x = .bl c/\Q c H1
theorem gO{e:Expr}{t:TE}(h:PE X e t)(he : ∀z,isTrue e X.env z=(do let v <- z;standAt e.pos;holding [v] (truthy v)):=by intro _;rfl):PT X e (tB t):=by
 intro pins s σ H Q I hw;refine isTrue_plain (thn (h pins s σ H _ I hw) λv s1 J=>?_) (he _);obtain⟨x,H1,M,r1,O⟩:=J;obtain⟨d,rfl,q⟩:=O;cases r1;exact uW ⟨H1,M,q⟩
variable{tA tB':TT}{jV:List Expr}
def pW(t u:TT):TT:=λσ H Q=>t σ H λc H1=>if c=true then u σ H1 Q else Q false H1
def tOr(t u:TT):TT:=λσ H Q=>t σ H λc H1=>if c=true then Q true H1 else u σ H1 Q
def pQ(t:TT):TT:=λσ H Q=>t σ H λc H1=>Q (!c) H1
theorem cT(ha:PT X a tA):PW X (.BoolOp .And [a] pos) tA:=by
 intro z pins s σ H Q I h;refine isTrue_and (thn (ha pins s σ H Q I h) λc s1 e=>?_);cases c with
 | true=>exact isTrue_and_nil e
 | false=>exact e
theorem gD(ha:PT X a tA):PW X (.BoolOp .Or [a] pos) tA:=by
 intro z pins s σ H Q I h;refine isTrue_or (thn (ha pins s σ H Q I h) λc s1 e=>?_);cases c with
 | false=>exact isTrue_or_nil e
 | true=>exact e
theorem gE(ha:PT X a tA)(M:PW X (.BoolOp .And (b::jV) pos) tB'):PW X (.BoolOp .And (a::b::jV) pos) (pW tA tB'):=by
 intro O pins s σ H Q I h;refine isTrue_and (thn (ha pins s σ H _ I h) λc s1 Y=>?_);obtain⟨H1,z,J⟩:=Y;cases c with
 | true=>exact M O pins s1 σ H1 Q z J
 | false=>exact⟨H1,z,J⟩
theorem nr(ha:PT X a tA)(M:PW X (.BoolOp .Or (b::jV) pos) tB'):PW X (.BoolOp .Or (a::b::jV) pos) (tOr tA tB'):=by
 intro O pins s σ H Q I h;refine isTrue_or (thn (ha pins s σ H _ I h) λc s1 Y=>?_);obtain⟨H1,z,J⟩:=Y;cases c with
 | true=>exact⟨H1,z,J⟩
 | false=>exact M O pins s1 σ H1 Q z J
theorem gP(ha:PT X a tA):PT X (.UnaryOp .Not a pos) (pQ tA):=by
 intro pins s σ H Q I h;exact isTrue_not (ha pins s σ H (λc H1=>Q (!c) H1) I h)
def mY(ta tb:TE):TE:=λσ H Q=>ta σ H λx H1=>∃c,x = .bl c/\if c=true then tb σ H1 Q else Q (.bl false) H1
def mP(ta:TE):TE:=λσ H Q=>ta σ H λx H1=>∃c,x = .bl c/\Q (.bl (!c)) H1
theorem hU{op}{t:TE}(h:PE X a t):PE X (.BoolOp op [a] pos) t:=λpins s σ H Q I hw=>BoolOp_one (h pins s σ H Q I hw)
theorem ic(ha:PE X a ta)(M:PE X (.BoolOp .And (b::jV) pos) tb):PE X (.BoolOp .And (a::b::jV) pos) (mY ta tb):=by
 intro pins s σ H Q I h;refine BoolOp_and (thn (ha pins s σ H _ I h) λv s1 O=>?_);obtain⟨x,H1,J,r1,z⟩:=O;obtain⟨c,rfl,z⟩:=z;cases r1;refine uW ?_;cases c with
 | true=>exact M pins s1 σ H1 Q J z
 | false=>exact⟨.bl false,H1,J,rfl,z⟩
theorem hX(ha:PE X a ta):PE X (.UnaryOp .Not a pos) (mP ta):=by
 intro pins s σ H Q I h;refine UnaryOp_ (thn (ha pins s σ H _ I h) λv s1 J=>?_);obtain⟨x,H1,M,r1,z⟩:=J;obtain⟨c,rfl,z⟩:=z;cases r1;exact not_of (uW ⟨.bl (!c),H1,M,rfl,z⟩)
def tIf(t:TT)(ta tb:TE):TE:=λσ H Q=>t σ H λc H1=>if c=true then ta σ H1 Q else tb σ H1 Q
theorem WE{c:Expr}(M:PT X c tA)(ha:PE X a ta)(O:PE X b tb):PE X (.IfExp c a b pos) (tIf tA ta tb):=by
 intro pins s σ H Q I h;refine wpAny_IfExp (thn (M pins s σ H _ I h) λd s1 Y=>?_);obtain⟨H1,z,J⟩:=Y;cases d with
 | true=>exact ha pins s1 σ H1 Q z J
 | false=>exact O pins s1 σ H1 Q z J
end
def SqL(K:rH)(H:Hp)(a:Addr)(xs:List V):Prop:=
 Rd H a (.lst xs)\/
  ∃(o:Obj) (z:Array Value) (n:Nat),K.lookup a=some o/\o.cls = .type "list"/\o.dict=none/\o.data = .seq z n/\z.size<=sizeLine/\Vals xs z.toList
def SqT(K:rH)(H:Hp)(a:Addr)(xs:List V):Prop:=
 Rd H a (.tup xs)\/
  ∃(o:Obj) (z:Array Value) (n:Nat),K.lookup a=some o/\(o.cls,o.dict)=(AF "tuple",none)/\o.data = .seq z n/\z.size<=sizeLine/\Vals xs z.toList
def rD:Value->Option V
 | .none=>some .non
 | .bool b=>some (.bl b)
 | .int i _=>some (.int i)
 | .str x _=>some (.str x)
 | .bytes b _=>some (.byt b)
 | .float b _=>some (.flt b)
 | .ref a=>some (.ref a)
 | .type n=>some (.ty n)
 | _=>none
theorem RelV.abs{x:V}{u:Value}(r:RelV x u):rD u=some x:=by
 cases x with
 | non=>cases r;rfl
 | bl _=>cases r;rfl
 | int _=>obtain⟨t,rfl⟩:=r;rfl
 | str _=>obtain⟨t,rfl⟩:=r;rfl
 | byt _=>obtain⟨t,rfl⟩:=r;rfl
 | flt _=>obtain⟨t,rfl⟩:=r;rfl
 | ref _=>cases r;rfl
 | ty _=>cases r;rfl
theorem RelV.inj{x y:V}{u:Value}(r:RelV x u)(q:RelV y u):x=y:=sH (r.abs.symm.trans q.abs)
theorem Vals.inj : ∀{xs ys:List V} {us:List Value},Vals xs us->Vals ys us->xs=ys
 | _,_,_,.nil,.nil=>rfl
 | _,_,_,.cons r t,.cons r' t'=>by rw [r.inj r',Vals.inj t t']
section
variable{X:Cx}{pins:List (Addr×Obj)}{σ:St}{H:Hp}{s:Shared}{a:Addr}{xs ys:List V}
theorem SqL.of{K:rH}(h:H a=some (.lst xs)):SqL K H a xs:= .inl (.inl h)
theorem SqT.of{K:rH}(h:H a=some (.tup xs)):SqT K H a xs:= .inl (.inl h)
theorem Inv.list(I:Inv X pins σ H s)(h:SqL X.K H a xs) : ∃J:List Value,Vals xs J/\PlainL s.heap a J.toArray/\xs.length<=sizeLine:=by
 rcases h with h | ⟨o,J,n,M,O,hd,Y,hz,r⟩
 ·obtain⟨z,J,n,r,e⟩:=h.ok I.hok
  exact⟨J,r,⟨_,n,e,rfl,rfl,rfl⟩,z⟩
 ·refine⟨J.toList,r,⟨o,n,I.kIn a o M,O,hd,by simpa using Y⟩,?_⟩
  have e:=r.length;simp only [uG]at e;omega
theorem Inv.tuple(I:Inv X pins σ H s)(h:SqT X.K H a xs) : ∃J:List Value,Vals xs J/\IsTup s.heap a J.toArray/\xs.length<=sizeLine:=by
 rcases h with h | ⟨o,J,n,M,O,Y,hz,r⟩
 ·obtain⟨z,J,r,p⟩:=h.ok I.hok
  exact⟨J,r,p.tup,z⟩
 ·refine⟨J.toList,r,⟨o,I.kIn a o M,(Prod.mk.inj O).1,n,by simpa using Y⟩,?_⟩
  have e:=r.length;simp only [uG]at e;omega
theorem Inv.list_inj(I:Inv X pins σ H s)(h:SqL X.K H a xs)(h':SqL X.K H a ys):xs=ys:=by
 obtain⟨J,r,⟨o,n,e,_,_,d⟩,_⟩:=I.list h;obtain⟨its',r',⟨o',M,z,_,_,d'⟩,_⟩:=I.list h';rw [e]at z;cases z;rw [d]at d';injection d' with d1 _;have:J=its':=by simpa using congrArg Array.toList d1
 subst this;exact r.inj r'
theorem Inv.tuple_inj(I:Inv X pins σ H s)(h:SqT X.K H a xs)(h':SqT X.K H a ys):xs=ys:=by
 obtain⟨J,r,⟨o,e,_,n,d⟩,_⟩:=I.tuple h;obtain⟨its',r',⟨o',z,_,M,d'⟩,_⟩:=I.tuple h';rw [e]at z;cases z;rw [d]at d';injection d' with d1 _;have:J=its':=by simpa using congrArg Array.toList d1
 subst this;exact r.inj r'
end
abbrev Cx.wish(X:Cx)(E:Value->Shared->Prop):Cx:={X with xe:=E}
abbrev Cx.nox(X:Cx):Cx:=X.wish λ_ _=>False
theorem Cx.Ok.wish{X:Cx}(ok:X.Ok)(E:Value->Shared->Prop):(X.wish E).Ok:=
 ⟨ok.mod,ok.kind,ok.glob,ok.blt,ok.above,ok.inj,ok.has,ok.cab,ok.hd,ok.frames,ok.stk,ok.exf,ok.bs,ok.bsz,ok.noex,ok.exfs,ok.funs,ok.frf⟩
theorem Cx.Ok.unwish{X:Cx}{E:Value->Shared->Prop}(ok:(X.wish E).Ok):X.Ok:=
 ⟨ok.mod,ok.kind,ok.glob,ok.blt,ok.above,ok.inj,ok.has,ok.cab,ok.hd,ok.frames,ok.stk,ok.exf,ok.bs,ok.bsz,ok.noex,ok.exfs,ok.funs,ok.frf⟩
section
variable{X:Cx}{pins:List (Addr×Obj)}{σ:St}{H:Hp}{s:Shared}{E:Value->Shared->Prop}
theorem Inv.wish(I:Inv X pins σ H s)(E:Value->Shared->Prop):Inv (X.wish E) pins σ H s:=⟨I.ok.wish E,I.os,I.bare,I.base,I.loc,I.cell,I.free,I.freeC,I.pin,I.hok,I.len⟩
theorem Inv.unwish(I:Inv (X.wish E) pins σ H s):Inv X pins σ H s:=⟨I.ok.unwish,I.os,I.bare,I.base,I.loc,I.cell,I.free,I.freeC,I.pin,I.hok,I.len⟩
theorem SP.unwish{D:Ends}{f:Flow}{s':Shared}(h:SP (X.wish E) pins D f s'):SP X pins D f s':=by
 cases f with
 | next=>obtain⟨σ',H',I,q⟩:=h;exact⟨σ',H',I.unwish,q⟩
 | brk=>obtain⟨σ',H',I,q⟩:=h;exact⟨σ',H',I.unwish,q⟩
 | cont=>obtain⟨σ',H',I,q⟩:=h;exact⟨σ',H',I.unwish,q⟩
 | ret u=>obtain⟨v,σ',H',I,r,q⟩:=h;exact⟨v,σ',H',I.unwish,r,q⟩
theorem PSs.nox{st:List Stmt}{t:TS}(h:PSs X.nox st t):PSs X st t:=λpins s σ H D I hw=>
 AS (h pins s σ H D (I.wish _) hw) (λ_ _ q=>q.unwish) λ_ _ z=>Ac z
end
section
variable{X:Cx}{st:Stmt}{jV:List Stmt}{t u:TS}{e:Expr}{te:TE}{pos:Pos}
def mS:TS:=λD σ H=>D.nx σ H
def oQ(t u:TS):TS:=λD σ H=>t {D with nx:=u D} σ H
theorem Yu:PSs X [] mS:=λ_ _ σ H _ I h=>wpAny_execs_nil ⟨σ,H,I,h⟩
theorem j8(h1:PS X st t)(h2:PSs X jV u):PSs X (st::jV) (oQ t u):=by
 intro pins s σ H D I h;refine wpAny_execs_cons (thn (h1 pins s σ H {D with nx:=u D} I h) λf s1 q=>?_);cases f with
 | next=>
  obtain⟨σ',H',z,q⟩:=q;exact h2 pins s1 σ' H' D z q
 | ret v=>exact q
 | brk=>exact q
 | cont=>exact q
theorem xf(h1:PS X st t):PSs X [st] t:=by
 intro pins s σ H D I h;refine wpAny_execs_cons (thn (h1 pins s σ H D I h) λf s1 q=>?_);cases f with
 | next=>exact wpAny_execs_nil q
 | ret v=>exact q
 | brk=>exact q
 | cont=>exact q
def mX:TS:=λD σ H=>D.ct σ H
theorem Qk:PS X (.Continue pos) mX:=λ_ _ σ H _ I h=>wpAny_Continue ⟨σ,H,I,h⟩
theorem Inv.quiet{pins:List (Addr×Obj)}{σ:St}{H:Hp}{s:Shared}(I:Inv X pins σ H s):interactive X.env=false:=by simp [interactive,I.ok.kind]
def mW(te:TE):TS:=λD σ H=>te σ H λ_ H1=>D.nx σ H1
theorem Zn(he:PE X e te)(z:swapsWith e none pos.line X.env=pure false:=by rfl):PS X (.Expr e pos) (mW te):=by
 intro pins s σ H D I h;exact wpAny_Expr_any (thn (he pins s σ H _ I h) λv s1 ⟨x,H1,J,r1,M⟩=>⟨σ,H1,J,M⟩) I.quiet z
def oS(te:TE):TS:=λD σ H=>te σ H D.rt
theorem yp(he:PE X e te):PS X (.Return (some e) pos) (oS te):=by
 intro pins s σ H D I h;exact wpAny_Return_some (thn (he pins s σ H _ I h) λv s1 ⟨x,H1,z,r1,J⟩=>⟨x,σ,H1,z,r1,J⟩)
def pT(c:TT)(t u:TS):TS:=λD σ H=>c σ H λb H1=>if b=true then t D σ H1 else u D σ H1
theorem gT{c:Expr}{a b:List Stmt}{tc:TT}(M:PT X c tc)(ha:PSs X a t)(O:PSs X b u):PS X (.If c a b pos) (pT tc t u):=by
 intro pins s σ H D I h;refine wpAny_If (thn (M pins s σ H _ I h) λd s1 Y=>?_);obtain⟨H1,z,J⟩:=Y;cases d with
 | true=>exact ha pins s1 σ H1 D z J
 | false=>exact O pins s1 σ H1 D z J
def fY:TS:=λ_ _ _=>False
theorem Wu:PS X st fY:=λ_ _ _ _ _ _ h=>h.elim
end
abbrev TG:=V->St->Hp->(St->Hp->Prop)->Prop
abbrev TGs:=List V->St->Hp->(St->Hp->Prop)->Prop
def PG(X:Cx)(z:Expr)(t:TG):Prop:=
 ∀(pins:List (Addr×Obj)) (s:Shared) (σ:St) (H:Hp) (v:V) (u:Value) (Q:St->Hp->Prop),Inv X pins σ H s->RelV v u->t v σ H Q->
  wpAny (model X.prog X.w) X.A (assign z X.env u) (λ_ s'=>∃σ' H',Inv X pins σ' H' s'/\Q σ' H') X.xe s
def PGs(X:Cx)(z:List Expr)(t:TGs):Prop:=
 ∀(pins:List (Addr×Obj)) (s:Shared) (σ:St) (H:Hp) (vs:List V) (us:List Value) (Q:St->Hp->Prop),Inv X pins σ H s->Vals vs us->t vs σ H Q->
  wpAny (model X.prog X.w) X.A (assignInOrder ((assignEach z X.env).map (·.2)) us) (λ_ s'=>∃σ' H',Inv X pins σ' H' s'/\Q σ' H') X.xe s
abbrev oG:=V->V->V->Hp->(Hp->Prop)->Prop
def pK(X:Cx)(t:oG):Prop:=
 ∀(pins:List (Addr×Obj)) (s:Shared) (σ:St) (H:Hp) (o i v:V) (z I u:Value) (Q:Hp->Prop),Inv X pins σ H s->RelV o z->RelV i I->RelV v u->t o i v H Q->
  wpAny (model X.prog X.w) X.A (setItem z I u) (λ_ s'=>∃H',Inv X pins σ H' s'/\Q H') X.xe s
section
variable{X:Cx}{pos:Pos}
def xt(i:Nat):TG:=λv σ H Q=>Q (σ.set i (some v)) H
theorem YG{i:Nat}{x:Str}(z:X.N.Nodup)(hi:X.N[i]? = some x)(J:Loc X.env.scope x)(M:X.fn x=true\/X.env.scope.names.lookup x=some .local:=by first | exact .inl rfl | exact .inr rfl | assumption):PG X (.Name x pos) (xt i):=by
 intro pins s σ H v u Q I r h;exact wpAny_assign_Name (QY I z hi J r (λs' O=>⟨_,H,O,h⟩) M)
def ph:TGs:=λvs σ H Q=>vs=[]/\Q σ H
def iY(t:TG)(u:TGs):TGs:=λvs σ H Q=>∃v r,vs=v::r/\t v σ H λσ' H'=>u r σ' H' Q
theorem jK:PGs X [] ph:=by
 intro pins s σ H vs us Q I r h;obtain⟨e,h⟩:=h;subst e;cases r;exact assignInOrder_nil ⟨σ,H,I,h⟩
theorem zL{e:Expr}{es:List Expr}{t:TG}{u:TGs}(h1:PG X e t)(h2:PGs X es u)
 (z:(assignEach (e::es) X.env).map (·.2)=assign e X.env::(assignEach es X.env).map (·.2):=by rfl):PGs X (e::es) (iY t u):=by
 intro pins s σ H vs us Q I r h;obtain⟨v,vr,e1,h⟩:=h;subst e1;cases r with
 | cons r J=>
  rw [z];refine assignInOrder_cons (thn (h1 pins s σ H _ _ _ I r h) λ_ s1 M=>?_);obtain⟨O,H1,Y,q1⟩:=M;exact h2 pins s1 O H1 _ _ Q Y J q1
def pf(K:rH)(n:Nat)(t:TGs):TG:=λv σ H Q=>∃a xs,v = .ref a/\SqT K H a xs/\xs.length=n/\t xs σ H Q
theorem gX{es:List Expr}{k:Nat}{t:TGs}{n:Nat}(J:X.calm=true)(h:PGs X es t)
 (hn:(assignEach es X.env).length=n:=by rfl) (M:(assignEach es X.env).findIdx? (·.1)=none:=by rfl):PG X (.Tuple es k pos) (pf X.K n t):=by
 intro pins s σ H v u Q I r hw;obtain⟨a,xs,e1,O,Y,hw⟩:=hw;subst e1;cases r;obtain⟨a3,z,ht,hz⟩:=I.tuple O;refine assign_Tuple_tuple (I.ok.hd J) ht (by simp [hn,<- Y,z.length]) M λh' hx=>?_;have I1:Inv X pins σ H {s with heap:=h'}:=I.kept (t':=s.toks) λb o e=>hx b o (sF (sg e)) e;exact h pins _ σ H xs _ Q I1 (by simpa using z) hw
def mw(to z:TE)(t:oG):TG:=λv σ H Q=>to σ H λo H1=>z σ H1 λi H2=>t o i v H2 λI=>Q σ I
theorem gY{o i:Expr}{to O:TE}{t:oG}(Y:PE X o to)(hi:PE X i O)(hs:pK X t)
 (ha : ∀v,assign (.Subscript o i pos) X.env v=(do
   let z <- holding [v] (eval o X.env);let J <- holding [v,z] (eval i X.env)
   standAt pos
   holding [v,z,J] (setItem z J v)
   release [v,z,J] []):=by intro _;rfl):PG X (.Subscript o i pos) (mw to O t):=by
 intro pins s σ H v u Q I r h;rw [ha];refine rK (uD (thn (Y pins s σ H _ I h) λz s1 M=>?_));obtain⟨x,H1,I1,r1,q1⟩:=M;refine rK (uD (thn (hi pins s1 σ H1 _ I1 q1) λJ s2 M=>?_));obtain⟨y,H2,I2,r2,q2⟩:=M;refine rK (CF (rK (uD (thn (hs pins s2 σ H2 x y v z J u _ I2 r1 r2 r q2) λ_ s3 M=>?_))));obtain⟨H3,I3,q3⟩:=M;exact wpAny_release ⟨σ,H3,I3,q3⟩
def ZS(te:TE)(g:TG):TS:=λD σ H=>te σ H λx H1=>g x σ H1 D.nx
theorem wJ{tg e:Expr}{te:TE}{g:TG}(he:PE X e te)(z:PG X tg g)(J:swapsWithSole [tg] e pos.line X.env=pure false:=by rfl)(hw:swappedStores [tg] e X.env=pure none:=by rfl)
 (h1:(assignEach [tg] X.env).map (·.2)=[assign tg X.env]:=by rfl):PS X (.Assign [tg] e pos) (ZS te g):=by
 intro pins s σ H D I h;refine wpAny_Assign_stores (thn (he pins s σ H _ I h) λv s1 M=>?_) J hw;obtain⟨x,H1,O,r1,Y⟩:=M;rw [h1];exact thn (z pins s1 σ H1 x v _ O r1 Y) λ_ s2 q=>q
theorem gS{i:Nat}{x:Str}{e:Expr}{te:TE}{pos':Pos}(z:X.N.Nodup)(hi:X.N[i]? = some x)(J:Loc X.env.scope x)(he:PE X e te)(M:swapsWith e (some (.Name x pos')) pos.line X.env=pure false:=by rfl)(O:X.fn x=true\/X.env.scope.names.lookup x=some .local:=by first | exact .inl rfl | exact .inr rfl | assumption) :
 PS X (.Assign [.Name x pos'] e pos) (ZS te (xt i)):=by
 intro pins s σ H D I h;refine wpAny_Assign_Name (thn (he pins s σ H _ I h) λv s1 Y=>?_) M;obtain⟨y,H1,I1,r1,q1⟩:=Y;exact QY I1 z hi J r1 (λs2 I2=>⟨_,H1,I2,q1⟩) O
end
structure It where
 go:Nat->Hp->Prop
 yld:Nat->Hp->V->Hp->Prop
 stop:Nat->Hp->Prop
def FpOk(X:Cx)(pins:List (Addr×Obj))(H:Hp)(b:Addr):Prop:=
 H b=none/\b≠X.env.locals/\b∉X.fs/\(b∈X.ex\/X.s₀.heap.objs.size<=b)/\(∀x c,X.env.cells.lookup x=some c->c≠b)/\∀p∈X.pn++pins,p.1≠b
theorem Inv.fpOk{X:Cx}{pins:List (Addr×Obj)}{σ:St}{H H':Hp}{s:Shared}{b:Addr}(I:Inv X pins σ H s)(J:s.heap.objs.size<=b)(hn:H' b=none):FpOk X pins H' b:=by
 refine⟨hn,Ai (su I.lt J),I.nofs J,.inr (tP I.sz J),λx c e z=>?_,λp M z=>?_⟩
 ·obtain⟨v,q⟩:=I.cell x c e
  exact absurd (su q.lt (by rw [z];exact J)) (uz _)
 ·exact absurd (su (sg (I.pin p M).1) (by rw [z];exact J)) (uz _)
structure Turn(P:Program)(w:World)(K:rH)(tg:Expr)(J:It)(fp:List Addr)(it:Addr)(tn:Nat->Heap->Prop):Prop where
 mem:it∈fp
 obj : ∀i h,tn i h->∀b∈fp,∃o,h.get? b=some o/\∀v,o.data ≠ .cell v
 keep : ∀i h h',tn i h->(∀b∈fp,∀o,h.get? b=some o->h'.get? b=some o)->tn i h'
 item : ∀(X:Cx),X.prog=P->X.w=w->X.K=K->X.calm=true->∀(i:Nat) (pins:List (Addr×Obj)) (s:Shared) (σ:St) (H:Hp) (E:Value->Shared->Prop),Inv X pins σ H s->(∀b∈fp,FpOk X pins H b)->tn i s.heap->J.go i H->
  wpAny (model P w) X.A (pyNext (.ref it)) (λr s1=>∃u,r=some u/\
   wpAny (model P w) X.A (letOwnedTupleGo tg (.ref it) u) (λ_ s2=>∃x H',Inv X pins σ H' s2/\RelV x u/\J.yld i H x H'/\tn (i+1) s2.heap/\∀b∈fp,H' b=none) E s1) E s
 done : ∀(X:Cx),X.prog=P->X.w=w->X.K=K->X.calm=true->∀(i:Nat) (pins:List (Addr×Obj)) (s:Shared) (σ:St) (H:Hp) (E:Value->Shared->Prop),Inv X pins σ H s->(∀b∈fp,FpOk X pins H b)->tn i s.heap->J.stop i H->
  wpAny (model P w) X.A (pyNext (.ref it)) (λr s1=>r=none/\Inv X pins σ H s1) E s
 self : ∀(A:Around) (i:Nat) (s:Shared) (Q:Value->Shared->Prop) (E:Value->Shared->Prop),tn i s.heap->Q (.ref it) s->wpAny (model P w) A (pyIter (.ref it)) Q E s
abbrev TI:=St->Hp->(It->Hp->Prop)->Prop
def PIE(X:Cx)(pins:List (Addr×Obj))(σ:St)(tg:Expr)(R:It->Hp->Prop)(z:Value)(s2:Shared):Prop:=
 ∃(it:Addr) (fp:List Addr) (tn:Nat->Heap->Prop) (J:It) (H':Hp),z = .ref it/\Inv X pins σ H' s2/\Turn X.prog X.w X.K tg J fp it tn/\tn 0 s2.heap/\(∀b∈fp,FpOk X pins H' b)/\R J H'
def PI(X:Cx)(tg iter:Expr)(wi:TI):Prop:=
 ∀(pins:List (Addr×Obj)) (s:Shared) (σ:St) (H:Hp) (R:It->Hp->Prop),Inv X pins σ H s->wi σ H R->
  wpAny (model X.prog X.w) X.A (eval iter X.env) (λv s1=>wpAny (model X.prog X.w) X.A (pyIter v) (PIE X pins σ tg R) X.xe s1) X.xe s
theorem W7{M:Model}{A:Around}{E:Value->Shared->Prop}{s:Shared}{tg:Expr}{it:Addr}{u:Value}{o:Obj}{n:String}{vs:Array Value}{Q:Unit->Shared->Prop}(I:s.heap.get? it=some o)(J:o.cls = .type n)(hd:o.data = .fields vs)
 (hn:["enumerate","zip","dict_itemiterator","dict_reverseitemiterator","odict_iterator","itertools.zip_longest","itertools.pairwise"].contains n=false) (z:Q () s):wpAny M A (letOwnedTupleGo tg (.ref it) u) Q E s:=by
 unfold letOwnedTupleGo;cases tg<;>first
  | exact rS z
  | (cases u<;>first
      | exact rS z
      | (refine rK (wpAny_load I ?_)
         rw [J,hd];show wpAny M A (if (["enumerate","zip","dict_itemiterator","dict_reverseitemiterator","odict_iterator","itertools.zip_longest","itertools.pairwise"].contains n && vs[0]? == some (rawInt _))=true then _ else _) Q E s;rw [if_neg (by intro h;rw [hn,Bool.false_and]at h;cases h)];exact rS z))
def Itl(K:rH)(a:Addr):It:=
 ⟨λi H=>∃xs x,SqL K H a xs/\xs[i]? = some x,λi H x H'=>H'=H/\∀xs,SqL K H a xs->xs[i]? = some x,λi H=>∃xs,SqL K H a xs/\xs.length<=i⟩
def Itt(K:rH)(a:Addr):It:=
 ⟨λi H=>∃xs x,SqT K H a xs/\xs[i]? = some x,λi H x H'=>H'=H/\∀xs,SqT K H a xs->xs[i]? = some x,λi H=>∃xs,SqT K H a xs/\xs.length<=i⟩
def Itr(lo:Int)(n:Nat):It:=⟨λi _=>i<n,λi H x H'=>H'=H/\x = .int (lo+i),λi _=>n<=i⟩
theorem K0{P:Program}{w:World}{K:rH}{tg:Expr}(a it:Addr):Turn P w K tg (Itl K a) [it] it (λi h=>h.IsListIter it a i) where
 mem:=by simp
 obj:=λi h st b J=>by
  have e:b=it:=by simpa using J
  subst e;obtain⟨o,e,c,d⟩:=st;exact⟨o,e,λv z=>by rw [d]at z;cases z⟩
 keep:=λi h h' st k=>st.at λo e=>k it ⋯ o e
 item:=by
  intro X Y hw hK hc i pins s σ H E I M st hg;subst Y hw hK;obtain⟨xs,x,O,hx⟩:=hg;obtain⟨am,rv,p,hz⟩:=I.list O;obtain⟨u,hu,ru⟩:=rv.get hx;obtain⟨f0,f1,f2,f3,f4,f5⟩:=M it ⋯;refine wpAny_pyNext_list_item st p.isList (x:=u) (by simpa using hu) λh' ac sb=>?_;have I1:Inv X pins σ H {s with heap:=h'}:=I.turned (t':=s.toks) (λb o J e=>(sb.2 b J).trans e) f0 f1 f3 f4 f5;obtain⟨o,e,c,d⟩:=id ac;exact⟨u,rfl,W7 (s:={s with heap:=h'}) e c d ⋯ ⟨x,H,I1,ru,⟨rfl,λys hy=>by rw [I.list_inj hy O];exact hx⟩,ac,λb J=>(M b J).1⟩⟩
 done:=by
  intro X Y hw hK hc i pins s σ H E I M st hg;subst Y hw hK;obtain⟨xs,O,hx⟩:=hg;obtain⟨am,rv,p,hz⟩:=I.list O;obtain⟨f0,f1,f2,f3,f4,f5⟩:=M it ⋯;have hl:=rv.length;exact wpAny_pyNext_list_end (I.ok.hd hc) st p.isList (by simp;omega) λh' eb=>⟨rfl,I.turned (t':=s.toks) (λb o J e=>eb b o J e) f0 f1 f3 f4 f5⟩
 self:=λ_ _ _ _ _ st h=>wpAny_pyIter_listiter st h
theorem X0{P:Program}{w:World}{K:rH}{tg:Expr}(a it:Addr):Turn P w K tg (Itt K a) [it] it (λi h=>h.IsTupleIter it a i) where
 mem:=by simp
 obj:=λi h st b J=>by
  have e:b=it:=by simpa using J
  subst e;obtain⟨o,e,c,d⟩:=st;exact⟨o,e,λv z=>by rw [d]at z;cases z⟩
 keep:=λi h h' st k=>st.at λo e=>k it ⋯ o e
 item:=by
  intro X Y hw hK hc i pins s σ H E I M st hg;subst Y hw hK;obtain⟨xs,x,O,hx⟩:=hg;obtain⟨a3,rv,p,hz⟩:=I.tuple O;obtain⟨u,hu,ru⟩:=rv.get hx;obtain⟨f0,f1,f2,f3,f4,f5⟩:=M it ⋯;refine wpAny_pyNext_tuple_item st (show s.heap.IsTuple a a3.toArray from p) (x:=u) (by simpa using hu) λh' am sb=>?_;have I1:Inv X pins σ H {s with heap:=h'}:=I.turned (t':=s.toks) (λb o J e=>(sb.2 b J).trans e) f0 f1 f3 f4 f5;obtain⟨o,e,c,d⟩:=id am;exact⟨u,rfl,W7 (s:={s with heap:=h'}) e c d ⋯ ⟨x,H,I1,ru,⟨rfl,λys hy=>by rw [I.tuple_inj hy O];exact hx⟩,am,λb J=>(M b J).1⟩⟩
 done:=by
  intro X Y hw hK hc i pins s σ H E I M st hg;subst Y hw hK;obtain⟨xs,O,hx⟩:=hg;obtain⟨a3,rv,p,hz⟩:=I.tuple O;obtain⟨f0,f1,f2,f3,f4,f5⟩:=M it ⋯;have hl:=rv.length;exact wpAny_pyNext_tuple_end (I.ok.hd hc) st (show s.heap.IsTuple a a3.toArray from p) (by simp;omega) λh' eb=>⟨rfl,I.turned (t':=s.toks) (λb o J e=>eb b o J e) f0 f1 f3 f4 f5⟩
 self:=λ_ _ _ _ _ st h=>wpAny_pyIter_tupleiter st h
theorem X3{P:Program}{w:World}{K:rH}{tg:Expr}(it:Addr)(lo:Int)(n:Nat):Turn P w K tg (Itr lo n) [it] it (λi h=>IsRangeIter h it (lo+(i:Nat)*1) ((n:Int) - (i:Nat)) 1) where
 mem:=by simp
 obj:=λi h st b J=>by
  have e:b=it:=by simpa using J
  subst e;exact⟨_,st,λv z=>by
   have z':Data.fields _=Data.cell v:=z;cases z'⟩
 keep:=λi h h' st k=>k it ⋯ _ st
 item:=by
  intro X O hw Y hc i pins s σ H E I M st hg;subst O hw Y;obtain⟨f0,f1,f2,f3,f4,f5⟩:=M it ⋯;have W:=Walks.range (prog:=X.prog) (w:=X.w) (I.ok.hd hc) it lo 1 n;refine W.item i s _ _ hg st λv h' tk hv a7 kk=>?_;obtain⟨t,rfl⟩:=hv;have I1:Inv X pins σ H {s with heap:=h',toks:=tk}:=I.turned (λb o J e=>kk b o (by simpa using J) e) f0 f1 f3 f4 f5;refine⟨_,rfl,W7 (s:={s with heap:=h',toks:=tk}) (n:="range_iterator") a7 rfl rfl ⋯ ⟨.int (lo+i),H,I1,⟨t,?_⟩,⟨rfl,rfl⟩,a7,λb J=>(M b J).1⟩⟩;rw [Ck]
 done:=by
  intro X O hw Y hc i pins s σ H E I M st hg;subst O hw Y;obtain⟨f0,f1,f2,f3,f4,f5⟩:=M it ⋯;exact wpAny_pyNext_range_end (I.ok.hd hc) st (by have:n<=i:=hg;omega) λh' eb=>⟨rfl,I.turned (t':=s.toks) (λb o J e=>eb b o J e) f0 f1 f3 f4 f5⟩
 self:=λ_ _ _ _ _ st h=>wpAny_pyIter_rangeiter st h
section
variable{X:Cx}{tg:Expr}
theorem Q9{pins:List (Addr×Obj)}{σ:St}{H:Hp}{s:Shared}{R:It->Hp->Prop}{E:Value->Shared->Prop}{lo hi:Int}{t u v:Tok}{tk:Nat}(I:Inv X pins σ H s)(h1 : -(2 ^ 62)<=lo)(h2:lo<2 ^ 62)(J : -(2 ^ 62)<=hi)(M:hi<2 ^ 62)
 (q:R (Itr lo (hi - lo).toNat) H):wpAny (model X.prog X.w) X.A (pyIter (.ref s.heap.objs.size)) (PIE X pins σ tg R) E {s with heap:=s.heap.push {cls:= .type "range",data:= .fields #[.int lo t,.int hi u,.int 1 v]},toks:=tk}:=by
 refine wpAny_pyIter_range (IsRange.new ..) (small_one h1 h2 J M) ?_;have z:Inv X pins σ H {s with heap:=s.heap.push {cls:= .type "range",data:= .fields #[.int lo t,.int hi u,.int 1 v]},toks:=tk}:=I.kept λb o e=>rM _ e;refine⟨(s.heap.push {cls:= .type "range",data:= .fields #[.int lo t,.int hi u,.int 1 v]}).objs.size,[(s.heap.push {cls:= .type "range",data:= .fields #[.int lo t,.int hi u,.int 1 v]}).objs.size],_,_,H,rfl,
  z.kept (t':=tk) λb o e=>rM _ e,X3 _ lo (hi - lo).toNat,?_,λb O=>?_,q⟩
 ·have e1:lo+((0:Nat):Int)*1=lo:=by simp
  have e2:(((hi - lo).toNat:Nat):Int) - ((0:Nat):Int)=Ay lo hi 1:=by rw [rangeSize_one];split<;>omega
  show IsRangeIter _ _ (lo+((0:Nat):Int)*1) ((((hi - lo).toNat:Nat):Int) - ((0:Nat):Int)) 1;rw [e1,e2];exact sh _ rfl
 ·have e:b=(s.heap.push {cls:= .type "range",data:= .fields #[.int lo t,.int hi u,.int 1 v]}).objs.size:=by simpa using O
  subst e;exact z.fpOk (se _) (z.hok.fresh (se _))
def nP(ta:TA):TI:=λσ H R=>ta σ H λvs H1=>∃j:Int,vs=[.int j]/\ -(2 ^ 62)<=j/\j<2 ^ 62/\R (Itr 0 j.toNat) H1
def nO(ta:TA):TI:=λσ H R=>ta σ H λvs H1=>∃i j:Int,vs=[.int i,.int j]/\(-(2 ^ 62)<=i/\i<2 ^ 62/\ -(2 ^ 62)<=j/\j<2 ^ 62)/\R (Itr i (j - i).toNat) H1
theorem YE{a:Expr}{ta:TA}{p pos:Pos}(J:Gl X "range")(hm:X.mg "range" = none)(ha:PA X [a] ta)(M:starEach [a] X.env=[(false,eval a X.env)]:=by rfl):PI X tg (.Call (.Name "range" p) [a] [] pos) (nP ta):=by
 intro pins s σ H R I h;refine Call_ (xp I J hm boot_range (tX (thn (ha pos pins s σ H _ I h) λus s1 O=>?_) M rfl));obtain⟨vs,H1,Y,r1,z⟩:=O;obtain⟨j,e,z,q2,q⟩:=z;subst e;cases r1 with
 | cons r rr=>
  cases rr;obtain⟨t,rfl⟩:=r;exact call_range_1 (Q9 Y ⋯ ⋯ z q2 (by simpa using q))
theorem YD{a b:Expr}{ta:TA}{p pos:Pos}(O:Gl X "range")(hm:X.mg "range" = none)(ha:PA X [a,b] ta)(Y:starEach [a,b] X.env=[(false,eval a X.env),(false,eval b X.env)]:=by rfl)(M:starEach [b] X.env=[(false,eval b X.env)]:=by rfl) :
 PI X tg (.Call (.Name "range" p) [a,b] [] pos) (nO ta):=by
 intro pins s σ H R I h;refine Call_ (xp I O hm boot_range (tX (thn (ha pos pins s σ H _ I h) λus s1 hZ=>?_) (by rw [Y,M]) (by rw [M];rfl)));obtain⟨vs,H1,I1,r1,z⟩:=hZ;obtain⟨i,j,e,⟨z,q2,q3,q4⟩,q⟩:=z;subst e;cases r1 with
 | cons r J=>
  cases J with
  | cons r' J=>
   cases J;obtain⟨t,rfl⟩:=r;obtain⟨t',rfl⟩:=r';exact call_range_2 (Q9 I1 z q2 q3 q4 q)
def pV(wi:TI)(g:TG)(tb:TS):TS:=λD σ H=>wi σ H λJ H1=>∃W:Nat->Nat->St->Hp->Prop,(∃m,W 0 m σ H1)/\∀i m σ H,W i m σ H->
 (J.stop i H/\D.nx σ H)\/(J.go i H/\∃N:St->Hp->Prop,(∀σ' H',N σ' H'->∃m',m'<m/\W (i+1) m' σ' H')/\∀x H',J.yld i H x H'->g x σ H' λz H2=>tb {D with nx:=N,ct:=N,bk:=D.nx} z H2)
def Jt(fp:List Addr)(h:Heap):List (Addr×Obj):=fp.filterMap λb=>(h.get? b).map λo=>(b,o)
theorem xS{fp:List Addr}{h:Heap}{b:Addr}{o:Obj}(z:b∈fp)(e:h.get? b=some o):(b,o)∈Jt fp h:=List.mem_filterMap.mpr ⟨b,z,by rw [e];rfl⟩
theorem YN{fp:List Addr}{h:Heap}{p:Addr×Obj}(z:p∈Jt fp h):p.1∈fp/\h.get? p.1=some p.2:=by
 obtain⟨b,I,e⟩:=List.mem_filterMap.mp z;cases q:h.get? b with
 | none=>rw [q]at e;cases e
 | some o=>
  rw [q]at e;have J:(b,o)=p:=sH e;subst J;exact⟨I,q⟩
theorem Inv.pinned{pins:List (Addr×Obj)}{σ:St}{H:Hp}{s:Shared}{fp:List Addr}(I:Inv X pins σ H s)(O : ∀b∈fp,FpOk X pins H b)(Y : ∀b∈fp,∃o,s.heap.get? b=some o/\∀v,o.data ≠ .cell v):Inv X (pins++Jt fp s.heap) σ H s:=
 I.pins_of λp hp=>(Au.mp hp).elim (λz=>I.pin p (ub _ z)) λz=>by
  obtain⟨J,e⟩:=YN z;obtain⟨f0,f1,f2,_⟩:=O p.1 J;obtain⟨o,M,d⟩:=Y p.1 J;rw [e]at M;cases M;exact⟨e,f0,f1,f2,d⟩
theorem Inv.unpinned{pins pl:List (Addr×Obj)}{σ:St}{H:Hp}{s:Shared}(I:Inv X (pins++pl) σ H s):Inv X pins σ H s:=I.pins_of λp z=>I.pin p (ub _ (List.mem_append_left _ z))
theorem Jr{iter:Expr}{body:List Stmt}{wi:TI}{g:TG}{tb:TS}{pos:Pos}(hp:PassesOwn (model X.prog X.w) X.A X.env X.xe)(hc:X.calm=true)(hi:PI X tg iter wi)(hg:PG X tg g)(z:PSs X body tb)
 (hs : ∀x,foldedSetIterable iter X.env x=pure x:=by intro _;rfl):PS X (.For tg iter body [] pos) (pV wi g tb):=by
 intro pins s σ H D I h;refine wpAny_For (thn (hi pins s σ H _ I h) λv s1 h1=>thn h1 λcd s2 h2=>?_) hs;obtain⟨it,fp,tn,J,H2,e,I2,T,bd,f2,W,⟨m0,w0⟩,bi⟩:=h2;subst e;have a6 : ∀{H':Hp},(∀b∈fp,H' b=none)->∀b∈fp,FpOk X pins H' b:=λhn b z=>⟨hn b z,(f2 b z).2⟩;refine codeAny_forLoop_any (λn s'=>∃i σ' H',Inv X pins σ' H' s'/\tn i s'.heap/\(∀b∈fp,H' b=none)/\W i n σ' H') ?_ m0 ⟨0,σ,H2,I2,bd,λb z=>(f2 b z).1,w0⟩;rintro n s3 ⟨i,σ3,H3,I3,st3,ar,w3⟩;rcases bi i n σ3 H3 w3 with⟨stop,qn⟩ | ⟨go,N,hN,step⟩
 ·refine Bv hp (thn (T.done X rfl rfl rfl hc i pins s3 σ3 H3 X.xe I3 (a6 ar) st3 stop) λr s4 hZ=>?_)
  obtain⟨hr,I4⟩:=hZ;subst hr;exact wpAny_execs_nil ⟨σ3,H3,I4,qn⟩
 ·refine Bv hp (thn (T.item X rfl rfl rfl hc i pins s3 σ3 H3 X.xe I3 (a6 ar) st3 go) λr s4 hZ=>?_)
  obtain⟨u,hr,h4⟩:=hZ;subst hr;refine Bv hp (thn h4 λ_ s5 hZ=>?_);obtain⟨x,H5,I5,r5,y5,a8,c1⟩:=hZ;have c2:=I5.pinned (a6 c1) (T.obj _ _ a8);refine Bv hp (thn (hg _ s5 σ3 H5 x u _ c2 r5 (step x H5 y5)) λ_ s6 hZ=>?_);obtain⟨σ6,H6,I6,q6⟩:=hZ;refine Bv hp (thn (z _ s6 σ6 H6 _ I6 q6) λf s7 q7=>?_);have again : ∀{M:St} {O:Hp},Inv X (pins++Jt fp s5.heap) M O s7->N M O->∃m,m<n/\∃i σ' H',Inv X pins σ' H' s7/\tn i s7.heap/\(∀b∈fp,H' b=none)/\W i m σ' H':=λ{M O} Y n7=>by
   obtain⟨m',hm,w7⟩:=hN M O n7;refine⟨m',hm,i+1,M,O,Y.unpinned,T.keep _ _ _ a8 λb z o e=>(Y.pin (b,o) (ub _ (ub _ (xS z e)))).1,λb z=>?_,w7⟩;obtain⟨o,e,d⟩:=T.obj _ _ a8 b z;exact(Y.pin (b,o) (ub _ (ub _ (xS z e)))).2.1
  cases f with
  | next=>obtain⟨M,O,Y,n7⟩:=q7;exact again Y n7
  | cont=>obtain⟨M,O,Y,n7⟩:=q7;exact again Y n7
  | brk=>obtain⟨M,O,Y,q7⟩:=q7;exact⟨M,O,Y.unpinned,q7⟩
  | ret v=>obtain⟨x7,M,O,Y,r7,q7⟩:=q7;exact⟨x7,M,O,Y.unpinned,r7,q7⟩
end
theorem JH{lo:Int}{n:Nat}{g:TG}{tb:TS}{D:Ends}{σ:St}{H:Hp}(z:Nat->St->Hp->Prop)(h0:z 0 σ H)
 (M : ∀i σ H,i<n->z i σ H->g (.int (lo+i)) σ H λI H2=>tb {D with nx:=z (i+1),ct:=z (i+1),bk:=D.nx} I H2) (hd : ∀σ H,z n σ H->D.nx σ H) :
 ∃W:Nat->Nat->St->Hp->Prop,(∃m,W 0 m σ H)/\∀i m σ H,W i m σ H->
  ((Itr lo n).stop i H/\D.nx σ H)\/((Itr lo n).go i H/\∃N:St->Hp->Prop,(∀σ' H',N σ' H'->∃m',m'<m/\W (i+1) m' σ' H')/\∀x H',(Itr lo n).yld i H x H'->g x σ H' λI H2=>tb {D with nx:=N,ct:=N,bk:=D.nx} I H2):=by
 refine⟨λi m σ H=>m=n - i/\i<=n/\z i σ H,⟨n,by simp,tZ _,h0⟩,?_⟩;rintro i m σ H ⟨rfl,hi,p⟩;by_cases J:i<n
 ·refine .inr ⟨J,z (i+1),λσ' H' O=>⟨n - (i+1),by omega,rfl,J,O⟩,λx H' y=>?_⟩
  obtain⟨e,y⟩:=y;subst e y;exact M i σ _ J p
 ·have e:i=n:=by omega
  subst e;exact .inl ⟨se _,hd σ H p⟩
abbrev R2:=V->V->Hp->VK->Prop
def OpR(X:Cx)(f:Value->Value->Sem Value)(r:R2):Prop:=
 ∀(pins:List (Addr×Obj)) (s:Shared) (σ:St) (H:Hp) (x y:V) (v u:Value) (Q:VK),Inv X pins σ H s->RelV x v->RelV y u->r x y H Q->
  wpAny (model X.prog X.w) X.A (f v u) (EP X pins σ Q) X.xe s
def UnR(X:Cx)(f:Value->Sem Value)(r:V->Hp->VK->Prop):Prop:=
 ∀(pins:List (Addr×Obj)) (s:Shared) (σ:St) (H:Hp) (x:V) (v:Value) (Q:VK),Inv X pins σ H s->RelV x v->r x H Q->
  wpAny (model X.prog X.w) X.A (f v) (EP X pins σ Q) X.xe s
def yG(X:Cx)(f:Value)(r:List V->Hp->VK->Prop):Prop:=
 ∀(pins:List (Addr×Obj)) (s:Shared) (σ:St) (H:Hp) (xs:List V) (us:List Value) (Q:VK),Inv X pins σ H s->Vals xs us->r xs H Q->
  wpAny (model X.prog X.w) X.A (call f us) (EP X pins σ Q) X.xe s
def rE(X:Cx)(r:V->Hp->(Bool->Hp->Prop)->Prop):Prop:=
 ∀(pins:List (Addr×Obj)) (s:Shared) (σ:St) (H:Hp) (x:V) (v:Value) (Q:Bool->Hp->Prop),Inv X pins σ H s->RelV x v->r x H Q->
  wpAny (model X.prog X.w) X.A (truthy v) (TP X pins σ Q) X.xe s
def tOp(r:R2)(ta tb:TE):TE:=λσ H Q=>ta σ H λx H1=>tb σ H1 λy H2=>r x y H2 Q
def tUn(r:V->Hp->VK->Prop)(ta:TE):TE:=λσ H Q=>ta σ H λx H1=>r x H1 Q
def rI(C:Int->Int->Prop)(g:Int->Int->V):R2:=λx y H Q=>∃i j,x = .int i/\y = .int j/\C i j/\Q (g i j) H
def rI0(g:Int->Int->V):R2:=λx y H Q=>∃i j,x = .int i/\y = .int j/\Q (g i j) H
def rU(g:Int->V):V->Hp->VK->Prop:=λx H Q=>∃i,x = .int i/\Q (g i) H
section
variable{X:Cx}{a b c:Expr}{ta tb tc:TE}{pos:Pos}
theorem oo(ha:PE X a ta)(J:PE X b tb){pins:List (Addr×Obj)}{s:Shared}{σ:St}{H:Hp}{R:V->V->Hp->Prop}(I:Inv X pins σ H s)
 (h:ta σ H λx H1=>tb σ H1 λy H2=>R x y H2) {Q:Value->Shared->Prop} {f:Value->Value->Sem Value}
 (M : ∀v u s2 x y H2,Inv X pins σ H2 s2->RelV x v->RelV y u->R x y H2->wpAny (model X.prog X.w) X.A (f v u) Q X.xe s2) :
 wpAny (model X.prog X.w) X.A (eval a X.env) (λv O=>wpAny (model X.prog X.w) X.A (eval b X.env) (λu Y=>wpAny (model X.prog X.w) X.A (f v u) Q X.xe Y) X.xe O) X.xe s:=by
 refine thn (ha pins s σ H _ I h) λv s1 z=>?_;obtain⟨x,H1,I1,r1,q1⟩:=z;refine thn (J pins s1 σ H1 _ I1 q1) λu s2 z=>?_;obtain⟨y,H2,I2,r2,q2⟩:=z;exact M v u s2 x y H2 I2 r1 r2 q2
theorem dm{z:Operator}{r:R2}(J:OpR X (binaryOp z) r)(ha:PE X a ta)(M:PE X b tb):PE X (.BinOp a z b pos) (tOp r ta tb):=by
 intro pins s σ H Q I h;exact wpAny_BinOp (oo ha M I h λv u s2 x y H2 O Y ry q=>J pins s2 σ H2 x y v u Q O Y ry q)
theorem nv{z:UnaryOp}{r:V->Hp->VK->Prop}(J:UnR X (unaryOp z) r)(ha:PE X a ta):PE X (.UnaryOp z a pos) (tUn r ta):=by
 intro pins s σ H Q I h;exact UnaryOp_ (thn (ha pins s σ H _ I h) λv s1 ⟨x,H1,M,r1,O⟩=>J pins s1 σ H1 x v Q M r1 O)
theorem opI{f:Value->Value->Sem Value}{C:Int->Int->Prop}{g:Int->Int->Int}
 (rule : ∀(i j:Int) (t u:Tok) (s:Shared) (Q:Value->Shared->Prop) (E:Value->Shared->Prop),C i j->Q (.int (g i j) s.toks) {s with toks:=s.toks+1}->wpAny (model X.prog X.w) X.A (f (.int i t) (.int j u)) Q E s) :
 OpR X f (rI C λi j=> .int (g i j)):=by
 intro pins s σ H x y v u Q I z J h;obtain⟨i,j,rfl,rfl,M,q⟩:=h;obtain⟨t,rfl⟩:=z;obtain⟨t',rfl⟩:=J;exact rule i j t t' s _ _ M ⟨.int (g i j),H,I.tok _,⟨_,rfl⟩,q⟩
theorem pb{f:Value->Value->Sem Value}{g:Int->Int->Int}
 (rule : ∀(i j:Int) (t u:Tok) (s:Shared) (Q:Value->Shared->Prop) (E:Value->Shared->Prop),Q (.int (g i j) s.toks) {s with toks:=s.toks+1}->wpAny (model X.prog X.w) X.A (f (.int i t) (.int j u)) Q E s) :
 OpR X f (rI0 λi j=> .int (g i j)):=by
 intro pins s σ H x y v u Q I z J h;obtain⟨i,j,rfl,rfl,q⟩:=h;obtain⟨t,rfl⟩:=z;obtain⟨t',rfl⟩:=J;exact rule i j t t' s _ _ ⟨.int (g i j),H,I.tok _,⟨_,rfl⟩,q⟩
theorem pd{f:Value->Value->Sem Value}{g:Int->Int->Bool}
 (rule : ∀(i j:Int) (t u:Tok) (s:Shared) (Q:Value->Shared->Prop) (E:Value->Shared->Prop),Q (.bool (g i j)) s->wpAny (model X.prog X.w) X.A (f (.int i t) (.int j u)) Q E s) :
 OpR X f (rI0 λi j=> .bl (g i j)):=by
 intro pins s σ H x y v u Q I z J h;obtain⟨i,j,rfl,rfl,q⟩:=h;obtain⟨t,rfl⟩:=z;obtain⟨t',rfl⟩:=J;exact rule i j t t' s _ _ ⟨.bl (g i j),H,I,rfl,q⟩
def pN(i j:Int):Prop:=0<j/\j<1073741824
def pM(i j:Int):Prop:=0<=j/\j<=1000000/\i.natAbs<2 ^ 64
def CMul(i j:Int):Prop:=(-(2 ^ 64)<i/\i<2 ^ 64)\/(-(2 ^ 64)<j/\j<2 ^ 64)
theorem CMul.ok{i j:Int}(h:CMul i j):IntMulOk i j:=by
 rcases h with⟨h1,h2⟩ | ⟨h1,h2⟩
 ·exact .of_left (intBits_le_64 h1 h2)
 ·exact .of_right (intBits_le_64 h1 h2)
theorem op_add:OpR X (binaryOp .Add) (rI0 λi j=> .int (i+j)):=pb λ_ _ _ _ _ _ _ q=>add_int q
theorem ie:OpR X (binaryOp .Sub) (rI0 λi j=> .int (i - j)):=pb λ_ _ _ _ _ _ _ q=>sub_int q
theorem op_mul:OpR X (binaryOp .Mult) (rI CMul λi j=> .int (i*j)):=opI λ_ _ _ _ _ _ _ z q=>mul_int q z.ok
theorem dG:OpR X (binaryOp .FloorDiv) (rI pN λi j=> .int (i/j)):=opI λi j _ _ _ _ _ z q=>by
 have h1:(0:Int)<j:=z.1;have h2:j<1073741824:=z.2;exact floordiv_int ⋯ (by rw [Int.fdiv_eq_ediv_of_nonneg i ⋯];exact q) (.inl (PyProof.noPylong_small ⋯))
theorem iq:OpR X (binaryOp .Mod) (rI (λ_ j=>0<j) λi j=> .int (i%j)):=opI λi j _ _ _ _ _ z q=>by
 have h1:(0:Int)<j:=z;exact mod_int' ⋯ (by rw [Int.fmod_eq_emod_of_nonneg i ⋯];exact q)
theorem ig:OpR X (binaryOp .Pow) (rI pM λi j=> .int (i ^ j.toNat)):=opI λ_ _ _ _ _ _ _ z q=>pow_int_small z.1 z.2.1 z.2.2 q
theorem unI{f:Value->Sem Value}{g:Int->Int}
 (rule : ∀(i:Int) (t:Tok) (s:Shared) (Q:Value->Shared->Prop) (E:Value->Shared->Prop),Q (.int (g i) s.toks) {s with toks:=s.toks+1}->wpAny (model X.prog X.w) X.A (f (.int i t)) Q E s) :
 UnR X f (rU λi=> .int (g i)):=by
 intro pins s σ H x v Q I z h;obtain⟨i,rfl,q⟩:=h;obtain⟨t,rfl⟩:=z;exact rule i t s _ _ ⟨.int (g i),H,I.tok _,⟨_,rfl⟩,q⟩
theorem fQ:UnR X (unaryOp .USub) (rU λi=> .int (-i)):=unI λ_ _ _ _ _ q=>neg_int q
end
section
variable{X:Cx}{a b c:Expr}{ta tb tc:TE}{pos:Pos}
theorem ir:OpR X (compareOp .LtE) (rI0 λi j=> .bl (decide (i<=j))):=pd λ_ _ _ _ _ _ _ q=>le_int q
theorem nz:OpR X (compareOp .Gt) (rI0 λi j=> .bl (decide (j<i))):=pd λ_ _ _ _ _ _ _ q=>gt_int q
theorem OpR.or{f:Value->Value->Sem Value}{r r':R2}(h:OpR X f r)(h':OpR X f r'):OpR X f (λx y H Q=>r x y H Q\/r' x y H Q):=by
 intro pins s σ H x y v u Q I z J q;rcases q with q | q
 ·exact h pins s σ H x y v u Q I z J q
 ·exact h' pins s σ H x y v u Q I z J q
theorem Xl(b:Expr){z:CmpOp}(h:z ≠ .In:=by decide)(h2:z ≠ .NotIn:=by decide):behindInMarks z b=false:=by
 have e1:(z==CmpOp.In)=false:=by cases z<;>first | rfl | exact absurd rfl h
 have e2:(z==CmpOp.NotIn)=false:=by cases z<;>first | rfl | exact absurd rfl h2
 cases b<;>simp [behindInMarks,e1,e2]
theorem dB{z:CmpOp}{r:R2}(J:OpR X (compareOp z) r)(ha:PE X a ta)(M:PE X b tb)(hm:behindInMarks z b=false):PE X (.Compare a [z] [b] pos) (tOp r ta tb):=by
 intro pins s σ H Q I h;exact wpAny_Compare1 (oo ha M I h λv u s2 x y H2 O Y ry q=>J pins s2 σ H2 x y v u Q O Y ry q) hm
def fW(t:TE):TT:=λσ H Q=>t σ H λx H'=>∃k,x = .bl k/\Q k H'
theorem Yr{J:CmpOp}{r:R2}(M:OpR X (compareOp J) r)(ha:PE X a ta)(O:PE X b tb)(hm:behindInMarks J b=false):PT X (.Compare a [J] [b] pos) (fW (tOp r ta tb)):=by
 intro pins s σ H Q I h;refine wpAny_isTrue_Compare1 (thn (ha pins s σ H _ I h) λv s1 ⟨x,H1,Y,r1,q1⟩=>thn (O pins s1 σ H1 _ Y q1) λu s2 ⟨y,H2,I2,r2,q2⟩=>
  thn (M pins s2 σ H2 x y v u _ I2 r1 r2 q2) λc s3 ⟨z,H3,I3,r3,k,e,q3⟩=>?_) hm
 subst e;cases r3;exact uW ⟨H3,I3,q3⟩
def gc(r r':R2)(ta tb tc:TE):TE:=λσ H Q=>ta σ H λx H1=>tb σ H1 λy H2=>r x y H2 λz I=>∃k,z = .bl k/\
 (if k=true then tc σ I λw' J=>r' y w' J Q else Q (.bl false) I)
theorem Ws{J M:CmpOp}{r r':R2}(ho:OpR X (compareOp J) r)(a2:OpR X (compareOp M) r')(ha:PE X a ta)(hb:PE X b tb)(hc:PE X c tc)
 (hm:lastMarks [J,M] [b,c]=false:=by with_unfolding_all rfl):PT X (.Compare a [J,M] [b,c] pos) (fW (gc r r' ta tb tc)):=by
 intro pins s σ H Q I h;refine isTrue_chain (thn (ha pins s σ H _ I h) λv s1 ⟨x,H1,I1,r1,q1⟩=>test_link (thn (hb pins s1 σ H1 _ I1 q1) λu s2 ⟨y,H2,I2,r2,q2⟩=>
  thn (ho pins s2 σ H2 x y v u _ I2 r1 r2 q2) λd s3 ⟨z,O,Y,r3,k,e,q3⟩=>?_)) hm
 subst e;cases r3;refine uW ?_;cases k with
 | false=>
  obtain⟨k',e',q'⟩:=q3;cases e';exact ite_ff ⟨O,Y,q'⟩
 | true=>
  refine ite_tt (test_last (thn (hc pins s3 σ O _ Y q3) λw' s4 ⟨z',H4,I4,r4,q4⟩=>thn (a2 pins s4 σ H4 y z' u w' _ I4 r2 r4 q4) λd' s5 ⟨z2,H5,I5,r5,k2,e2,q5⟩=>?_));subst e2;cases r5;exact uW ⟨H5,I5,q5⟩
def pG(K:rH)(x:V)(H:Hp)(k:Bool):Prop:=
 match x with
 | .non=>k=false
 | .bl b=>k=b
 | .int i=>k=(i != 0)
 | .str y=>y.length<=sizeLine/\k=((y.length:Int) != 0)
 | .byt y=>y.size<=sizeLine/\k=((y.size:Int) != 0)
 | .ref p=>(∃xs,SqL K H p xs/\k = !xs.isEmpty)\/(∃xs,SqT K H p xs/\k = !xs.isEmpty)\/∃kvs,H p=some (.dK kvs)/\k = !kvs.isEmpty
 | _=>False
theorem Ky{κ:Type}{kvs:List (κ×V)}{vs:List (κ×Value)}(r:KV kvs vs):(!vs.isEmpty) = !kvs.isEmpty:=by
 cases r<;>rfl
theorem wQ{xs:List V}{z:List Value}(r:Vals xs z):(!z.toArray.isEmpty) = !xs.isEmpty:=by
 cases r<;>simp
theorem vE:(sizeLine:Nat)<2 ^ 63:=by rw [BQ];decide
theorem fT:rE X (λx H Q=>∃k,pG X.K x H k/\Q k H):=by
 intro pins s σ H x v Q I J h;obtain⟨k,e,q⟩:=h;have hl:=vE;have hs:sizeLine=16777216:=BQ;cases x with
 | non=>
  cases J;have z:k=false:=e;subst z;exact truthy_none ⟨H,I,q⟩
 | bl b=>
  cases J;have z:k=b:=e;subst z;exact uW ⟨H,I,q⟩
 | int i=>
  obtain⟨t,rfl⟩:=J;have z:k=(i != 0):=e;subst z;exact PySem.P.truthy_int ⟨H,I,q⟩
 | str y=>
  obtain⟨t,rfl⟩:=J;obtain⟨hy,z⟩:y.length<=sizeLine/\k=((y.length:Int) != 0):=e;subst z;exact PySem.P.truthy_str ⋯ ⟨H,I.tok _,q⟩
 | byt y=>
  obtain⟨t,rfl⟩:=J;obtain⟨hy,z⟩:y.size<=sizeLine/\k=((y.size:Int) != 0):=e;subst z;exact PySem.W.truthy_bytes ⋯ ⟨H,I.tok _,q⟩
 | ref p=>
  cases J;have z:(∃xs,SqL X.K H p xs/\k = !xs.isEmpty)\/(∃xs,SqT X.K H p xs/\k = !xs.isEmpty)\/∃kvs,H p=some (.dK kvs)/\k = !kvs.isEmpty:=e;rcases z with⟨xs,M,z⟩ | ⟨xs,M,z⟩ | ⟨kvs,M,z⟩
  ·subst z
   obtain⟨a1,r,pl,O⟩:=I.list M;have Y:=r.length;exact wpAny_truthy_list pl.isList (by simp only [rZ];omega) ⟨H,I.tok _,by rw [wQ r];exact q⟩
  ·subst z
   obtain⟨a1,r,pl,O⟩:=I.tuple M;have Y:=r.length;exact truthy_tuple pl (by simp only [rZ];omega) ⟨H,I.tok _,by rw [wQ r];exact q⟩
  ·subst z
   obtain⟨O,hS,vs,r,m⟩:kvs.length<=sizeLine/\(p==sysModules)=false/\∃vs,KV kvs vs/\s.heap.DictOf (Qq X.prog X.w) p vs:=I.hok p _ M;have Y:kvs.length=vs.length:=Paired.length r;exact wpAny_truthy_dict hS m ⋯ ⟨H,I.tok _,by rw [Ky r];exact q⟩
 | _=>exact(show False from e).elim
theorem Wr(ha:PE X a ta)(he : ∀z,isTrue a X.env z=(do let v <- z;standAt a.pos;holding [v] (truthy v))) :
 PT X a (λσ H Q=>ta σ H λx H'=>∃k,pG X.K x H' k/\Q k H'):=by
 intro pins s σ H Q I h;exact isTrue_plain (thn (ha pins s σ H _ I h) λv s1 ⟨x,H1,J,r1,M⟩=>fT pins s1 σ H1 x v Q J r1 M) (he _)
theorem Ks:OpR X (binaryOp .Add) (λx y H Q=>∃i j,x = .str i/\y = .str j/\i.length+j.length<=sizeLine/\Q (.str (i++j)) H):=by
 intro pins s σ H x y v u Q I z J h;obtain⟨i,j,rfl,rfl,M,q⟩:=h;obtain⟨t,rfl⟩:=z;obtain⟨t',rfl⟩:=J;exact add_str (λt' tk=>⟨.str (i++j),H,I.tok _,⟨_,rfl⟩,q⟩) M
theorem kY{x:V}{us:List Value}(r:Vals [x] us) : ∃u,us=[u]/\RelV x u:=by
 cases r with
 | cons r1 r2=>cases r2;exact⟨_,rfl,r1⟩
theorem fP{x y:V}{us:List Value}(r:Vals [x,y] us) : ∃u w',us=[u,w']/\RelV x u/\RelV y w':=by
 cases r with
 | cons r1 r2=>
  cases r2 with
  | cons r3 r4=>cases r4;exact⟨_,_,rfl,r1,r3⟩
theorem Vq(J:X.calm=true):yG X (.builtin "min") (λxs H Q=>∃i j,xs=[.int i,.int j]/\Q (.int (if j<i then j else i)) H):=by
 intro pins s σ H xs us Q I r h;obtain⟨i,j,rfl,q⟩:=h;obtain⟨u,w',rfl,⟨t,rfl⟩,⟨t',rfl⟩⟩:=fP r;refine min_two_ints (I.ok.hd J) λh' tk k=>⟨_,H,I.kept k,?_,q⟩;by_cases z:j<i
 ·rw [if_pos z,if_pos z];exact⟨_,rfl⟩
 ·rw [if_neg z,if_neg z];exact⟨_,rfl⟩
theorem Vr:yG X (.type "int") (λxs H Q=>(∃i,xs=[.int i]/\Q (.int i) H)\/∃k,xs=[.bl k]/\Q (.int (if k then 1 else 0)) H):=by
 intro pins s σ H xs us Q I r h;rcases h with⟨i,rfl,q⟩ | ⟨k,rfl,q⟩
 ·obtain⟨u,rfl,t,rfl⟩:=kY r
  exact call_int_int ⟨.int i,H,I,⟨_,rfl⟩,q⟩
 ·obtain⟨u,rfl,r1⟩:=kY r
  cases r1;exact call_int_bool ⟨.int (if k then 1 else 0),H,I.tok _,⟨_,rfl⟩,q⟩
end
structure ObjM(h:Heap)(x dx C:Addr)(mA:Str->Option Value):Prop where
 obj:h.get? x=some (uZ C dx)
 ns:h.Ns1 dx mA
 ne:dx≠x
theorem YV{h:Heap}{dx:Addr}{mA:Str->Option Value}(n:h.Ns1 dx mA) : ∃od,h.get? dx=some od/\∀name,BL name od=some (mA name):=by
 obtain⟨o,es,ep,I,hd,J,_,hm⟩:=n;refine⟨o,I,λname=>?_⟩;have e:=hm name;unfold nsFind findBy at e;rw [<- Array.find?_toList]at e;unfold BL;rw [hd];dsimp only;split
 ·rename_i y q
  rw [q]at e;exact congrArg some e
 ·rename_i q
  rw [q]at e;have a:es.toList.any (·.refKey)=false:=by
   rw [BC];intro y M;obtain⟨z,t,O⟩:=J y (Array.mem_toList_iff.mp M);simp [DictEntry.refKey,O]
  have Y : ¬es.toList.any (·.refKey)=true:=by rw [a];exact tj
  rw [if_neg Y];exact congrArg some e
theorem ObjM.look{h:Heap}{x dx C:Addr}{mA:Str->Option Value}(I:ObjM h x dx C mA) : ∃od,PySem.W.InstAt h x (uZ C dx) C (some od)/\∀name,BL name od=some (mA name):=
 let ⟨od,z,J⟩:=YV I.ns
 ⟨od,⟨I.obj,rfl,rfl,z⟩,J⟩
section
variable{prog:Program}{w:World}{A:Around}{E:Value->Shared->Prop}{s:Shared}{K:rH}{x dx C f:Addr}{mA:Str->Option Value}{name:Str}{v:Value}
theorem eh{z:Bool}{Q:Value->Shared->Prop}(X:K.In s.heap)(I:ObjM s.heap x dx C mA)(M:Az K C name=true)(O:AQ K C=true)
 (ha:sD K (.ref C) name=some none) (Y:mA name=some v) (a0:PySem.W.handedIn v=true) (h:Q v {s with toks:=s.toks+1}) :
 wpAny (model prog w) A (getAttr (.ref x) name z) Q E s:=by
 obtain⟨od,J,hl⟩:=I.look;exact PySem.W.get_value X J (BR M).1 (PySem.W.findObj_own O ha rfl (by rw [hl,Y])) a0 h
theorem W8{pl:Sem Bool}{Q:Value×List Value->Shared->Prop}(X:K.In s.heap)(I:ObjM s.heap x dx C mA)(z:Az K C name=true)
 (M:sD K (.ref C) name=some (some (.ref f))) (O:AB K (.ref f)=true) (Y:mA name=none) (h:Q (.ref f,[.ref x]) s) :
 wpAny (model prog w) A (getMethod (.ref x) name pl) Q E s:=by
 obtain⟨od,J,hl⟩:=I.look;exact PySem.W.method_fn X J (BR z).1 (BR z).2 M (beq_iff_eq.mp O) (by show(BL name od).map (·.isSome)=some false;rw [hl,Y];rfl) h
theorem cE{ns:List Str}{Q:Unit->Shared->Prop}(X:K.In s.heap)(I:ObjM s.heap x dx C mA)
 (O:sD K (.ref C) "__setattr__" = some (some (.builtin "object.__setattr__"))) (Y:Bp K C=true) (ht:PySem.W.takerIn K C name=some none) (hh:AQ K C=true)
 (hw:Cr mA ns) (hsz:ns.length<=sizeLine)
 (h : ∀h',ObjM h' x dx C (λy=>if y=name then some v else mA y)->Ah dx s.heap h'->Q () {s with heap:=h',toks:=s.toks+2}) :
 wpAny (model prog w) A (setAttr (.ref x) name v) Q E s:=by
 obtain⟨od,J,hl⟩:=I.look;refine PySem.W.set_plain X J O (PySem.W.osa_open (s:={s with toks:=s.toks+1}) (r:=none) X J Y ht λb=>?_);obtain⟨cd,hc,a3⟩:=PySem.W.any_some hh;have hx:s.heap.get? x=some ⟨.ref C,some dx,.plain,#[]⟩:=I.obj;refine rK (rS (rK (rK (wpAny_loadPart hx (rK (PySem.W.Looks.here (s:={s with toks:=s.toks+1}) (PySem.W.looks_clsIn X hc) ?_))))));rw [a3];refine rS (a:=some dx) (rK (rS (rK ?_)));refine wpAny_nsSet1 (s:={s with toks:=s.toks+1}) I.ns λh' z M=>?_;obtain⟨oD,ac,am,a5,a6,a7⟩:=z.count (Cr.cons name v hw);refine rK (wpAny_lookBehind a5 (by rw [a6];exact pastItsLine_dict (tP a7 (by rw [sP];omega))) ?_);exact rS (h _ ⟨(M.2 _ (uu I.ne)).trans I.obj,z,I.ne⟩ M)
theorem WR{R:Result->Shared->Prop}{vs:List Value}{z:List (Str×Value)}(X:K.In s.heap)(hm:BH K C=true)
 (hi:sD K (.ref C) "__init__" = some (some (.ref f))) (I:Bk K (.ref f)=some (.type "function"))
 (h:codeAny (model prog w) (A.under (.builtin "type.__call__" ⟨.ref C::vs,z⟩)) (.call (.ref f) ⟨.ref (s.heap.objs.size+1)::vs,z⟩) (PySem.W.InitBack (s.heap.objs.size+1) R)
   {s with heap:=(s.heap.push uE).push (uZ C s.heap.objs.size)}) :
 codeAny (model prog w) A (.call (.ref C) ⟨vs,z⟩) R s:=by
 obtain⟨J,g,d,t,os⟩:=s;exact PySem.W.make_core (PySem.W.makes_of X hm) (PySem.W.looks_findIn X hi) (λself=>PySem.W.bind_fn X self I) (.inl rfl) h
end
def Zl(f:Str)(v:V):List (Str×V)->List (Str×V)
 | []=>[(f,v)]
 | (g,x)::r=>if g=f then (g,v)::r else (g,x)::Zl f v r
theorem jB(f g:Str)(v:V) : ∀fs:List (Str×V),(Zl f v fs).lookup g=if g=f then some v else fs.lookup g
 | []=>by
  show AG g [(f,v)]=_;by_cases h:g=f
  ·have z:(g==f)=true:=beq_iff_eq.mpr h
   simp only [AG,z,if_pos h]
  ·have z:(g==f)=false:=beq_eq_false_iff_ne.mpr h
   simp only [AG,z,if_neg h]
 | (k,x)::r=>by
  have J:=jB f g v r;rw [show Zl f v ((k,x)::r)=(if k=f then (k,v)::r else (k,x)::Zl f v r)from rfl];by_cases I:k=f
  ·rw [if_pos I]
   by_cases h:g=k
   ·have z:(g==k)=true:=beq_iff_eq.mpr h
    simp only [AG,z,if_pos (h.trans I)]
   ·have z:(g==k)=false:=beq_eq_false_iff_ne.mpr h
    simp only [AG,z,if_neg (λe:g=f=>h (e.trans I.symm))]
  ·rw [if_neg I]
   by_cases h:g=k
   ·have z:(g==k)=true:=beq_iff_eq.mpr h
    simp only [AG,z,if_neg (λe:g=f=>I (h.symm.trans e))]
   ·have z:(g==k)=false:=beq_eq_false_iff_ne.mpr h
    simp only [AG,z];exact J
theorem vG(f:Str)(v:V) : ∀fs:List (Str×V),f∈(Zl f v fs).map (·.1)/\∀g,g∈fs.map (·.1)->g∈(Zl f v fs).map (·.1)
 | []=>⟨by simp [Zl],λg h=>by simp at h⟩
 | (k,x)::r=>by
  obtain⟨I,J⟩:=vG f v r;rw [show Zl f v ((k,x)::r)=(if k=f then (k,v)::r else (k,x)::Zl f v r)from rfl];by_cases z:k=f
  ·rw [if_pos z]
   subst z;exact⟨by simp,λg h=>by simpa using h⟩
  ·rw [if_neg z]
   refine⟨?_,λg h=>?_⟩
   ·rw [sJ]
    exact sd _ I
   ·rw [sJ]at h ⊢
    rcases si.mp h with e | e
    ·exact si.mpr (.inl e)
    ·exact sd _ (J g e)
theorem vF(f:Str)(v:V) : ∀fs:List (Str×V),(Zl f v fs).length<=fs.length+1
 | []=>by simp [Zl]
 | (k,x)::r=>by
  have I:=vF f v r;rw [show Zl f v ((k,x)::r)=(if k=f then (k,v)::r else (k,x)::Zl f v r)from rfl];by_cases z:k=f
  ·rw [if_pos z,sP,sP];omega
  ·rw [if_neg z,sP,sP];omega
theorem RelO.some_of{v:V}{o:Option Value}(r:RelO (some v) o) : ∃u,o=some u/\RelV v u:=by
 cases o with
 | none=>exact(show False from r).elim
 | some u=>exact⟨u,rfl,r⟩
theorem RelO.none_of{o:Option Value}(r:RelO none o):o=none:=by
 cases o with
 | none=>rfl
 | some u=>exact(show False from r).elim
theorem Y8{v:V}{u:Value}(r:RelV v u):PySem.W.handedIn u=true:=by
 cases v with
 | non=>cases (show u=tH from r);rfl
 | bl b=>cases (show u=Cp b from r);rfl
 | int i=>obtain⟨t,e⟩:=(show ∃t,u=Ce i t from r);cases e;rfl
 | str x=>obtain⟨t,e⟩:=(show ∃t,u=Value.str x t from r);cases e;rfl
 | byt b=>obtain⟨t,e⟩:=(show ∃t,u=Value.bytes b t from r);cases e;rfl
 | flt b=>obtain⟨t,e⟩:=(show ∃t,u=Value.float b t from r);cases e;rfl
 | ref a=>cases (show u=sN a from r);rfl
 | ty n=>cases (show u=AF n from r);rfl
section
variable{P:Program}{w:World}{H H':Hp}{h h':Heap}{a C dx:Addr}{fs fs':List (Str×V)}
theorem Zx(hok:HOk P w H h)(e:H a=some (.ins C dx fs)) : ∃mA,ObjM h a dx C mA/\(∀f,RelO (fs.lookup f) (mA f))/\Cr mA (fs.map (·.1))/\fs.length<=1000/\H dx=some (.own a):=by
 obtain⟨d,z,ne,I,mA,n,r,q⟩:=(show ObjOk P w H h a (.ins C dx fs)from hok a _ e);exact⟨mA,⟨I,n,ne⟩,r,q,z,d⟩
end
structure Cls(K:rH)(C:Addr):Prop where
 pg:Az K C Str.empty=true
 hd:AQ K C=true
 po:Bp K C=true
 sa:sD K (.ref C) "__setattr__" = some (some (.builtin "object.__setattr__"))
theorem Cls.get{K:rH}{C:Addr}(c:Cls K C)(f:Str):Az K C f=true:=c.pg
def NoAttr(K:rH)(C:Addr)(f:Str):Prop:=sD K (.ref C) f=some none
theorem NoAttr.taker{K:rH}{C:Addr}{f:Str}(n:NoAttr K C f):PySem.W.takerIn K C f=some none:=by
 unfold PySem.W.takerIn;rw [show sD K (.ref C) f=some none from n];rfl
structure Meth(K:rH)(C:Addr)(m:Str)(f:Addr):Prop where
 at_:sD K (.ref C) m=some (some (.ref f))
 fn:AB K (.ref f)=true
 kp:sQ K (.ref f)=true
section
variable{X:Cx}{pins:List (Addr×Obj)}{σ:St}{H:Hp}{s:Shared}{a C dx:Addr}{fs:List (Str×V)}{f:Str}{v:V}{A:Around}{E:Value->Shared->Prop}
theorem KB{b:Bool}{Q:Value->Shared->Prop}(I:Inv X pins σ H s)(e:H a=some (.ins C dx fs))(c:Cls X.K C)(n:NoAttr X.K C f)(l:fs.lookup f=some v)
 (h : ∀u s',Inv X pins σ H s'->RelV v u->Q u s'):wpAny (model X.prog X.w) A (getAttr (.ref a) f b) Q E s:=by
 obtain⟨mA,O,r,_,_,_⟩:=Zx I.hok e;obtain⟨u,J,z⟩:=RelO.some_of (v:=v) (o:=mA f) (by rw [<- l];exact r f);exact eh I.kIn O (c.get f) c.hd n J (Y8 z) (h u _ (I.tok _) z)
theorem KA{m:Str}{g:Addr}{pl:Sem Bool}{Q:Value×List Value->Shared->Prop}(I:Inv X pins σ H s)(e:H a=some (.ins C dx fs))(c:Cls X.K C)(k:Meth X.K C m g)(l:fs.lookup m=none)
 (h:Q (.ref g,[.ref a]) s):wpAny (model X.prog X.w) A (getMethod (.ref a) m pl) Q E s:=by
 obtain⟨mA,O,r,_,_,_⟩:=Zx I.hok e;have hn:mA m=none:=RelO.none_of (by rw [<- l];exact r m);exact W8 I.kIn O (c.get m) k.at_ k.fn hn h
theorem Kd{y:V}{u:Value}{Q:Unit->Shared->Prop}(I:Inv X pins σ H s)(e:H a=some (.ins C dx fs))(c:Cls X.K C)(n:NoAttr X.K C f)(hl:fs.length<1000)(Y:RelV y u)
 (h : ∀s',Inv X pins σ (upd H a (.ins C dx (Zl f y fs))) s'->Q () s'):wpAny (model X.prog X.w) A (setAttr (.ref a) f u) Q E s:=by
 obtain⟨mA,O,r,wi,_,M⟩:=Zx I.hok e;have hz:(fs.map (·.1)).length<=sizeLine:=by rw [sC,BQ];omega
 refine cE I.kIn O c.sa c.po n.taker c.hd wi hz λh' J sb=>h _ ?_;have hd : ∃o,h'.get? dx=some o:=let ⟨o,_,_,e',_⟩:=J.ns;⟨o,e'⟩;refine I.write (x:=a) (e:=dx) (by rw [e];exact uc) (.inr M) (λb q hb z=>(sb.2 b hb).trans z) hd ?_;refine⟨by rw [zz O.ne];exact M,?_,O.ne,J.obj,_,J.ns,λg=>?_,λg hg=>?_⟩
 ·have:=vF f y fs;omega
 ·show RelO ((Zl f y fs).lookup g) (if g=f then some u else mA g)
  rw [jB];by_cases q:g=f
  ·rw [if_pos q,if_pos q];exact Y
  ·rw [if_neg q,if_neg q];exact r g
 ·by_cases q:g=f
  ·rw [q];exact(vG f y fs).1
  ·refine(vG f y fs).2 g (wi g λz=>hg ?_)
   show(if g=f then some u else mA g)=none;rw [if_neg q];exact z
theorem Inv.made(I:Inv X pins σ H s):Inv X pins σ (upd (upd H s.heap.objs.size (.own (s.heap.objs.size+1))) (s.heap.objs.size+1) (.ins C s.heap.objs.size []))
 {s with heap:=(s.heap.push uE).push (uZ C s.heap.objs.size)}:=by
 have e1:(s.heap.push uE).get? s.heap.objs.size=some uE:=sh s.heap rfl;have e2:((s.heap.push uE).push (uZ C s.heap.objs.size)).get? (s.heap.objs.size+1)=some (uZ C s.heap.objs.size):=by
  have:=sh (s.heap.push uE) (o:=uZ C s.heap.objs.size) rfl
  rwa [uq]at this
 have z:(s.heap.push uE).Ns s.heap.objs.size (λ_=>none):=⟨uE,#[],_,e1,rfl,(λe he=>absurd he ⋯),λ_=>rfl⟩;have J:=I.laid (a:=s.heap.objs.size) (o:= .own (s.heap.objs.size+1)) (h':=s.heap.push uE) (t':=s.toks) (λb u q=>rM _ q) (se _) ⟨_,e1⟩;refine J.laid (a:=s.heap.objs.size+1) (o:= .ins C s.heap.objs.size []) (t':=s.toks) (λb u q=>rM _ q) (Nat.le_of_eq (uq _ _)) ?_;have ne:s.heap.objs.size≠s.heap.objs.size+1:=sF (uC _);refine⟨by rw [zz ne,zw],tZ _,ne,e2,λ_=>none,(Heap.Ns1.of_empty z).at λo q=>rM _ q,λ_=>uc,λy M=>absurd rfl M⟩
theorem eY{prog:Program}{w:World}{env:Env}{e:Expr}{f:Str}{pos:Pos}{s:Shared}{Q:Value->Shared->Prop}(z:attributeBase e f env (eval e env)=eval e env)
 (h:wpAny (model prog w) A (eval e env) (λo I=>wpAny (model prog w) A (getAttr o f true) Q E I) E s):wpAny (model prog w) A (eval (.Attribute e f pos) env) Q E s:=
 Attribute_any_ h (by rw [arm_eval_Attribute,z])
end
def mV(K:rH)(ta:TE)(f:Str):TE:=λσ H Q=>ta σ H λx H1=>∃a C dx fs v,x = .ref a/\H1 a=some (.ins C dx fs)/\Cls K C/\NoAttr K C f/\fs.lookup f=some v/\Q v H1
def nh(K:rH)(ta tv:TE)(f:Str):TS:=λD σ H=>tv σ H λy H1=>ta σ H1 λx H2=>∃a C dx fs,x = .ref a/\H2 a=some (.ins C dx fs)/\Cls K C/\NoAttr K C f/\fs.length<1000/\
 D.nx σ (upd H2 a (.ins C dx (Zl f y fs)))
section
variable{X:Cx}{o e value:Expr}{f:Str}{pos pos' tpos:Pos}{ta tv:TE}
theorem yt(he:PE X e ta)(z:attributeBase e f X.env (eval e X.env)=eval e X.env):PE X (.Attribute e f pos) (mV X.K ta f):=by
 intro pins s σ H Q I h;refine eY z (thn (he pins s σ H _ I h) λu s1 J=>?_);obtain⟨x,H1,M,O,a,C,dx,fs,v,ex,Y,c,n,l,q⟩:=J;subst ex;obtain rfl:u=sN a:=O;exact KB M Y c n l λu' s2 I2 ru=>⟨v,H1,I2,ru,q⟩
theorem ba(ha:PE X o ta)(z:PE X value tv)(J:swapsWith value (some (.Attribute o f pos')) pos.line X.env=pure false):PS X (.Assign [.Attribute o f pos'] value pos) (nh X.K ta tv f):=by
 intro pins s σ H D I h;refine plainObj_wpAny_Assign_Attribute (thn (z pins s σ H _ I h) λu s1 ⟨y,H1,M,O,q⟩=>thn (ha pins s1 σ H1 _ M q) λY s2 ⟨x,H2,I2,rx,a,C,dx,fs,ex,ea,c,n,l,q2⟩=>?_) J;subst ex;obtain rfl:Y=sN a:=rx;exact Kd I2 ea c n l O λs3 I3=>⟨σ,_,I3,q2⟩
end
section
variable{X:Cx}{pins:List (Addr×Obj)}{σ:St}{H:Hp}{s:Shared}{A:Around}{E:Value->Shared->Prop}{Q:Value->Shared->Prop}{c:Value}{b:Bool}
inductive TyOf(K:rH)(H:Hp):V->Value->Prop where
 | non:TyOf K H .non (.type "NoneType")
 | bl (x:Bool):TyOf K H (.bl x) (.type "bool")
 | int (i:Int):TyOf K H (.int i) (.type "int")
 | str (x:Str):TyOf K H (.str x) (.type "str")
 | flt (x:UInt64):TyOf K H (.flt x) (.type "float")
 | lst {a:Addr} {xs:List V} (e:H a=some (.lst xs)):TyOf K H (.ref a) (.type "list")
 | frz {a:Addr} {o:Obj} {xs:List V} (e:H a=some (.frz o (.lst xs))):TyOf K H (.ref a) (.type "list")
 | tup {a:Addr} {xs:List V} (e:H a=some (.tup xs)):TyOf K H (.ref a) (.type "tuple")
 | dK {a:Addr} {kvs:List (Key×V)} (e:H a=some (.dK kvs)):TyOf K H (.ref a) (.type "dict")
 | dT {a:Addr} {kvs:List (List Key×V)} (e:H a=some (.dT kvs)):TyOf K H (.ref a) (.type "dict")
 | ins {a C dx:Addr} {fs:List (Str×V)} (e:H a=some (.ins C dx fs)) (cl:Cls K C) (ha:sD K (.ref C) "__class__" = some (some (.builtin "object.__class__")))
  (hn:AO K (.builtin "object.__class__") "__get__" = some (some (.builtin "getset_descriptor.__get__"))) (htk:PySem.W.takesIn K (.builtin "object.__class__")=some true)
  (hm:AH K C (.type "object")=some true):TyOf K H (.ref a) (.ref C)
theorem vH{x:V}{u t:Value}(I:Inv X pins σ H s)(M:RelV x u)(ty:TyOf X.K H x t)(e:uw X.K t c=some b)(h : ∀tk,Q (.bool b) {s with toks:=tk}) :
 wpAny (model X.prog X.w) A (call (.builtin "isinstance") [u,c]) Q E s:=by
 cases ty with
 | non=>cases (show u=tH from M);exact sZ PySem.W.kitx_none I.kIn uc e (λz=>nomatch z) h
 | bl y=>cases (show u=Cp y from M);exact sZ PySem.W.kitx_bool I.kIn uc e (λz=>nomatch z) h
 | int i=>obtain⟨t,q⟩:=(show ∃t,u=Ce i t from M);cases q;exact sZ PySem.W.kitx_int I.kIn uc e (λz=>nomatch z) h
 | str y=>obtain⟨t,q⟩:=(show ∃t,u=Value.str y t from M);cases q;exact sZ PySem.W.kitx_str I.kIn uc e (λz=>nomatch z) h
 | flt y=>obtain⟨t,q⟩:=(show ∃t,u=Value.float y t from M);cases q;exact sZ PySem.W.kitx_float I.kIn uc e (λz=>nomatch z) h
 | @lst a xs Y=>
  cases (show u=sN a from M);obtain⟨_,_,n,_,h1⟩:=(show ObjOk X.prog X.w H s.heap a (.lst xs)from I.hok a _ Y);exact sZ Ci I.kIn ⟨_,h1,rfl⟩ e (λz=>nomatch z) h
 | @frz a ob xs Y=>
  cases (show u=sN a from M);obtain⟨_,_,_,n,_,h1⟩:=(show ObjOk X.prog X.w H s.heap a (.frz ob (.lst xs))from I.hok a _ Y);exact sZ Ci I.kIn ⟨_,h1,rfl⟩ e (λz=>nomatch z) h
 | @tup a xs Y=>
  cases (show u=sN a from M);obtain⟨_,_,_,p⟩:=(show ObjOk X.prog X.w H s.heap a (.tup xs)from I.hok a _ Y);obtain⟨o,h1,h2,_⟩:=p;exact sZ PySem.W.kitx_tuple I.kIn ⟨o,h1,(Prod.mk.inj h2).1⟩ e (λz=>nomatch z) h
 | @dK a kvs Y=>
  cases (show u=sN a from M);obtain⟨_,_,vs,_,p⟩:=(show ObjOk X.prog X.w H s.heap a (.dK kvs)from I.hok a _ Y);obtain⟨o,es,ep,h1,h2,_⟩:=p;exact sZ Cj I.kIn ⟨o,h1,h2.1⟩ e (λz=>nomatch z) h
 | @dT a kvs Y=>
  cases (show u=sN a from M);obtain⟨_,_,xs,_,o,es,ep,h1,h2,_⟩:=(show ObjOk X.prog X.w H s.heap a (.dT kvs)from I.hok a _ Y);exact sZ Cj I.kIn ⟨o,h1,h2.1⟩ e (λz=>nomatch z) h
 | @ins a C dx fs Y cl ha hn htk hm=>
  cases (show u=sN a from M);obtain⟨mA,O,_⟩:=Zx I.hok Y;obtain⟨od,J,_⟩:=O.look;exact sZ (PySem.W.kitx_own (cl.get _) cl.hd ha hn htk hm) I.kIn J e (λz=>nomatch z) h
end
structure Room(k:Nat)(A:Around):Prop where
 hd:A.handled=none
 dp:A.depth+3*k+5<recursionLimit
 un:A.units+16*k+200<cLine
theorem Room.mono{j k:Nat}{A:Around}(r:Room k A)(h:j<=k):Room j A:=⟨r.hd,by have:=r.dp;omega,by have:=r.un;omega⟩
theorem Room.deeper{k:Nat}{A:Around}(r:Room (k+1) A)(env:Env):Room k (A.deeper env):=
 ⟨r.hd,by have:=r.dp;show A.depth+1+3*k+5<_;omega,by have:=r.un;show A.units+3+16*k+200<_;omega⟩
theorem Kw{A:Around}{C:Addr}{us:List Value}{z:List (Str×Value)}:(A.under (.builtin "type.__call__" ⟨.ref C::us,z⟩)).depth=A.depth+1:=by
 first | rfl | simp [Around.under,Code.weight,Code.isCreation,Code.isGuard,Code.isCaller,Code.frames,Code.isFrame,guardIds]
theorem Kv{A:Around}{C:Addr}{us:List Value}{z:List (Str×Value)}:(A.under (.builtin "type.__call__" ⟨.ref C::us,z⟩)).units=A.units+1:=by
 first | rfl | simp [Around.under,Code.cUnits,Code.frames,Code.isFrame]
theorem Room.make{k:Nat}{A:Around}(r:Room (k+1) A)(C:Addr)(us:List Value)(z:List (Str×Value)):Room k (A.under (.builtin "type.__call__" ⟨.ref C::us,z⟩)):=
 ⟨r.hd,by have:=r.dp;rw [Kw];omega,by have:=r.un;rw [Kv];omega⟩
theorem Room.depth{k:Nat}{A:Around}(r:Room k A):A.depth<recursionLimit:=by have:=r.dp;omega
def fX:TA:=λ_ H Q=>Q [] H
def X8(ta:TE)(z:TA):TA:=λσ H Q=>ta σ H λx H1=>z σ H1 λxs H2=>Q (x::xs) H2
section
variable{X:Cx}{e:Expr}{es:List Expr}{te:TE}{t:TA}{pos:Pos}
theorem jw:PA X [] fX:=λ_ _ _ _ H Q I h=>BB ⟨[],H,I,.nil,h⟩
theorem zK(ha:PE X e te)(z:PA X es t)(J:starEach (e::es) X.env=(false,eval e X.env)::starEach es X.env:=by rfl):PA X (e::es) (X8 te t):=by
 intro pos pins s σ H Q I h;rw [J];show wpAny _ _ (spliced ((false,eval e X.env)::backTo pos (starEach es X.env))) _ _ s;refine Ao (thn (ha pins s σ H _ I h) λu s1 M=>?_);obtain⟨x,H1,O,r1,Y⟩:=M;exact thn (z pos pins s1 σ H1 _ O Y) λus s2 ⟨xs,H2,I2,r2,q2⟩=>⟨x::xs,H2,I2,.cons r1 r2,q2⟩
def pP(t:TA):TE:=λσ H Q=>t σ H λxs H1=>xs.length<=sizeLine/\∀p,H1 p=none->Q (.ref p) (upd H1 p (.tup xs))
def oT(t:TA):TE:=λσ H Q=>t σ H λxs H1=>xs.length<=sizeLine/\∀p,H1 p=none->Q (.ref p) (upd H1 p (.lst xs))
theorem bf{x1}(h:PA X es t):PE X (.Tuple es x1 pos) (pP t):=by
 intro pins s σ H Q I M;refine wpAny_Tuple_spliced (thn (h pos pins s σ H _ I M) λus s1 ⟨xs,H1,J,r,z,q⟩=>⟨by rw [<- r.length];exact z,?_⟩);have O:H1 s1.heap.objs.size=none:=J.hok.fresh (se _);refine⟨.ref s1.heap.objs.size,upd H1 s1.heap.objs.size (.tup xs),J.laid (t':=s1.toks) (λb u e=>rM _ e) (se _) ?_,rfl,q _ O⟩;exact⟨z,us,r,⟨_,sh _ rfl,rfl,_,rfl⟩⟩
theorem bh(h:PA X es t):PE X (.List es pos) (oT t):=by
 intro pins s σ H Q I M;refine wpAny_List_spliced (thn (h pos pins s σ H _ I M) λus s1 ⟨xs,H1,J,r,z,q⟩=>⟨by rw [<- r.length];exact z,?_⟩);have O:H1 s1.heap.objs.size=none:=J.hok.fresh (se _);refine⟨.ref s1.heap.objs.size,upd H1 s1.heap.objs.size (.lst xs),J.laid (t':=s1.toks) (λb u e=>rM _ e) (se _) ?_,rfl,q _ O⟩;exact⟨z,us,0,r,sh _ rfl⟩
end
abbrev Sp:=List V->Hp->VK->XK->Prop
abbrev CXT:=List Env->Hp->Shared->XK->Value->Shared->Prop
structure Env0(P:Program)(w:World)(K:rH)(mg:Str->Option Value)(base:Heap)(A:Around)(outer:List Env)(s:Shared)(H:Hp):Prop where
 frames:A.frames=some outer
 mod:Mod K mg base
 bs : ∀b o,base.get? b=some o->s.heap.get? b=some o/\H b=none
 bsz:base.objs.size<=s.heap.objs.size
 funs:s.heap.FunFrames base outer
 frf : ∀b∈frs outer,H b=none
 hok:HOk P w H s.heap
 bare:AllBare s.gens
def CE(outer:List Env)(P:Program)(w:World)(H:Hp)(s:Shared)(Q:VK)(u:Value)(s':Shared):Prop:=
 ∃v H',s'.os=s.os/\AllBare s'.gens/\Un (frs outer) [] H H' s.heap s'.heap/\HOk P w H' s'.heap/\RelV v u/\Q v H'
def CR(CX:CXT)(outer:List Env)(P:Program)(w:World)(H:Hp)(s:Shared)(Q:VK)(E:XK)(r:Result)(s':Shared):Prop:=
 match r with
 | .ok (.ret u)=>CE outer P w H s Q u s'
 | .ok _=>False
 | .error e=>CX outer H s E e s'
structure FnOk(P:Program)(w:World)(K:rH)(mg:Str->Option Value)(base:Heap)(CX:CXT)(k:Nat)(f:Addr)(fd:FuncData)(ps:List Str)(sp:Sp):Prop where
 len : ∀vs H Q E,sp vs H Q E->vs.length=ps.length
 run : ∀(A:Around) (outer:List Env) (s:Shared) (H:Hp) (args:Args) (us:List Value) (vs:List V) (Q:VK) (E:XK),Room k A->Env0 P w K mg base A outer s H->BindsTo s fd args (ps.zip us)->Vals vs us->sp vs H Q E->
  codeAny (model P w) A (.call (.ref f) args) (CR CX outer P w H s Q E) s
theorem Env0.make{P:Program}{w:World}{K:rH}{mg:Str->Option Value}{base:Heap}{A:Around}{outer:List Env}{s:Shared}{H:Hp}(e:Env0 P w K mg base A outer s H)(C:Addr)(us:List Value)(z:List (Str×Value)) :
 Env0 P w K mg base (A.under (.builtin "type.__call__" ⟨.ref C::us,z⟩)) outer s H:=⟨by first | exact e.frames | (simpa [Around.under,Code.envs,Code.isFrame,pushEnvs]using e.frames),e.mod,e.bs,e.bsz,e.funs,e.frf,e.hok,e.bare⟩
section
variable{X:Cx}{pins:List (Addr×Obj)}{σ:St}{H:Hp}{s s':Shared}
theorem Inv.env0(I:Inv X pins σ H s):Env0 X.prog X.w X.K X.mg X.base X.A X.stack s H:=
 ⟨I.ok.frames,I.ok.mod,I.bs,tP I.ok.bsz I.sz,I.stack,I.stkFree,I.hok,I.bare⟩
theorem Inv.after{Q:VK}{u:Value}(I:Inv X pins σ H s)(h:CE X.stack X.prog X.w H s Q u s'):EP X pins σ Q u s':=by
 obtain⟨v,H',os,bare,un,hok,r,q⟩:=h;obtain⟨J,g,d,t,M⟩:=s';obtain rfl:M=s.os:=os;exact⟨v,H',I.call (h':=J) (g':=g) (d':=d) (t':=t) (ch:=[]) un hok bare (λb z=>absurd z ⋯),r,q⟩
end
def V4(sp:Sp)(dvs:List V)(E:XK)(t:TA):TE:=λσ H Q=>t σ H λvs H1=>sp (vs++dvs) H1 Q E
def mT(C:Addr)(m:Str)(sp:Sp)(dvs:List V)(E:XK)(ta:TE)(t:TA):TE:=λσ H Q=>ta σ H λx H1=>∃a dx fs,x = .ref a/\H1 a=some (.ins C dx fs)/\fs.lookup m=none/\
 t σ H1 λvs H2=>sp (x::(vs++dvs)) H2 Q E
def mU(C:Addr)(sp:Sp)(dvs:List V)(E:XK)(t:TA):TE:=λσ H Q=>t σ H λvs H1=>∀x dx,H1 x=none->H1 dx=none->dx≠x->
 sp (.ref x::(vs++dvs)) (upd (upd H1 dx (.own x)) x (.ins C dx [])) (λv H2=>v = .non/\Q (.ref x) H2) E
def Binds(K:rH)(fd:FuncData)(ps:List Str)(ds:List Value):Prop:=
 ∀(s:Shared) (us:List Value),K.In s.heap->(us++ds).length=ps.length->BindsTo s fd ⟨us,[]⟩ (ps.zip (us++ds))
theorem Binds.all{K:rH}{fd:FuncData}{ps:List Str}(h : ∀us:List Value,us.length=ps.length->bindArgs fd ⟨us,[]⟩=pure (ps.zip us)):Binds K fd ps []:=λs us _ z=>by
 rw [Bj]at z ⊢;exact .of_eq (h us z)
def wX(CX:CXT)(X:Cx)(E:XK):Prop:=∀(pins:List (Addr×Obj)) (σ:St) (H:Hp) (s:Shared) (e:Value) (s':Shared),Inv X pins σ H s->CX X.stack H s E e s'->X.xe e s'
section
variable{X:Cx}{CX:CXT}{k:Nat}{f C:Addr}{fd:FuncData}{ps:List Str}{sp:Sp}{dvs:List V}{ds:List Value}{E:XK}{x m:Str}{p pos apos:Pos}{e o:Expr}{es:List Expr}{ta:TE}{t:TA}
theorem aP{pins:List (Addr×Obj)}{σ:St}{H:Hp}{s:Shared}{Q:VK}{us:List Value}{vs:List V}(F:FnOk X.prog X.w X.K X.mg X.base CX k f fd ps sp)(J:Room k X.A)(M:Binds X.K fd ps ds)(hd:Vals dvs ds)(O:wX CX X E)
 (I:Inv X pins σ H s) (r:Vals vs us) (h:sp (vs++dvs) H Q E):wpAny (model X.prog X.w) X.A (call (.ref f) us) (EP X pins σ Q) X.xe s:=by
 have r2:Vals (vs++dvs) (us++ds):=r.append hd;have Y:(us++ds).length=ps.length:=by rw [<- r2.length];exact F.len _ _ _ _ h
 refine wpAny_call (Cd (F.run X.A X.stack s H ⟨us,[]⟩ (us++ds) (vs++dvs) Q E J I.env0 (M s us I.kIn Y) r2 h) λr s' z=>?_);cases r with
 | error e=>exact O pins σ H s e s' I z
 | ok fl=>
  cases fl with
  | ret u=>exact I.after z
  | next=>exact Ac z
  | brk=>exact Ac z
  | cont=>exact Ac z
theorem xE(F:FnOk X.prog X.w X.K X.mg X.base CX k f fd ps sp)(J:Room k X.A)(M:Gl X x)(hm:X.mg x=some (.ref f))(O:sQ X.K (.ref f)=true)(Y:Binds X.K fd ps ds)(hd:Vals dvs ds)(hx:wX CX X E)
 (ha:PA X (e::es) t) (a1:(x==("__debug__" : Str))=false:=by decide) (he:starEach (e::es) X.env=(false,eval e X.env)::starEach es X.env:=by rfl) (a2:(backTo pos (starEach es X.env)).any (·.1)=false:=by rfl) :
 PE X (.Call (.Name x p) (e::es) [] pos) (V4 sp dvs E t):=by
 intro pins s σ H Q I h;refine Ab (Qu I M hm ?_ a1);refine BW (h₀:=X.base) I.ok.mod.kin O (thn (ha pos pins s σ H _ I h) λus s1 ⟨vs,H1,z,r,q⟩=>⟨z.kIn,?_⟩) he a2;exact aP F J Y hd hx z r q
theorem dq{pl:Sem Bool}(he:PE X o ta)(c:Cls X.K C)(hm:Meth X.K C m f)(F:FnOk X.prog X.w X.K X.mg X.base CX k f fd ps sp)(O:Room k X.A)(Y:Binds X.K fd ps ds)(hd:Vals dvs ds)(hx:wX CX X E)(ha:PA X (e::es) t)
 (a1:starEach (e::es) X.env=(false,eval e X.env)::starEach es X.env:=by rfl) (a2:(backTo pos (starEach es X.env)).any (·.1)=false:=by rfl)
 (ht:eval (.Call (.Attribute o m apos) (e::es) [] pos) X.env=(do
   let z <- eval o X.env
   standAt apos.atName
   let (f,first) <- holding [z] (getMethod z m pl)
   callWith pos f first (backTo pos (starEach (e::es) X.env)) (backToKw pos (keywordEach [] X.env))):=by rfl) :
 PE X (.Call (.Attribute o m apos) (e::es) [] pos) (mT C m sp dvs E ta t):=by
 intro pins s σ H Q I h;refine PySem.W.methodCall_KW (pl:=pl) (thn (he pins s σ H _ I h) λu s1 hZ=>?_) ht;obtain⟨x,H1,J,rx,a,dx,fs,ex,ea,l,q⟩:=hZ;subst ex;obtain rfl:u=sN a:=rx;refine KA J ea c hm l ?_;refine BW (first:=[.ref a]) (h₀:=X.base) I.ok.mod.kin hm.kp (thn (ha pos pins s1 σ H1 _ J q) λus s2 ⟨vs,H2,M,r,q2⟩=>⟨M.kIn,?_⟩) a1 a2;exact aP (us:= .ref a::us) (vs:= .ref a::vs) F O Y hd hx M (.cons rfl r) q2
structure Mk(K:rH)(C f:Addr):Prop where
 makes:BH K C=true
 init:sD K (.ref C) "__init__" = some (some (.ref f))
 fn:AB K (.ref f)=true
 kp:sQ K (.ref C)=true
theorem Wj{pins:List (Addr×Obj)}{σ:St}{H:Hp}{s:Shared}{Q:VK}{us:List Value}{vs:List V}(M:Mk X.K C f)(F:FnOk X.prog X.w X.K X.mg X.base CX k f fd ps sp)(Y:Room (k+1) X.A)(hb:Binds X.K fd ps ds)(hd:Vals dvs ds)
 (hx:wX CX X E) (I:Inv X pins σ H s) (r:Vals vs us)
 (h : ∀x dx,H x=none->H dx=none->dx≠x->sp (.ref x::(vs++dvs)) (upd (upd H dx (.own x)) x (.ins C dx [])) (λv H2=>v = .non/\Q (.ref x) H2) E) :
 wpAny (model X.prog X.w) X.A (call (.ref C) us) (EP X pins σ Q) X.xe s:=by
 have O:=h (s.heap.objs.size+1) s.heap.objs.size (I.hok.fresh (Nat.le_succ _)) (I.hok.fresh (se _)) (sF (uC _));have J:=Inv.made (C:=C) I;have r2:Vals (V.ref (s.heap.objs.size+1)::(vs++dvs)) (sN (s.heap.objs.size+1)::(us++ds)):= .cons rfl (r.append hd);have hl:(sN (s.heap.objs.size+1)::us++ds).length=ps.length:=by
  have e:=r2.length;rw [F.len _ _ _ _ O]at e;exact e.symm
 refine wpAny_call (WR (f:=f) I.kIn M.makes M.init (beq_iff_eq.mp M.fn) (Cd (F.run _ X.stack _ _ ⟨sN (s.heap.objs.size+1)::us,[]⟩ (sN (s.heap.objs.size+1)::(us++ds)) _ _ E (Y.make C us [])
  (J.env0.make C us []) (hb _ (sN (s.heap.objs.size+1)::us) J.kIn hl) r2 O) λr s' z=>?_))
 cases r with
 | error e=>exact hx pins σ _ _ e s' J z
 | ok fl=>
  cases fl with
  | ret u=>
   obtain⟨v,H',I3,rv,ev,q3⟩:=J.after z;subst ev;exact⟨rv,⟨V.ref (s.heap.objs.size+1),H',I3,rfl,q3⟩⟩
  | next=>exact Ac z
  | brk=>exact Ac z
  | cont=>exact Ac z
theorem du(M:Mk X.K C f)(F:FnOk X.prog X.w X.K X.mg X.base CX k f fd ps sp)(J:Room (k+1) X.A)(O:Gl X x)(hm:X.mg x=some (.ref C))(Y:Binds X.K fd ps ds)(hd:Vals dvs ds)(hx:wX CX X E)
 (ha:PA X (e::es) t) (a1:(x==("__debug__" : Str))=false:=by decide) (he:starEach (e::es) X.env=(false,eval e X.env)::starEach es X.env:=by rfl) (a2:(backTo pos (starEach es X.env)).any (·.1)=false:=by rfl) :
 PE X (.Call (.Name x p) (e::es) [] pos) (mU C sp dvs E t):=by
 intro pins s σ H Q I h;refine Ab (Qu I O hm ?_ a1);refine BW (h₀:=X.base) I.ok.mod.kin M.kp (thn (ha pos pins s σ H _ I h) λus s1 ⟨vs,H1,z,r,q⟩=>⟨z.kIn,?_⟩) he a2;exact Wj M F J Y hd hx z r q
end
structure FnScope(N P:List Str)(sc:Scope):Prop where
 kind:sc.kind = .function
 co:sc.isCoroutine=false
 gen:sc.isGenerator=false
 nd:N.Nodup
 pre:N.take P.length=P
 par : ∀x∈P,sc.names.lookup x=some .local\/sc.names.lookup x=some .cell
 nofree : ∀y∈sc.names,y.2 ≠ .free
theorem JU{kindOf:Str->Option NameKind}{x:Str} : ∀{binds:List (Str×Value)} {m:Str->Option Value},(∀v,(x,v)∉binds)->bindL kindOf binds m x=m x
 | [],_,_=>rfl
 | (n,v)::r,m,h=>by
  unfold bindL;rw [JU λw hw=>h w (sd _ hw)];split
  ·have:x≠n:=by rintro rfl;exact h v rX
   simp [this]
  ·rfl
theorem JX{kindOf:Str->Option NameKind}{x:Str} : ∀{binds:List (Str×Value)} {m:Str->Option Value},(∀v,(x,v)∉binds)->bindC kindOf binds m x=m x
 | [],_,_=>rfl
 | (n,v)::r,m,h=>by
  unfold bindC;rw [JX λw hw=>h w (sd _ hw)];split
  ·rfl
  ·have:x≠n:=by rintro rfl;exact h v rX
   simp [this]
theorem JV{kindOf:Str->Option NameKind}{x:Str}{v:Value} : ∀{P:List Str} {vs:List Value} {i:Nat} {m:Str->Option Value},P.Nodup->P[i]? = some x->vs[i]? = some v->kindOf x=some .local->
 bindL kindOf (P.zip vs) m x=some v
 | [],_,_,_,_,h,_,_=>by simp at h
 | _::_,[],_,_,_,_,h,_=>by simp at h
 | p::P,w::vs,0,m,nd,h1,h2,hk=>by
  simp at h1 h2;subst h1;subst h2;show bindL kindOf ((p,w)::P.zip vs) m p=_;unfold bindL;rw [JU λv z=>(ux.mp nd).1 (List.of_mem_zip z).1,if_pos hk];simp
 | p::P,w::vs,i+1,m,nd,h1,h2,hk=>by
  show bindL kindOf ((p,w)::P.zip vs) m x=_;unfold bindL;exact JV (i:=i) (ux.mp nd).2 (by simpa using h1) (by simpa using h2) hk
theorem JY{kindOf:Str->Option NameKind}{x:Str}{v:Value} : ∀{P:List Str} {vs:List Value} {i:Nat} {m:Str->Option Value},P.Nodup->P[i]? = some x->vs[i]? = some v->kindOf x≠some .local->
 bindC kindOf (P.zip vs) m x=some v
 | [],_,_,_,_,h,_,_=>by simp at h
 | _::_,[],_,_,_,_,h,_=>by simp at h
 | p::P,w::vs,0,m,nd,h1,h2,hk=>by
  simp at h1 h2;subst h1;subst h2;show bindC kindOf ((p,w)::P.zip vs) m p=_;unfold bindC;rw [JX λv z=>(ux.mp nd).1 (List.of_mem_zip z).1,if_neg hk];simp
 | p::P,w::vs,i+1,m,nd,h1,h2,hk=>by
  show bindC kindOf ((p,w)::P.zip vs) m x=_;unfold bindC;exact JY (i:=i) (ux.mp nd).2 (by simpa using h1) (by simpa using h2) hk
def start(N:List Str)(vs:List V):St:=vs.map some++rY (N.length - vs.length) none
def eK(CX:CXT)(P:Program)(w:World)(K:rH)(mg:Str->Option Value)(base:Heap)(N:List Str)(qual:Str)(scope:Scope)(f:Addr)(z:Value)(A:Around)(outer:List Env)(s:Shared)(H:Hp)(E:XK):Cx where
 prog:=P
 w:=w
 K:=K
 mg:=mg
 base:=base
 A:=A.deeper (envOfC qual scope s.heap.objs.size f z)
 N:=N
 s₀:=s
 H₀:=H
 env:=envOfC qual scope s.heap.objs.size f z
 outer:=outer
 stack:=envOfC qual scope s.heap.objs.size f z::outer
 ex:=[]
 calm:=true
 fn:=λ_=>true
 pn:=[]
 xe:=λe s'=>wpAny (model P w) (A.deeper (envOfC qual scope s.heap.objs.size f z)) (leaving (envOfC qual scope s.heap.objs.size f z) e) (λ_ I=>CX outer H s E e I) (λJ I=>CX outer H s E J I) s'
theorem XJ{sc:Scope}{n:Nat}{x:Str}(h:sc.names.lookup x=some .cell) : ∃c,(cellsFrom n sc.names []).lookup x=some c:=by
 have q:=AL sc.names n [] (.inl h);exact Aa.mp q
theorem Y1{CX:CXT}{P:Program}{w:World}{K:rH}{mg:Str->Option Value}{base:Heap}{N ps:List Str}{qual:Str}{scope:Scope}{f:Addr}{O:Value}{A:Around}{outer:List Env}{s s1:Shared}{H:Hp}{E:XK}{us:List Value}{vs:List V}
 (S:FnScope N ps scope) (hd:A.handled=none) (I:Env0 P w K mg base A outer s H) (hl:vs.length=ps.length) (r:Vals vs us)
 (x:InCallC s s.heap.objs.size (bindL (envOfC qual scope s.heap.objs.size f O).kindOf (ps.zip us) λ_=>none) (cellsFrom (s.heap.objs.size+1) scope.names []) (bindC (envOfC qual scope s.heap.objs.size f O).kindOf (ps.zip us) λ_=>none) s1) :
 Inv (eK CX P w K mg base N qual scope f O A outer s H E) [] (start N vs) H s1:=by
 have a5:ps.length<=N.length:=by have:=congrArg AX S.pre;rw [AD]at this;omega
 obtain⟨h1,tk,rfl,hk⟩:=x.done;have Y : ∀b:Addr,b∉(eK CX P w K mg base N qual scope f O A outer s H E).ex:=λb z=>absurd (show b∈([]:List Addr)from z) ⋯;refine⟨⟨I.mod,S.kind,rfl,rfl,se _,λy z c h1 h2=>?_,λy J=>?_,λy c _ h=>?_,λ_=>hd,Around.frames_deeper I.frames,.inr ⟨rfl,rfl⟩,λb z=>absurd z (Y b),I.bs,I.bsz,λb _ _=>Y b,λb z=>absurd z (Y b),I.funs,I.frf⟩,
  rfl,I.bare,Un.kept hk,⟨_,x.toInCall.ns,λi y v h1 h2 h3=>?_⟩,λy c h=>⟨_,x.cell y c h⟩,I.hok.fresh (se _),λy c h=>?_,λp M=>absurd (show p∈([]:List (Addr×Obj))from M) ⋯,I.hok.kept hk,?_⟩
 ·exact name_of_addr x.apart (AC h1) (AC h2)
 ·have J:scope.names.lookup y=some .cell\/scope.names.lookup y=some .free:=J
  rcases J with J | J
  ·exact XJ J
  ·exact absurd rfl (S.nofree _ (AC J))
 ·exact BS (x.above y c (AC h))
 ·have hi:i<vs.length:=by
   unfold start at h2;by_cases hi:i<vs.length
   ·exact hi
   ·rw [tw (by simpa using hi)]at h2
    rw [AM]at h2;split at h2<;>cases h2
  have ha:vs[i]? = some v:=by
   unfold start at h2;rw [sY (by simpa using hi),sk]at h2;cases e:vs[i]? with
   | none=>rw [e]at h2;cases h2
   | some a=>rw [e]at h2;cases h2;rfl
  obtain⟨u,hu,rv⟩:=r.get ha;have M:ps[i]? = some y:=by
   rw [<- S.pre,List.getElem?_take_of_lt ⋯];exact h1
  have a2:ps.Nodup:=by rw [<- S.pre];exact S.nd.sublist (List.take_sublist _ _)
  refine⟨u,rv,?_⟩;rcases S.par y (sy M)with k | k
  ·exact .inl ⟨k,JV a2 M hu k⟩
  ·obtain⟨c,e⟩:=XJ (n:=s.heap.objs.size+1) k
   refine .inr ⟨.inl k,c,e,?_⟩;have q:=x.cell y c e;rw [JY a2 M hu (by show scope.names.lookup y≠_;rw [k];decide)]at q;exact q
 ·exact I.hok.fresh (BS (x.above y c (AC h)))
 ·unfold start
  show _=N.length;rw [tM,sC,List.length_replicate];omega
theorem nV{CX:CXT}{P:Program}{w:World}{K:rH}{mg:Str->Option Value}{base:Heap}{k:Nat}{f:Addr}{name qual:Str}{a0:Arguments}{body:List Stmt}{scope:Scope}{dV kV doc pm cdv ct oc:Value}{an od:Option Addr}
 {osl:Array (Option Value)} {N ps:List Str} {sp:Sp} (lk:K.lookup f=some ⟨oc,od,.func (ue name qual a0 body scope dV kV doc pm an cdv ct),osl⟩) (a5:uY K cdv qual=true) (S:FnScope N ps scope)
 (len : ∀vs H Q E,sp vs H Q E->vs.length=ps.length)
 (a6 : ∀(A:Around) (outer:List Env) (s:Shared) (H:Hp) (vs:List V) (Q:VK) (E:XK),Room k (A.deeper (envOfC qual scope s.heap.objs.size f cdv))->sp vs H Q E->
   ∃t,PSs (eK CX P w K mg base N qual scope f cdv A outer s H E) body t/\t {nx:=λ_ H'=>Q .non H',rt:=Q} (start N vs) H) :
 FnOk P w K mg base CX (k+1) f (ue name qual a0 body scope dV kV doc pm an cdv ct) ps sp:=by
 refine⟨len,λA outer s H args us vs Q E O M hb r a2=>?_⟩;have hl:=len _ _ _ _ a2;have KX:K.In s.heap:=M.mod.kin.keeps λb o e=>(M.bs b o e).1;have lim:s.heap.NoLimit:=M.mod.nolimit.keeps λb o e=>(M.bs b o e).1;have a9 : ∀y∈ps.zip us,scope.names.lookup y.1=some .local\/(scope.names.lookup y.1=some .cell/\((cellsFrom (s.heap.objs.size+1) scope.names []).lookup y.1).isSome=true):=λ⟨n,v⟩ hy=>by
  rcases S.par n (List.of_mem_zip hy).1 with q | q
  ·exact .inl q
  ·exact .inr ⟨q,AL _ _ _ (.inl q)⟩
 refine codeAny_call_function O.depth (KX _ _ lk) rfl S.co S.gen rfl (PySem.W.codeRec_of KX a5) (hb _ _ _ _ ?_);refine wpAny_newFunctionEnv_cells S.kind a9 λenv he s1 x=>?_;subst he;refine⟨lim.keeps x.toInCall.keep,codeAny_func ?_⟩;obtain⟨t,ht,hq⟩:=a6 A outer s H vs Q E (O.deeper _) a2;have I:Inv (eK CX P w K mg base N qual scope f cdv A outer s H E) [] (start N vs) H s1:=Y1 S O.hd M hl r x;refine AS (ht [] s1 (start N vs) H _ I hq) (λfl s' z=>?_) λe s' z=>z;have a4 : ∀{σ':St} {H':Hp} {v:V} {u:Value},Inv (eK CX P w K mg base N qual scope f cdv A outer s H E) [] σ' H' s'->RelV v u->Q v H'->CE outer P w H s Q u s':=
  λ{σ' H' v u} J Y q=>⟨v,H',J.os,J.bare,J.base,J.hok,Y,q⟩
 cases fl with
 | ret u=>
  obtain⟨v,σ',H',J,Y,q⟩:=z;exact a4 J Y q
 | next=>
  obtain⟨σ',H',J,q⟩:=z;exact a4 (v:=V.non) (u:=tH) J rfl q
 | brk=>
  obtain⟨_,_,_,q⟩:=z;exact Ac q
 | cont=>
  obtain⟨_,_,_,q⟩:=z;exact Ac q
section
variable{X:Cx}{x:Str}{p pos:Pos}{e:Expr}{es:List Expr}{t:TA}{id T:String}{r:List V->Hp->VK->Prop}
def tCB(r:List V->Hp->VK->Prop)(t:TA):TE:=λσ H Q=>t σ H λvs H1=>r vs H1 Q
theorem xh(z:yG X (.builtin id) r)(J:Gl X x)(hm:X.mg x=none)(M:bootBuiltins x=some (.builtin id))(ha:PA X (e::es) t)(hn:x ≠ "__name__":=by decide)(O:(x==("__debug__" : Str))=false:=by decide)
 (he:starEach (e::es) X.env=(false,eval e X.env)::starEach es X.env:=by rfl) (Y:(backTo pos (starEach es X.env)).any (·.1)=false:=by rfl):PE X (.Call (.Name x p) (e::es) [] pos) (tCB r t):=by
 intro pins s σ H Q I h;refine Ab (xp I J hm M ?_ hn O);exact AJ (thn (ha pos pins s σ H _ I h) λus s1 ⟨vs,H1,I1,r1,q1⟩=>z pins s1 σ H1 vs us Q I1 r1 q1) he Y
theorem vw(z:yG X (.type T) r)(J:Gl X x)(hm:X.mg x=none)(M:bootBuiltins x=some (.type T))(ha:PA X (e::es) t)(hn:x ≠ "__name__":=by decide)(O:(x==("__debug__" : Str))=false:=by decide)
 (he:starEach (e::es) X.env=(false,eval e X.env)::starEach es X.env:=by rfl) (Y:(backTo pos (starEach es X.env)).any (·.1)=false:=by rfl):PE X (.Call (.Name x p) (e::es) [] pos) (tCB r t):=by
 intro pins s σ H Q I h;refine Ab (xp I J hm M ?_ hn O);exact tX (thn (ha pos pins s σ H _ I h) λus s1 ⟨vs,H1,I1,r1,q1⟩=>z pins s1 σ H1 vs us Q I1 r1 q1) he Y
end
end L2
namespace HT
open PySem PyProof.Rows
section
variable{prog:Program}{w:World}{A:Around}{E:Value->Shared->Prop}{s:Shared}
theorem cat_tup{t b:Addr}{vs z:List Value}{Q:Value->Shared->Prop}(ht:IsTup s.heap t vs.toArray)(hb:IsTup s.heap b z.toArray)(M:vs ≠ [])
 (h1:z=[]->Q (.ref t) s) (h2:z ≠ []->Q (.ref s.heap.objs.size) {s with heap:=s.heap.push {cls:= .type "tuple",data:= .seq (vs++z).toArray}})
 (hsz:vs.length+z.length<=sizeLine):wpAny (model prog w) A (binaryOp .Add (.ref t) (.ref b)) Q E s:=by
 obtain⟨⟨cls,O,data,sl⟩,I,Y,n,hd⟩:=id ht;obtain⟨⟨a6,a0,data2,a1⟩,J,a2,n2,a3⟩:=id hb;simp only at Y hd a2 a3;subst Y hd a2 a3;have e:vs.toArray++z.toArray=(vs++z).toArray:=by simp
 by_cases hw:z=[]
 ·exact CP ⟨_,I,rfl⟩ ⟨_,J,rfl⟩ CQ seq_tuple_add BF BA (Bq _ _)
   (tuple_addW1 t b vs.toArray z.toArray n n2 O a0 sl a1 (by simpa using M) (by simp [hw])) ⟨I,J,h1 hw⟩
 ·refine CP ⟨_,I,rfl⟩ ⟨_,J,rfl⟩ CQ seq_tuple_add BF BA (Bq _ _)
   (tuple_addW2 t b vs.toArray z.toArray n n2 O a0 sl a1 (by simpa using M) (by simpa using hw) (by rw [rZ,rZ];exact hsz)) ⟨I,J,?_⟩
  rw [e];exact h2 hw
def sIx(n d:Nat):Option Int->Nat
 | none=>d
 | some v=>if v<0 then (v+(n:Int)).toNat else min v.toNat n
theorem gm(n d:Nat)(hd:d<=n)(o:Option Int):sIx n d o<=n:=by
 cases o with
 | none=>exact hd
 | some v=>
  show(if v<0 then (v+(n:Int)).toNat else min v.toNat n)<=n;by_cases z:v<0
  ·rw [if_pos z];omega
  ·rw [if_neg z];exact Nat.min_le_right _ _
theorem Vn(v:Int)(n d:Nat):(if v<0 then max (v+(n:Int)) 0 else min v (n:Int))=((sIx n d (some v):Nat):Int):=by
 show(if v<0 then max (v+(n:Int)) 0 else min v (n:Int))=(((if v<0 then (v+(n:Int)).toNat else min v.toNat n):Nat):Int);by_cases z:v<0
 ·simp only [if_pos z];omega
 ·simp only [if_neg z];omega
theorem KM(lo hi:Option Int)(n:Nat):Bd lo hi 1 (n:Int)=(((sIx n 0 lo:Nat):Int),((sIx n n hi:Nat):Int)):=by
 have h1 : ¬((1:Int)<0):=by omega
 unfold Bd;simp only [h1,if_false];refine Prod.ext ?_ ?_
 ·cases lo with
  | none=>rfl
  | some v=>exact Vn v n 0
 ·cases hi with
  | none=>rfl
  | some v=>exact Vn v n n
theorem Ko(i j:Nat):Aq (i:Int) (j:Int) 1=j - i:=by
 unfold Aq;have h1:(1:Int)>0:=by omega
 simp only [h1,if_true,Int.ediv_one];split<;>omega
theorem wD{v:Value}{o:Option Int}{Q:Option Int->Shared->Prop}(p:IsPart v o)(h:Q o s):wpAny (model prog w) A (Builtin.Slice.slicePartIndex v) Q E s:=by
 cases p with
 | none=>exact slicePart_none h
 | int i t=>exact slicePart_int h
theorem sliceApplied_gen{sl:Addr}{z I:Value}{lo hi:Option Int}{n:Nat}{Q:Int×Int×Nat->Shared->Prop}(O:s.heap.IsSliceOf sl z I .none)(pl:IsPart z lo)(Y:IsPart I hi)
 (h:Q (((sIx n 0 lo:Nat):Int),1,sIx n n hi - sIx n 0 lo) s):wpAny (model prog w) A (Builtin.Slice.sliceApplied (.ref sl) (pure (n:Int))) Q E s:=by
 obtain⟨os,J,a0,M⟩:=id O;unfold Builtin.Slice.sliceApplied Builtin.Slice.sliceFields;refine rK (rK (uO J M (x:=z) rfl (rK (uO J M (x:=I) rfl (rK (uO J M (x:= .none) rfl (rS ?_)))))));refine rK (slicePart_none ?_);show wpAny _ _ (if ((1:Int)==0)=true then _ else _) _ _ s;rw [if_neg ⋯];refine rK (wD pl (rK (wD Y (rK (rS ?_)))));show wpAny _ _ (match Bd lo hi 1 (n:Int)with | (lo,hi)=>pure (lo,(1:Int),Aq lo hi 1)) _ _ s;rw [KM lo hi n];show wpAny _ _ (pure (((sIx n 0 lo:Nat):Int),(1:Int),Aq ((sIx n 0 lo:Nat):Int) ((sIx n n hi:Nat):Int) 1)) _ _ s;rw [Ko];exact rS h
theorem Wz(xs:Array Value)(i k:Nat):((rO k).filterMap λ(m:Nat)=>xs[((i:Int)+(m:Int)*1).toNat]?).toArray=((xs.toList.drop i).take k).toArray:=by
 have e:(λ(m:Nat)=>xs[((i:Int)+(m:Int)*1).toNat]?)=λm=>xs[i+m]? :=by
  funext m;have:((i:Int)+(m:Int)*1).toNat=i+m:=by omega
  rw [this]
 rw [e];have:=pick_run xs i k;rw [List.filterMap_map]at this;have e2:((λx=>xs[x]?)∘λx=>i+x)=λm=>xs[i+m]? :=rfl;rw [e2]at this;rw [this]
theorem getItem_tuple_cut{t sl:Addr}{z:Array Value}{M O:Value}{lo hi:Option Int}{Q:Value->Shared->Prop}(I:IsTup s.heap t z)(Y:s.heap.IsSliceOf sl M O .none)(pl:IsPart M lo)(pu:IsPart O hi)
 (hw : ¬(sIx z.size 0 lo=0/\sIx z.size z.size hi=z.size))
 (h:Q (.ref s.heap.objs.size) {s with heap:=s.heap.push {cls:= .type "tuple",data:= .seq ((z.toList.drop (sIx z.size 0 lo)).take (sIx z.size z.size hi - sIx z.size 0 lo)).toArray}})
 (hsz:z.size<=sizeLine):wpAny (model prog w) A (getItem (.ref t) (.ref sl)) Q E s:=by
 have J:sizeOk (.seq ((z.toList.drop (sIx z.size 0 lo)).take (sIx z.size z.size hi - sIx z.size 0 lo)).toArray):=by
  show((z.toList.drop (sIx z.size 0 lo)).take (sIx z.size z.size hi - sIx z.size 0 lo)).toArray.size<=sizeLine;rw [rZ,AD,List.length_drop,uG];omega
 have hj:sIx z.size z.size hi<=z.size:=gm _ _ (se _) hi;obtain⟨os,a1,a2,a6⟩:=id Y;have a3:s.TypeIs (.ref sl) "slice":=⟨os,a1,a2⟩;unfold getItem
 try with_reducible refine uD ?_
 first | refine rK (rS ?_) | skip
 refine rK (wpAny_sequenceKey I.typeIs ⋯ ?_);refine rK (uv (name:=uB "__getitem__") I.typeIs uj
  (uA uj I.typeIs entry_tuple_getitem ?_ (args_tuple_getitem _ _)))
 show wpAny _ _ (Builtin.Tuple.tupleItemsOf (.ref t) >>= _) _ _ s;refine rK (BP I ?_);refine rK (CN a3 ?_);rw [if_pos ⋯];refine rK (sliceApplied_gen Y pl pu ?_);have a4 : ¬((((sIx z.size 0 lo:Nat):Int)==0 && (1:Int)==1 && (sIx z.size z.size hi - sIx z.size 0 lo)==z.size)=true):=by
  intro q;rw [sr,sr]at q;have q1:((sIx z.size 0 lo:Nat):Int)=0:=eq_of_beq q.1.1;have q2:sIx z.size z.size hi - sIx z.size 0 lo=z.size:=eq_of_beq q.2;exact hw ⟨by omega,by omega⟩
 show wpAny _ _ (if (((sIx z.size 0 lo:Nat):Int)==0 && (1:Int)==1 && (sIx z.size z.size hi - sIx z.size 0 lo)==z.size)=true then _ else _) _ _ s;rw [if_neg a4,Wz]
 first
  | exact rK (m:=uF _) (ui (rS ⟨_,rfl,rS h⟩) J)
  | exact rK (m:=uF _) (ui (rK (rS (rS ⟨_,rfl,rS h⟩))) J)
  | exact rK (rK (m:=uF _) (ui (rS (rS ⟨_,rfl,rS h⟩)) J))
  | exact rK (rK (m:=uF _) (ui (rS ⟨_,rfl,rS h⟩) J))
end
end HT
namespace L2
open PySem PySem.Spec PyProof.Rows
abbrev TO:=St->Hp->(Option Int->Hp->Prop)->Prop
def PO(X:Cx)(e:Option Expr)(t:TO):Prop:=
 ∀(pins:List (Addr×Obj)) (s:Shared) (σ:St) (H:Hp) (Q:Option Int->Hp->Prop),Inv X pins σ H s->t σ H Q->
  wpAny (model X.prog X.w) X.A (evalPart e X.env) (λu s'=>∃o H',Inv X pins σ H' s'/\IsPart u o/\Q o H') X.xe s
def bZ:TO:=λ_ H Q=>Q none H
def mO(t:TE):TO:=λσ H Q=>t σ H λx H1=>∃i,x = .int i/\Q (some i) H1
section
variable{X:Cx}{e:Expr}{te:TE}{lo hi:Option Expr}{tl th:TO}{pos p2:Pos}
theorem dg:PO X none bZ:=by
 intro pins s σ H Q I h;rw [evalPart_none];exact rS ⟨none,H,I,.none,h⟩
theorem df(h:PE X e te):PO X (some e) (mO te):=by
 intro pins s σ H Q I hw;rw [evalPart_some];refine thn (h pins s σ H _ I hw) λu s1 z=>?_;obtain⟨x,H1,J,r1,M⟩:=z;obtain⟨i,rfl,q⟩:=M;obtain⟨t,rfl⟩:=r1;exact⟨some i,H1,J,.int i t,q⟩
def SlR(X:Cx)(r:V->Option Int->Option Int->Hp->VK->Prop):Prop:=
 ∀(pins:List (Addr×Obj)) (s:Shared) (σ:St) (H:Hp) (x:V) (v z I:Value) (lo hi:Option Int) (sl:Addr) (Q:VK),Inv X pins σ H s->RelV x v->s.heap.IsSliceOf sl z I .none->IsPart z lo->IsPart I hi->r x lo hi H Q->
  ∃T id,typeLookup (.type T) "__getitem__" = pure (some (.builtin id))/\s.TypeIs v T/\wpAny (model X.prog X.w) X.A (getItem v (.ref sl)) (EP X pins σ Q) X.xe s
def tSl(r:V->Option Int->Option Int->Hp->VK->Prop)(te:TE)(tl th:TO):TE:=λσ H Q=>te σ H λx H1=>tl σ H1 λl H2=>th σ H2 λu z=>r x l u z Q
theorem WC{r:V->Option Int->Option Int->Hp->VK->Prop}(Y:SlR X r)(he:PE X e te)(hl:PO X lo tl)(hu:PO X hi th):PE X (.Subscript e (.Slice lo hi none p2) pos) (tSl r te tl th):=by
 intro pins s σ H Q I h;refine Subscript_ (thn (he pins s σ H _ I h) λv s1 hZ=>?_);obtain⟨x,H1,I1,r1,q1⟩:=hZ;refine wpAny_Slice (thn (hl pins s1 σ H1 _ I1 q1) λJ s2 ⟨l,H2,I2,pl,q2⟩=>thn (hu pins s2 σ H2 _ I2 q2) λM z ⟨u,O,I3,pu,q3⟩=>?_);rw [evalPart_none];refine rS ?_;have I4:Inv X pins σ O {z with heap:=z.heap.push {cls:= .type "slice",data:= .fields #[J,M,.none]}}:=I3.kept (t':=z.toks) λb ob q=>rM _ q;obtain⟨T,id,hT,ht,hg⟩:=Y pins {z with heap:=z.heap.push {cls:= .type "slice",data:= .fields #[J,M,.none]}} σ O x v J M l u z.heap.objs.size Q I4 r1 (Heap.IsSliceOf.new ..) pl pu q3;show wpAny (model X.prog X.w) X.A (subscriptTail e (.Slice lo hi none p2) v (.ref z.heap.objs.size)) (EP X pins σ Q) X.xe {z with heap:=z.heap.push {cls:= .type "slice",data:= .fields #[J,M,.none]}};exact tail_any (ops:=[.ref z.heap.objs.size,v]) ht hT hg (by with_unfolding_all rfl)
def eM(xs:List V)(lo hi:Option Int):List V:=(xs.drop (HT.sIx xs.length 0 lo)).take (HT.sIx xs.length xs.length hi - HT.sIx xs.length 0 lo)
theorem Qz(xs:List V)(lo hi:Option Int):(eM xs lo hi).length<=xs.length:=by
 unfold eM;rw [AD,List.length_drop];omega
def pX(K:rH):V->Option Int->Option Int->Hp->VK->Prop:=λx lo hi H Q=>∃a xs,x = .ref a/\SqT K H a xs/\
 ¬(HT.sIx xs.length 0 lo=0/\HT.sIx xs.length xs.length hi=xs.length)/\∀p,H p=none->Q (.ref p) (upd H p (.tup (eM xs lo hi)))
theorem gh:SlR X (pX X.K):=by
 intro pins s σ H x v vl vu lo hi sl Q I O Y pl pu h;obtain⟨a,xs,rfl,hx,hw,q⟩:=h;cases O;obtain⟨a2,r,J,M⟩:=I.tuple hx;have z:a2.toArray.size=xs.length:=by rw [rZ];exact r.length.symm
 refine⟨"tuple",_,uj.lookup,J.typeIs,?_⟩;refine HT.getItem_tuple_cut J Y pl pu (by rw [z];exact hw) ?_ (by rw [z];exact M);rw [z];refine⟨.ref s.heap.objs.size,_,I.laid (t':=s.toks) (o:= .tup (eM xs lo hi)) (λb ob q=>rM _ q) (se _) ?_,rfl,q _ (I.hok.fresh (se _))⟩;exact⟨tP (Qz xs lo hi) M,_,(r.drop (HT.sIx xs.length 0 lo)).take (HT.sIx xs.length xs.length hi - HT.sIx xs.length 0 lo),IsTupD.new _ _⟩
theorem Vals.nil_iff{xs:List V}{us:List Value}(r:Vals xs us):us=[]↔xs=[]:=by
 cases r with
 | nil=>simp
 | cons _ _=>simp
end
def ixN(n:Nat)(i:Int):Option Nat:=if 0<=i then (if i<n then some i.toNat else none)else if -(n:Int)<=i then some (i+n).toNat else none
def atI{α:Type}(xs:List α)(i:Int):Option α:=(ixN xs.length i).bind λj=>xs[j]?
theorem Qv{n:Nat}{i:Int}{j:Nat}(h:ixN n i=some j):seqIndex? i n=some j/\j<n/\ -(n:Int)<=i/\i<n:=by
 unfold ixN at h;by_cases h0:0<=i
 ·rw [if_pos h0]at h
  by_cases h1:i<n
  ·rw [if_pos h1]at h
   have e:i.toNat=j:=sH h;exact⟨by rw [seqIndex_of h0 h1,e],by omega,by omega,h1⟩
  ·rw [if_neg h1]at h;cases h
 ·rw [if_neg h0]at h
  by_cases h1 : -(n:Int)<=i
  ·rw [if_pos h1]at h
   have e:(i+n).toNat=j:=sH h;exact⟨by rw [seqIndex_neg ⋯ h1,e],by omega,h1,by omega⟩
  ·rw [if_neg h1]at h;cases h
theorem QF{α:Type}{xs:List α}{i:Int}{v:α}(h:atI xs i=some v) : ∃j,seqIndex? i xs.length=some j/\xs[j]? = some v/\j<xs.length/\ -(xs.length:Int)<=i/\i<xs.length:=by
 unfold atI at h;cases e:ixN xs.length i with
 | none=>rw [e]at h;cases h
 | some j=>
  rw [e]at h;obtain⟨h1,h2,z,I⟩:=Qv e;exact⟨j,h1,h,h2,z,I⟩
def ZL(b:Expr):Prop:=∀o i,subscripted b false o i=operate [o,i] (getItem o i)
def IxR(X:Cx)(r:R2):Prop:=
 ∀(value z:Expr) (pins:List (Addr×Obj)) (s:Shared) (σ:St) (H:Hp) (x y:V) (v u:Value) (Q:VK),Inv X pins σ H s->RelV x v->RelV y u->r x y H Q->
  subscripted z false v u=operate [v,u] (getItem v u)->wpAny (model X.prog X.w) X.A (subscriptTail value z v u) (EP X pins σ Q) X.xe s
def MtR(X:Cx)(id:String)(r:V->List V->Hp->VK->Prop):Prop:=
 ∀(pins:List (Addr×Obj)) (s:Shared) (σ:St) (H:Hp) (x:V) (xs:List V) (v:Value) (us:List Value) (Q:VK),Inv X pins σ H s->RelV x v->Vals xs us->r x xs H Q->
  wpAny (model X.prog X.w) X.A (call (.builtin id) (v::us)) (EP X pins σ Q) X.xe s
section
variable{X:Cx}{a b:Expr}{ta tb:TE}{pos:Pos}
theorem IxR.or{r r':R2}(h:IxR X r)(h':IxR X r'):IxR X (λx y H Q=>r x y H Q\/r' x y H Q):=by
 intro value z pins s σ H x y v u Q I J M q O;rcases q with q | q
 ·exact h value z pins s σ H x y v u Q I J M q O
 ·exact h' value z pins s σ H x y v u Q I J M q O
theorem dw{r:R2}(z:IxR X r)(ha:PE X a ta)(J:PE X b tb)(M:ZL b):PE X (.Subscript a b pos) (tOp r ta tb):=by
 intro pins s σ H Q I h;exact Subscript_ (oo ha J I h λv u s2 x y H2 O Y ry q=>z a b pins s2 σ H2 x y v u Q O Y ry q (M _ _))
def oX(K:rH):R2:=λx y H Q=>∃p xs i v,x = .ref p/\y = .int i/\SqL K H p xs/\atI xs i=some v/\Q v H
def pY(K:rH):R2:=λx y H Q=>∃p xs i v,x = .ref p/\y = .int i/\SqT K H p xs/\atI xs i=some v/\Q v H
def pZ:R2:=λx y H Q=>∃z i c,x = .str z/\y = .int i/\z.length<=sizeLine/\atI z.cps.toList i=some c/\Q (.str ⟨#[c]⟩) H
theorem ix_list:IxR X (oX X.K):=by
 intro value a8 pins s σ H x y v u Q I rx ry h M;obtain⟨p,xs,i,z,rfl,rfl,hq,he,q⟩:=h;cases rx;obtain⟨t,rfl⟩:=ry;obtain⟨a3,r,pl,hz⟩:=I.list hq;obtain⟨j,h1,h2,h3,h4,h5⟩:=QF he;obtain⟨w,O,a6⟩:=r.get h2;have hl:=r.length;have hn:=vE;have Y:EP X pins σ Q w s:=⟨z,H,I,a6,q⟩;by_cases h0:0<=i
 ·have J:i.toNat=j:=by
   rw [seqIndex_of h0 h5]at h1;exact sH h1
  exact item_listR pl.isList h0 ⋯ (by rw [J];simpa using O) Y M
 ·have J:(i+(a3.toArray.size:Int)).toNat=j:=by
   rw [seqIndex_neg ⋯ h4]at h1;rw [rZ,<- hl];exact sH h1
  exact subscriptTail_builtinR (x:=w) pl.isList.typeIs slot_list_getitem.lookup
   (wpAny_getItem_list_neg (Q:=λr s'=>r=w/\EP X pins σ Q r s') pl.isList ⋯ (by rw [rZ]<;>omega) ⋯ (by rw [J];simpa using O) ⟨rfl,Y⟩) M
theorem iI:IxR X (pY X.K):=by
 intro value a4 pins s σ H x y v u Q I J M h O;obtain⟨p,xs,i,z,rfl,rfl,Y,he,q⟩:=h;cases J;obtain⟨t,rfl⟩:=M;obtain⟨a5,r,pl,hz⟩:=I.tuple Y;obtain⟨j,h1,h2,h3,h4,h5⟩:=QF he;obtain⟨w,ew,a1⟩:=r.get h2;have hl:=r.length;have hn:=vE;have a3:EP X pins σ Q w s:=⟨z,H,I,a1,q⟩;exact subscriptTail_builtinR (x:=w) pl.typeIs slot_tuple_getitem.lookup
  (getItem_tuple (j:=j) (Q:=λr s'=>r=w/\EP X pins σ Q r s') pl ⋯ ⋯ (by rw [rZ,<- hl];exact h1) (by simpa using ew) ⟨rfl,a3⟩) O
theorem iJ:IxR X pZ:=by
 intro value a2 pins s σ H x y v u Q I J M h O;obtain⟨z,i,c,rfl,rfl,hz,he,q⟩:=h;obtain⟨t,rfl⟩:=J;obtain⟨t',rfl⟩:=M;obtain⟨j,h1,h2,h3,Y,h5⟩:=QF he;have hl:z.cps.toList.length=z.length:=by simp [Str.length]
 rw [hl]at h1 Y h5;have hn:=vE;exact tail_any (typeIs_str s z t) slot_str_getitem.lookup (getItem_str (c:=c) (by
  have e1:decide (i < -(2 ^ 63:Int))=false:=decide_eq_false ⋯;have e2:decide (i>=2 ^ 63)=false:=decide_eq_false ⋯;rw [e1,e2,Bool.or_false]) (by rw [h1];simpa using h2) ⟨.str ⟨#[c]⟩,H,I.tok _,⟨_,rfl⟩,q⟩) O
theorem Ku(z:List Value)(n j:Nat)(u:Value):uJ (·.setIfInBounds j u) {cls:= .type "list",data:= .seq z.toArray n} = {cls:= .type "list",data:= .seq (z.set j u).toArray n}:=by
 simp [uJ]
theorem Inv.lst{pins:List (Addr×Obj)}{σ:St}{H:Hp}{s:Shared}{p:Addr}{xs:List V}(I:Inv X pins σ H s)(h:H p=some (.lst xs)) :
 ∃(J:List Value) (n:Nat),Vals xs J/\s.heap.get? p=some {cls:= .type "list",data:= .seq J.toArray n}/\xs.length<=sizeLine:=by
 obtain⟨z,J,n,r,e⟩:=I.hok p _ h;exact⟨J,n,r,e,z⟩
theorem Inv.lstUpd{pins:List (Addr×Obj)}{σ:St}{H:Hp}{s:Shared}{p:Addr}{xs ys:List V}{J its':List Value}{n z:Nat}{f:Obj->Obj}(I:Inv X pins σ H s)(h:H p=some (.lst xs))
 (O:s.heap.get? p=some {cls:= .type "list",data:= .seq J.toArray n}) (M:f {cls:= .type "list",data:= .seq J.toArray n} = {cls:= .type "list",data:= .seq its'.toArray z}) (r:Vals ys its') (Y:ys.length<=sizeLine) (t:Nat) :
 Inv X pins σ (upd H p (.lst ys)) {s with heap:=s.heap.update p f,toks:=t}:=by
 have e:(s.heap.update p f).get? p=some {cls:= .type "list",data:= .seq its'.toArray z}:=by
  rw [BN f O (by rw [M]<;>rfl),M]
 refine I.write (x:=p) (e:=p) (by rw [h];trivial) (.inl rfl) (λb u hb q=>(Heap.get?_update_other _ _ (uu hb)).trans q) ⟨_,e⟩ ?_;exact⟨Y,its',z,r,e⟩
def Wm:V->V->V->Hp->(Hp->Prop)->Prop:=λo i v H Q=>∃p xs k j,o = .ref p/\i = .int k/\H p=some (.lst xs)/\ixN xs.length k=some j/\Q (upd H p (.lst (xs.set j v)))
theorem Wb:pK X Wm:=by
 intro pins s σ H o i v ov iv u Q I ro ri rv h;obtain⟨p,xs,k,j,rfl,rfl,O,hj,q⟩:=h;cases ro;obtain⟨t,rfl⟩:=ri;obtain⟨Y,n,r,z,hz⟩:=I.lst O;obtain⟨h1,h2,h3,h4⟩:=Qv hj;have J:=r.length;have hn:=vE;have I':Inv X pins σ (upd H p (.lst (xs.set j v))) {s with heap:=s.heap.update p (uJ (·.setIfInBounds j u))}:=
  I.lstUpd O z (Ku Y n j u) (r.set rv j) (by rw [uV];exact hz) s.toks
 by_cases h0:0<=k
 ·have M:k.toNat=j:=by
   rw [seqIndex_of h0 h4]at h1;exact sH h1
  exact PySem.W.ki_setAt z h0 ⋯ (by rw [rZ,<- J];exact h4) (by rw [M];exact⟨_,I',q⟩)
 ·have M:(k+(Y.toArray.size:Int)).toNat=j:=by
   rw [seqIndex_neg ⋯ h3]at h1;rw [rZ,<- J];exact sH h1
  exact PySem.W.ki_setBack z ⋯ (by rw [rZ,<- J];exact h3) ⋯ (by rw [M];exact⟨_,I',q⟩)
theorem JS:yG X (.builtin "len") (λxs H Q=>∃p ys,xs=[.ref p]/\(SqL X.K H p ys\/SqT X.K H p ys)/\Q (.int ys.length) H):=by
 intro pins s σ H xs us Q I r h;obtain⟨p,ys,rfl,z,q⟩:=h;obtain⟨u,rfl,M⟩:=kY r;cases M;have hn:=vE;rcases z with z | z
 ·obtain⟨O,r',pl,Y⟩:=I.list z
  have J:=r'.length;exact Calls.call_len_list pl.isList (by simp only [rZ]<;>omega) ⟨.int ys.length,H,I.tok _,⟨s.toks+1,by rw [rZ,J]⟩,q⟩
 ·obtain⟨O,r',pl,Y⟩:=I.tuple z
  have J:=r'.length;exact len_tuple pl (by simp only [rZ]<;>omega) ⟨.int ys.length,H,I.tok _,⟨s.toks+1,by rw [rZ,J]⟩,q⟩
theorem JR:yG X (.builtin "len") (λxs H Q=>∃z,xs=[.str z]/\z.length<=sizeLine/\Q (.int z.length) H):=by
 intro pins s σ H xs us Q I r h;obtain⟨z,rfl,J,q⟩:=h;obtain⟨u,rfl,t,rfl⟩:=kY r;have hn:=vE;exact len_str ⋯ ⟨.int z.length,H,I.tok _,⟨_,rfl⟩,q⟩
theorem JQ:yG X (.type "list") (λxs H Q=>∃p ys,xs=[.ref p]/\(SqL X.K H p ys\/SqT X.K H p ys)/\∀l,H l=none->Q (.ref l) (upd H l (.lst ys))):=by
 intro pins s σ H xs us Q I r h;obtain⟨p,ys,rfl,J,q⟩:=h;obtain⟨u,rfl,rx⟩:=kY r;cases rx;have a0 : ∀(z:List Value),Vals ys z->ys.length<=sizeLine->∀(h':Heap) (c':Nat),(∀b o',s.heap.get? b=some o'->h'.get? b=some o')->
  h'.get? s.heap.objs.size=some {cls:= .type "list",dict:=none,data:= .seq z.toArray c',slots:=#[]}->EP X pins σ Q (.ref s.heap.objs.size) {s with heap:=h'}:=λz r' M h' c' kp e=>
  ⟨.ref s.heap.objs.size,_,I.laid (t':=s.toks) kp (se _) (show ObjOk X.prog X.w _ h' _ (.lst ys)from⟨M,z,c',r',e⟩),rfl,q _ (I.hok.fresh (se _))⟩
 rcases J with J | J
 ·obtain⟨z,r',pl,M⟩:=I.list J
  have a2:=r'.length;obtain⟨o,O,Y,n,hd⟩:=pl.isList;exact call_list_seq p (.inl rfl) O Y hd (λh' c' kp e=>a0 z r' M h' c' kp e) (by simp only [rZ]<;>omega)
 ·obtain⟨z,r',pl,M⟩:=I.tuple J
  have a2:=r'.length;obtain⟨o,O,Y,n,hd⟩:=pl;exact call_list_seq p (.inr rfl) O Y hd (λh' c' kp e=>a0 z r' M h' c' kp e) (by simp only [rZ]<;>omega)
theorem ZH:yG X (.type "tuple") (λxs H Q=>∃p ys,xs=[.ref p]/\((SqL X.K H p ys/\∀l,H l=none->Q (.ref l) (upd H l (.tup ys)))\/(SqT X.K H p ys/\Q (.ref p) H))):=by
 intro pins s σ H xs us Q I r h;obtain⟨p,ys,rfl,h⟩:=h;obtain⟨u,rfl,Y⟩:=kY r;cases Y;rcases h with⟨z,q⟩ | ⟨z,q⟩
 ·obtain⟨J,r',pl,M⟩:=I.list z
  have a1:=r'.length;refine call_tuple_list pl.isList (λh' kp=>?_) (by simp only [rZ]<;>omega);have O:Inv X pins σ H {s with heap:=h'}:=I.kept (t':=s.toks) kp;have I2:Inv X pins σ (upd H h'.objs.size (.tup ys)) {s with heap:=h'.push {cls:= .type "tuple",data:= .seq J.toArray}}:=
   O.laid (t':=s.toks) (λb o e=>rM _ e) (se _) (show ObjOk X.prog X.w _ _ _ (.tup ys)from⟨M,J,r',IsTupD.new _ _⟩)
  exact⟨.ref h'.objs.size,_,I2,rfl,q _ (O.hok.fresh (se _))⟩
 ·obtain⟨J,r',pl,M⟩:=I.tuple z
  exact call_tuple_same pl ⟨.ref p,H,I,rfl,q⟩
def tyV(K:rH)(T:String)(x:V)(H:Hp):Prop:=match x with
 | .str _=>T = "str"
 | .int _=>T = "int"
 | .ref p=>(T = "list"/\∃xs,SqL K H p xs)\/(T = "tuple"/\∃o,K.lookup p=some o/\o.cls = .type "tuple"/\o.dict=none)\/
  (T = "dict"/\((∃kvs,H p=some (.dK kvs))\/∃kvs,H p=some (.dT kvs)))\/(T = "set"/\∃S n,H p=some (.set S n))
 | _=>False
theorem fS{pins:List (Addr×Obj)}{σ:St}{H:Hp}{s:Shared}{T:String}{x:V}{v:Value}(I:Inv X pins σ H s)(r:RelV x v)(ty:tyV X.K T x H) :
 s.TypeIs v T/\∀a,v = .ref a->∃M,s.heap.get? a=some M/\M.dict=none:=by
 cases x with
 | str z=>
  obtain⟨t,rfl⟩:=r;cases (show T = "str" from ty);exact⟨typeIs_str s z t,λ_ e=>nomatch e⟩
 | int i=>
  obtain⟨t,rfl⟩:=r;cases (show T = "int" from ty);exact⟨typeIs_int s i t,λ_ e=>nomatch e⟩
 | ref p=>
  cases r;rcases ty with⟨rfl,xs,O⟩ | ⟨rfl,o,J,Y,hd⟩ | ⟨rfl,J⟩ | ⟨rfl,S,n,J⟩
  ·obtain⟨a0,_,pl,_⟩:=I.list O
   refine⟨pl.isList.typeIs,λa e=>?_⟩;cases e;obtain⟨o,n,e,c,hd,_⟩:=pl;exact⟨o,e,hd⟩
  ·refine⟨⟨o,I.kIn p o J,Y⟩,λa e=>?_⟩
   cases e;exact⟨o,I.kIn _ o J,hd⟩
  ·have z : ∃o,s.heap.get? p=some o/\o.ExactDict:=by
    rcases J with⟨kvs,J⟩ | ⟨kvs,J⟩
    ·obtain⟨_,_,_,_,o,_,_,e,ex,_⟩:=I.hok p _ J
     exact⟨o,e,ex⟩
    ·obtain⟨_,_,_,_,o,_,_,e,ex,_⟩:=I.hok p _ J
     exact⟨o,e,ex⟩
   obtain⟨o,e,ex⟩:=z;refine⟨⟨o,e,ex.1⟩,λa e2=>?_⟩;cases e2;exact⟨o,e,ex.2.1⟩
  ·obtain⟨o,_,_,_,e,ex,_⟩:=I.hok p _ J
   refine⟨⟨o,e,ex.1⟩,λa e2=>?_⟩;cases e2;exact⟨o,e,ex.2.1⟩
 | _=>exact Ac ty
def tBM(K:rH)(T:String)(r:V->List V->Hp->VK->Prop)(to:TE)(t:TA):TE:=λσ H Q=>to σ H λx H1=>tyV K T x H1/\t σ H1 λxs H2=>r x xs H2 Q
variable{o e:Expr}{es:List Expr}{to:TE}{t:TA}{name:Str}{apos cpos:Pos}{T id:String}{r:V->List V->Hp->VK->Prop}
theorem dC(M:PlainAttrs T)(slot:Slot T name id)(O:typeOf (.builtin id)=pure (.type "method_descriptor"))(hm:MtR X id r)(Y:PE X o to)(ha:PA X (e::es) t)
 (a0:attributeBase o name X.env (eval o X.env)=eval o X.env:=by rfl)
 (a1:((backTo cpos (starEach (e::es) X.env)).all (λx=> !x.1) && (backToKw cpos (keywordEach [] X.env)).all (λx=>x.1.isSome)
   && decide ((e::es).length+([]:List Keyword).length+(if ([]:List Keyword).isEmpty then 0 else 1)<30))=true:=by rfl)
 (a2:(apos.endLine==cpos.line)=true:=by rfl) (hs:starEach (e::es) X.env=(false,eval e X.env)::starEach es X.env:=by rfl) (a4:(backTo cpos (starEach es X.env)).any (·.1)=false:=by rfl) :
 PE X (.Call (.Attribute o name apos) (e::es) [] cpos) (tBM X.K T r to t):=by
 intro pins s σ H Q I h;refine wpAny_Call_method_late a0 a1 a2 rfl (thn (Y pins s σ H _ I h) λv s1 hZ=>?_);obtain⟨x,H1,z,r1,ty,q1⟩:=hZ;obtain⟨h1,h2⟩:=fS z r1 ty;refine⟨T,id,M,slot,O,h1,h2,?_⟩;have J:=ha cpos pins s1 σ H1 _ z q1;rw [hs]at J ⊢;refine Calls.callWith_builtin (by show(false || (backTo cpos (starEach es X.env)).any (·.1))=false;rw [a4]<;>rfl) (Calls.evalArgs_plain ?_);exact thn J λus s2 ⟨vs,H2,I2,r2,q2⟩=>hm pins s2 σ H2 x vs v us Q I2 r1 r2 q2
end
def MtM(X:Cx)(id:String)(r:V->List V->Hp->VK->Prop):Prop:=
 ∀(pins:List (Addr×Obj)) (s:Shared) (σ:St) (H:Hp) (x:V) (xs:List V) (v:Value) (us:List Value) (Q:VK),Inv X pins σ H s->RelV x v->Vals xs us->r x xs H Q->
  wpAny (model X.prog X.w) X.A (call (.builtin id) (v::us)) (EP X pins σ Q) X.xe s
theorem Vals.one : ∀{x:V} {us:List Value},Vals [x] us->∃u,us=[u]/\RelV x u
 | _,_,.cons r .nil=>⟨_,rfl,r⟩
theorem Vals.dropLast{xs:List V}{us:List Value}(h:Vals xs us):Vals xs.dropLast us.dropLast:=by
 induction h with
 | nil=>exact .nil
 | cons r t z=>
  cases t with
  | nil=>exact .nil
  | cons q t'=>exact .cons r z
theorem Vals.rep{xs:List V}{us:List Value}(h:Vals xs us) : ∀k:Nat,Vals (rY k xs).flatten (rY k us).flatten
 | 0=> .nil
 | k+1=>by
  rw [uH,uH,Ae,Ae];exact Vals.append h (Vals.rep h k)
theorem JJ(z:List Value) : ∀(k:Nat) (acc:List Value),
 List.foldl (λx1 I=>x1++I) acc.toArray (rY k z.toArray)=(acc++(rY k z).flatten).toArray
 | 0,acc=>by simp
 | k+1,acc=>by
  have e:acc.toArray++z.toArray=(acc++z).toArray:=by simp
  have e2:(acc++z)++(rY k z).flatten=acc++(rY (k+1) z).flatten:=by
   rw [uH,Ae,Cs]
  rw [<- e2,<- JJ z k (acc++z),<- e,uH,List.foldl_cons]
section
variable{X:Cx}{pins:List (Addr×Obj)}{σ:St}{H:Hp}{s:Shared}{l b:Addr}{xs ys zs:List V}
theorem Inv.lset{z its':List Value}{n:Nat}{f:Array Value->Array Value}{t':Nat}(I:Inv X pins σ H s)(J:H l=some (.lst xs))
 (e:s.heap.get? l=some {cls:= .type "list",data:= .seq z.toArray n}) (M:f z.toArray=its'.toArray) (O:Vals ys its') (Y:ys.length<=sizeLine) :
 Inv X pins σ (upd H l (.lst ys)) {s with heap:=s.heap.update l (uJ f),toks:=t'}:=by
 have q:=PySem.IsL.update e f;rw [M]at q;refine I.write (x:=l) (e:=l) (by rw [J];exact trivial) (.inl rfl) (λb' u hb hu=>(Heap.get?_update_other s.heap (uJ f) (uu hb)).trans hu) ⟨_,q⟩ ?_;exact⟨Y,its',_,O,q⟩
theorem Inv.lnew{z:List Value}{t':Nat}(I:Inv X pins σ H s)(J:Vals ys z)(M:ys.length<=sizeLine) :
 Inv X pins σ (upd H s.heap.objs.size (.lst ys)) {s with heap:=s.heap.push {cls:= .type "list",data:= .seq z.toArray},toks:=t'}:=
 I.laid (λ_ _ q=>rM _ q) (se _) ⟨M,z,0,J,sh _ rfl⟩
theorem Inv.fresh(I:Inv X pins σ H s):H s.heap.objs.size=none:=I.hok.fresh (se _)
theorem Inv.lstM(I:Inv X pins σ H s)(M:H l=some (.lst xs)):xs.length<=sizeLine/\∃(J:List Value) (n:Nat),Vals xs J/\xs.length=J.length/\s.heap.get? l=some {cls:= .type "list",data:= .seq J.toArray n}:=by
 obtain⟨z,J,n,r,e⟩:=I.hok l _ M;exact⟨z,J,n,r,r.length,e⟩
theorem WM{n:Nat}(h:n<=sizeLine):Bf n=false:=by
 unfold Bf;exact decide_eq_false ⋯
end
section
variable{X:Cx}
def Qe:V->List V->Hp->VK->Prop:=λx vs H Q=>∃l xs y,x = .ref l/\vs=[y]/\H l=some (.lst xs)/\xs.length<sizeLine/\Q .non (upd H l (.lst (xs++[y])))
theorem Jz:MtM X "list.append" Qe:=by
 intro pins s σ H x vs v us Q I O Y h;obtain⟨l,xs,y,rfl,rfl,J,hz,q⟩:=h;cases O;obtain⟨u,rfl,ru⟩:=Y.one;obtain⟨z,M,n,r,hl,e⟩:=I.lstM J;refine BJ F.slot_list_append ⟨_,e,rfl⟩ F.entry_list_append (F.args_list_append_2 _ _) (PySem.list_append l M.toArray n u (by rw [rZ];omega)) ⟨e,?_⟩;refine⟨.non,_,I.lset (its':=M++[u]) J e ⋯ (r.append (.cons ru .nil)) ?_,rfl,q⟩;rw [tM,Av];omega
def cO:V->List V->Hp->VK->Prop:=λx vs H Q=>∃l b xs zs,x = .ref l/\vs=[.ref b]/\H l=some (.lst xs)/\H b=some (.lst zs)/\xs.length+zs.length<=sizeLine/\Q .non (upd H l (.lst (xs++zs)))
theorem YT:MtM X "list.extend" cO:=by
 intro pins s σ H x vs v us Q I Y rv h;obtain⟨l,b,xs,zs,rfl,rfl,O,hB,hz,q⟩:=h;cases Y;obtain⟨u,rfl,ru⟩:=rv.one;cases ru;obtain⟨z,J,n,r,hl,e⟩:=I.lstM O;obtain⟨z2,M,n2,r2,a6,e2⟩:=I.lstM hB;have hsz:J.toArray.size+M.toArray.size<=sizeLine:=by rw [rZ,rZ];omega
 have a3 : ¬(!J.toArray.isEmpty && Bf (J.toArray.size+M.toArray.size))=true:=by
  rw [WM hsz,Bool.and_false];exact tj
 refine BJ F.slot_list_extend ⟨_,e,rfl⟩ F.entry_list_extend (F.args_list_extend_2 _ _)
  (AutoSeq1.list_extend_list_list_0 l J.toArray n b M.toArray n2 a3 (by rw [rZ];omega) ⋯) ⟨e,e2,?_⟩
 refine⟨.non,_,I.lset (its':=J++M) O e ⋯ (r.append r2) ?_,rfl,q⟩;rw [tM];omega
theorem YW{α:Type}(xs:List α)(k:Nat):(rY k xs).flatten.length=k*xs.length:=by
 induction k with
 | zero=>simp
 | succ k z=>rw [uH,Ae,tM,z,Nat.succ_mul,Nat.add_comm]
end
end L2
namespace Att
open PySem PySem.W PySem.Calls PyProof.Rows
theorem vK{P:Params}{h:Heap} : ∀(ns:List Int) (vs:List Value),WellAll P h vs (ns.map WData.int)->IntsAre vs ns:=by
 intro ns
 induction ns with
 | nil=>
  intro vs w;rw [List.map_nil]at w;cases w;exact .nil
 | cons n ns z=>
  intro vs w;rw [sJ]at w;cases w with
  | cons a b=>
   cases a;exact .cons _ _ (z _ b)
theorem Yf{l:OpenLaw}{n:Nat}(hn:l.most=some n){P:Params}{h:Heap}{args:List WData}{J:List Value}
 (M:l.row.toRowW.claim.pre args=true) (Y:WellAll P h J args) :
 ∃a vs ns,J=[sN a]/\args=[WData.list (ns.map WData.int)]/\h.get? a=some {cls:= .type "list",data:= .seq vs.toArray}/\IntsAre vs ns/\ns.length<=n:=by
 have a0:WShape.hasAll [] args [.list .int]=true:=(pre_splitW M).1;have O:l.pre.holds [] {args:=args}=true:=(pre_splitW M).2;obtain⟨d,r,rfl,h1,h2⟩:=hasAllW_cons a0;obtain rfl:=hasAllW_nil h2;obtain⟨xs,rfl,h3⟩:=hasW_list h1;obtain⟨ns,rfl⟩:=items_int h3;have a2:ns.length<=n:=by
  unfold OpenLaw.pre at O;have z:(WTm.not (.lt (.lit (.int (n:Int))) (.len (.arg 0)))).holds [] {args:=[.list (ns.map .int)]}=true:=by
   have z:=(holds_andW O).1;rw [hn]at z;exact z
  have I:=condW_of z (w_not (w_lt w_lit (w_len_list (w_arg rfl))));rw [sC]at I;refine Nat.le_of_not_lt λq=>?_;have q':(n:Int)<((ns.length:Nat):Int):=by omega
  first
   | (rw [decide_eq_true q']at I;exact absurd I ⋯)
   | (simp at I;omega)
 cases Y with
 | cons w1 w2=>
  cases w2;cases w1 with
  | list ho a5=>exact⟨_,_,ns,rfl,rfl,ho,vK ns _ a5,a2⟩
theorem Yw(l:OpenLaw)(args:List WData):l.row.toRowW.claim.post args (.bool true) args=true:=
 postW_of (r:=l.row.toRowW) (X:=(true==true))
  (show WShape.has [] (.bool true) .bool=true by first | rfl | decide | simp [WShape.has,WShape.arms,WShape.armsAll])
  (show(WTm.eq .res (.lit (.bool true))).value [] {args:=args,res:=some (.bool true),after:=args}=some (.bool (true==true))from w_eq_bool (w_res rfl) w_lit) rfl
theorem attach_call{l:OpenLaw}{n:Nat}{q:Program}{J:List Str}{M:(Str->Option Value)->Heap->Prop}{O:World->Heap->Prop}{d:DefRec}
 (hn:l.most=some n) (a1:d.params.defaults=[])
 (call : ∀(w:World) (s₀ z:Shared) (mg mb:Str->Option Value) (fa:Addr) (o:Obj) (pm I doc:Value) (a:Addr) (vs:List Value) (ns:List Int),
   Ground q J [] M w s₀ mg mb z.heap->O w z.heap->
   z.heap.get? fa=some o->o.data = .func (docDef d.name d.params d.body d.scope pm I doc)->z.heap.CodeRec I d.name->mg d.name=some (.ref fa)->
   z.heap.get? a=some {cls:= .type "list",data:= .seq vs.toArray}->IntsAre vs ns->ns.length<=n->z.gens = #[]->
   codeAny (model l.prog w) callerA (.call (.ref fa) ⟨[.ref a],[]⟩) (λr s'=>r = .ok (.ret (.bool true))/\OldK z.heap s'.heap/\s'.os=z.os/\AllBare s'.gens) z) :
 WalkO q J M O l.row.toRowW d [] (λf vs=>PySem.call f vs):=by
 intro w s₀ z mg mb G Y fa o pm I doc dV kV ho hd a4 hD a5 hg args ax as a7 b0 b9 a8 bb;obtain rfl:dV = .none:=Dflts.none hD a1;obtain rfl:kV = .none:=Dflts.noKw hD;obtain⟨a,vs,ns,rfl,rfl,a9,ac,am⟩:=Yf hn a7 a8;refine enter_call (Cd (call w s₀ z mg mb fa o pm I doc a vs ns G Y ho (fd_plain hd) a4 a5 a9 ac am hg) λr s' hq=>?_);obtain⟨rfl,h2,h3,h4⟩:=hq;exact⟨.inl ⟨.bool true,.bool true,[],rfl,λ_=>rfl,.bool true,Yw l _,λ_=>⟨List.Pairwise.nil,λ_ hm=>(nomatch hm)⟩⟩,h2,h3,h4⟩
end Att
namespace L2
open PySem PySem.Spec PyProof.Rows
theorem kA : ∀{vs:List Value} {ns:List Int},IntsAre vs ns->Vals (ns.map V.int) vs
 | _,_,.nil=> .nil
 | _,_,.cons n t h=> .cons ⟨t,rfl⟩ (kA h)
def mH(H:Hp):Prop:=∀b,H b=none\/∃o xs,H b=some (.frz o (.lst xs))
theorem WZ{P:Program}{w:World}{K:rH}{mg mb:Str->Option Value}{CX:CXT}{k:Nat}{fa a:Addr}{fd:FuncData}{x:Str}{sp:Sp}{I:Shared}{vs:List Value}{ns:List Int}
 (KX:K.In I.heap) (a1:I.heap.Ns mainGlobals mg) (J:I.heap.Ns builtinsNs mb) (a9 : ∀x:Str,x ≠ "__name__"->mb x=bootBuiltins x) (ac:I.heap.NoLimit) (hg:I.gens = #[])
 (ha:I.heap.get? a=some {cls:= .type "list",data:= .seq vs.toArray}) (hi:IntsAre vs ns) (hl:ns.length<=sizeLine) (hr:Room k callerA)
 (F : ∀base:Heap,K.In base->base.Ns mainGlobals mg->FnOk P w K mg base CX k fa fd [x] sp) (ap : ∀(s:Shared) (u:Value),BindsTo s fd ⟨[u],[]⟩ [(x,u)])
 (ar : ∀H:Hp,mH H->SqL K H a (ns.map V.int)->sp [.ref a] H (λv _=>v = .bl true) λ_ _ _=>False)
 (as : ∀H e s',CX [] H I (λ_ _ _=>False) e s'->False) :
 codeAny (model P w) callerA (.call (.ref fa) ⟨[.ref a],[]⟩) (λr s'=>r = .ok (.ret (.bool true))/\OldK I.heap s'.heap/\s'.os=I.os/\AllBare s'.gens) I:=by
 have rv:=kA hi;have ax:=hi.length;have a4 : ∀H:Hp,mH H->SqL K H a (ns.map V.int)->HOk P w H I.heap->(∀b,H b≠none->b=a)->(H a≠none->K.lookup a=none)->
  codeAny (model P w) callerA (.call (.ref fa) ⟨[.ref a],[]⟩) (λr s'=>r = .ok (.ret (.bool true))/\OldK I.heap s'.heap/\s'.os=I.os/\AllBare s'.gens) I:=by
  intro H hO hS hok hA hK;have a7 : ∀{b:Addr} {o:Obj},I.heap.get? b=some o->H b=none->(W6 I.heap H).get? b=some o:=λe n=>W5 e n;have bb : ∀{b:Addr} {o:Obj} {es:Array DictEntry} {ep:Nat},I.heap.get? b=some o->o.data = .dict es ep->H b=none:=λ{b o es ep} e d=>by
   cases q:H b with
   | none=>rfl
   | some u=>
    have Y:b=a:=hA b (by rw [q];simp);subst Y;rw [ha]at e;cases e;have d':Data.seq vs.toArray _=Data.dict es ep:=d;cases d'
  have O : ∀{b:Addr} {m:Str->Option Value},I.heap.Ns b m->(W6 I.heap H).Ns b m:=λ{b m} ⟨o,es,ep,e,d,r⟩=>⟨o,es,ep,a7 e (bb e d),d,r⟩;have a8:K.In (W6 I.heap H):=λb o e=>a7 (KX b o e) (by
   cases q:H b with
   | none=>rfl
   | some u=>
    have Y:b=a:=hA b (by rw [q];simp);subst Y;rw [hK (by rw [q];simp)]at e;cases e)
  have hM:Mod K mg (W6 I.heap H):=⟨a8,O a1,⟨mb,O J,a9⟩,let ⟨mc,h1,h2⟩:=ac;⟨mc,O h1,h2⟩⟩;have e0:Env0 P w K mg (W6 I.heap H) callerA [] I H:=⟨rfl,hM,λb o e=>dO e,Nat.le_of_eq (Y7 _ _),trivial,λb J=>absurd (show b∈([]:List Addr)from J) ⋯,hok,.of_eq hg⟩;refine Cd ((F _ a8 (O a1)).run callerA [] I H ⟨[.ref a],[]⟩ [.ref a] [.ref a] _ _ hr e0 (ap I (.ref a)) (.cons rfl .nil) (ar H hO hS)) λr s' h=>?_;cases r with
  | error e=>exact(as H e s' h).elim
  | ok fl=>
   cases fl with
   | next=>exact Ac h
   | brk=>exact Ac h
   | cont=>exact Ac h
   | ret u=>
    obtain⟨v,H',os,bare,un,bm,r',q⟩:=h;have q':v = .bl true:=q;subst q';obtain rfl:u=Cp true:=r';refine⟨rfl,OldK.of_keep λb o e=>?_,os,bare⟩;cases q:H b with
    | none=>exact un.keep b o e q (by intro z;exact absurd (show b∈([]:List Addr)from z) ⋯) ⋯
    | some u=>
     rcases hO b with z | ⟨ob,xs,z⟩
     ·rw [q]at z;cases z
     ·have z2:=un.frzs b ob _ z
      obtain⟨e1,_⟩:=hok b _ z;obtain⟨e2,_⟩:=bm b _ z2;rw [e]at e1;cases e1;exact e2
 cases hk:K.lookup a with
 | some o=>
  have e:=KX a o hk;rw [ha]at e;cases e;refine a4 (λ_=>none) (λ_=> .inl rfl) (.inr ⟨_,vs.toArray,_,hk,rfl,rfl,rfl,by rw [rZ,ax];exact hl,by simpa using rv⟩) (λb u z=>by have M:(none:Option HO)=some u:=z;cases M) (λb z=>absurd rfl z) λz=>absurd rfl z
 | none=>
  refine a4 (λb=>if b=a then some (.frz {cls:= .type "list",data:= .seq vs.toArray} (.lst (ns.map V.int)))else none) (λb=>?_) (.inl (.inr ⟨{cls:= .type "list",data:= .seq vs.toArray},if_pos rfl⟩)) (λb u z=>?_) (λb z=>?_) λ_=>hk
  ·by_cases J:b=a
   ·exact .inr ⟨_,_,if_pos J⟩
   ·exact .inl (if_neg J)
  ·by_cases J:b=a
   ·have M:=(if_pos J).symm.trans z
    cases M;subst J;exact⟨ha,by rw [sC];exact hl,vs,_,rv,ha⟩
   ·have M:=(if_neg J).symm.trans z
    cases M
  ·by_cases J:b=a
   ·exact J
   ·exact absurd (if_neg J) z
abbrev KOf{K:rH}{h:Heap}(_:K.In h):rH:=K
theorem bV{l:PySem.W.OpenLaw}{n k:Nat}{q:Program}{M:List Str}{O:(Str->Option Value)->Heap->Prop}{z:World->Heap->Prop}{d:DefRec}{K:Params->rH}{CX:World->CXT}{sp:World->Sp}{x:Str}
 (hn:l.most=some n) (a0:n<=sizeLine) (a1:d.params.defaults=[]) (hr:Room k callerA)
 (hY : ∀(w:World) (h:Heap),z w h->(K w.params).In h)
 (F : ∀(w:World) (mg:Str->Option Value) (fa:Addr) (h:Heap),(K w.params).In h->h.Ns mainGlobals mg->mg d.name=some (.ref fa)->
   ∃fd:FuncData,(∀(s:Shared) (u:Value),BindsTo s fd ⟨[u],[]⟩ [(x,u)])/\
    ∀base:Heap,(K w.params).In base->base.Ns mainGlobals mg->FnOk l.prog w (K w.params) mg base (CX w) k fa fd [x] (sp w))
 (a4 : ∀(w:World) (H:Hp) (a:Addr) (ns:List Int),ns.length<=n->mH H->SqL (K w.params) H a (ns.map V.int)->sp w [.ref a] H (λv _=>v = .bl true) λ_ _ _=>False)
 (a5 : ∀(w:World) (H:Hp) (s:Shared) (e:Value) (s':Shared),CX w [] H s (λ_ _ _=>False) e s'->False) :
 PySem.W.WalkO q M O z l.row.toRowW d [] (λf vs=>PySem.call f vs):=by
 refine Att.attach_call hn a1 λw s₀ s₁ mg mb fa o pm cd doc a vs ns G Y ho hd b0 a7 a8 a9 I hg=>?_;have J:=hY w _ Y;obtain⟨fd,hb,hF⟩:=F w mg fa _ J G.T.g a7;exact WZ J G.T.g G.T.b G.T.builtins G.T.nolimit hg a8 a9 (tP I a0) hr hF hb (λH hO hS=>a4 w H a ns I hO hS) λH e s'=>a5 w H s₁ e s'
theorem walk_ofK{l:PySem.W.OpenLaw}{n k:Nat}{q:Program}{I:List Str}{J:(Str->Option Value)->Heap->Prop}{z:World->Heap->Prop}{d:DefRec}{K:Params->rH}{CX:CXT}{sp:rH->Sp}{x:Str}
 (hn:l.most=some n) (M:n<=sizeLine) (O:d.params.defaults=[]) (Y:Room k callerA)
 (hY : ∀(w:World) (h:Heap),z w h->(K w.params).In h)
 (F : ∀(w:World) (mg:Str->Option Value) (fa:Addr) (h:Heap),(K w.params).In h->h.Ns mainGlobals mg->mg d.name=some (.ref fa)->
   ∃fd:FuncData,(∀(s:Shared) (u:Value),BindsTo s fd ⟨[u],[]⟩ [(x,u)])/\
    ∀base:Heap,(K w.params).In base->base.Ns mainGlobals mg->FnOk l.prog w (K w.params) mg base CX k fa fd [x] (sp (K w.params)))
 (a1 : ∀(K:rH) (H:Hp) (a:Addr) (ns:List Int),ns.length<=n->mH H->SqL K H a (ns.map V.int)->sp K [.ref a] H (λv _=>v = .bl true) λ_ _ _=>False)
 (a2 : ∀(H:Hp) (s:Shared) (e:Value) (s':Shared),CX [] H s (λ_ _ _=>False) e s'->False) :
 PySem.W.WalkO q I J z l.row.toRowW d [] (λf vs=>PySem.call f vs):=
 bV (K:=K) (CX:=λ_=>CX) (sp:=λw=>sp (K w.params)) hn M O Y hY F (λw H a ns h1 h2 h3=>a1 (K w.params) H a ns h1 h2 h3) λ_ H s e s'=>a2 H s e s'
def defArgs(s:Stmt):Arguments:=match s with
 | .FunctionDef _ a _ _ _ _ _ _ _ _=>a
 | _=>{posonlyargs:=[],args:=[],vararg:=none,kwonlyargs:=[],kw_defaults:=[],kwarg:=none,defaults:=[]}
def defBody(s:Stmt):List Stmt:=match s with
 | .FunctionDef _ _ b _ _ _ _ _ _ _=>b
 | _=>[]
def defScope(s:Stmt):Scope:=match s with
 | .FunctionDef _ _ _ _ _ _ sc _ _ _=>sc
 | _=>{kind:= .function,names:=[],isGenerator:=false,isCoroutine:=false}
abbrev CX0:CXT:=λ_ _ _ _ _ _=>False
abbrev E0:XK:=λ_ _ _=>False
theorem wj{X:Cx}:wX CX0 X E0:=λ_ _ _ _ _ _ _ h=>h.elim
structure Fun(K:rH)(x qual:Str)(st:Stmt)(f:Addr)(fd:FuncData):Prop where
 ex : ∃(oc:Value) (od:Option Addr) (kV doc pm:Value) (an:Option Addr) (cdv ct:Value) (osl:Array (Option Value)),
  fd=ue x qual (defArgs st) (defBody st) (defScope st) .none kV doc pm an cdv ct/\K.lookup f=some ⟨oc,od,.func fd,osl⟩/\uY K cdv qual=true
 kp:sQ K (.ref f)=true
section
variable{P:Program}{w:World}{K:rH}{mg:Str->Option Value}{base:Heap}
theorem Fun.ok{x qual:Str}{st:Stmt}{f:Addr}{fd:FuncData}{N ps:List Str}{k:Nat}{sp:Sp}(F:Fun K x qual st f fd)(S:FnScope N ps (defScope st))(len : ∀vs H Q E,sp vs H Q E->vs.length=ps.length)
 (z : ∀(cdv:Value) (A:Around) (outer:List Env) (s:Shared) (H:Hp) (vs:List V) (Q:VK) (E:XK),Room k (A.deeper (envOfC qual (defScope st) s.heap.objs.size f cdv))->sp vs H Q E->
   ∃t,PSs (eK CX0 P w K mg base N qual (defScope st) f cdv A outer s H E).nox (defBody st) t/\t {nx:=λ_ H'=>Q .non H',rt:=Q} (start N vs) H):FnOk P w K mg base CX0 (k+1) f fd ps sp:=by
 obtain⟨oc,od,kV,doc,pm,an,cdv,ct,osl,rfl,lk,I⟩:=F.ex;refine nV lk I S len λA outer s H vs Q E J M=>?_;obtain⟨t,h,q⟩:=z cdv A outer s H vs Q E J M;exact⟨t,h.nox,q⟩
theorem Fun.binds{x qual:Str}{st:Stmt}{f:Addr}{fd:FuncData}{ps:List Str}(F:Fun K x qual st f fd)
 (h : ∀(kV doc pm:Value) (an:Option Addr) (cdv ct:Value) (us:List Value),us.length=ps.length->bindArgs (ue x qual (defArgs st) (defBody st) (defScope st) .none kV doc pm an cdv ct) ⟨us,[]⟩=pure (ps.zip us)):Binds K fd ps []:=by
 obtain⟨oc,od,kV,doc,pm,an,cdv,ct,osl,rfl,lk,z⟩:=F.ex;exact .all (h kV doc pm an cdv ct)
theorem wR{x qual:Str}{st:Stmt}{f:Addr}{oc:Value}{od an:Option Addr}{osl:Array (Option Value)}{kV doc pm cdv ct:Value}(l:K.lookup f=some ⟨oc,od,.func (ue x qual (defArgs st) (defBody st) (defScope st) .none kV doc pm an cdv ct),osl⟩)
 (c:uY K cdv qual=true) (k:sQ K (.ref f)=true):Fun K x qual st f (ue x qual (defArgs st) (defBody st) (defScope st) .none kV doc pm an cdv ct):=⟨⟨oc,od,kV,doc,pm,an,cdv,ct,osl,rfl,l,c⟩,k⟩
end
def Same(H H':Hp):Prop:=∀b o,H b=some o->H' b=some o
theorem Same.refl(H:Hp):Same H H:=λ_ _ h=>h
theorem Same.trans{H H1 H2:Hp}(a:Same H H1)(b:Same H1 H2):Same H H2:=λc o h=>b c o (a c o h)
theorem Same.free{H H':Hp}(e:Same H H'){l:Addr}(h:H' l=Option.none):H l=Option.none:=by
 cases q:H l with
 | none=>rfl
 | some o=>
  rw [e l o q]at h;cases h
theorem Same.seq{K:rH}{H H':Hp}{a:Addr}{xs:List V}(e:Same H H')(h:SqL K H a xs):SqL K H' a xs:=by
 rcases h with(h | ⟨o,h⟩) | h
 ·exact .inl (.inl (e _ _ h))
 ·exact .inl (.inr ⟨o,e _ _ h⟩)
 ·exact .inr h
def ZT(cells:List (Str×Addr)):List (Str×NameKind)->List (Str×Addr)->List (Str×Addr)
 | [],acc=>acc
 | (n,k)::r,acc=>ZT cells r (if k==sO then (match cells.lookup n with | some c=>(n,c)::acc | none=>acc)else acc)
theorem xG{env:Env}(f:Str×NameKind->List (Str×Addr)->Sem (ForInStep (List (Str×Addr))))
 (I : ∀name kind cs,f (name,kind) cs=if kind==sO then (do let a <- cellOf env name;pure (.yield ((name,a)::cs)))else pure (.yield cs)) :
 ∀(names:List (Str×NameKind)) (acc:List (Str×Addr)),(∀n,(n,sO)∈names->∃c,env.cells.lookup n=some c)->
  forIn names acc f=(pure (ZT env.cells names acc):Sem _)
 | [],acc,_=>by rw [BZ];rfl
 | (n,k)::r,acc,h=>by
  rw [BM,I];have J : ∀n,(n,sO)∈r->∃c,env.cells.lookup n=some c:=λm hm=>h m (sd _ hm);unfold ZT;by_cases z:(k==sO)=true
  ·rw [if_pos z,if_pos z]
   have O:k=sO:=by simpa using z
   subst O;obtain⟨c,M⟩:=h n rX;have e:cellOf env n=pure c:=by unfold cellOf;rw [M]
   rw [e,M];exact xG f I r _ J
  ·rw [if_neg z,if_neg z]
   exact xG f I r acc J
theorem ZE{scope:Scope}{env:Env}(h : ∀n,(n,sO)∈scope.names->∃c,env.cells.lookup n=some c) :
 closureFor scope env=pure (ZT env.cells scope.names []):=by
 simp only [closureFor];rw [xG (env:=env) _ (λname kind cs=>by cases hk:kind==sO<;>simp [hk]) scope.names [] h];rfl
theorem qP{M:Model}{A:Around}{E:Value->Shared->Prop}{s:Shared}{scope:Scope}{globals:Addr}{cl:List (Str×Addr)}{qual:Str}{env:Env}{Q:Env->Shared->Prop}
 (z:Q {scope:=scope,locals:=s.heap.objs.size,globals:=globals,cells:=cellsFrom (s.heap.objs.size+1) scope.names cl,qual:=qual,func:=none,code:=env.code,frame:=env.frame,builtins:=env.builtins}
   {s with heap:=pushCells (s.heap.push {cls:= .type "dict",data:= .dict #[]}) scope.names}) :
 wpAny M A (newFunctionEnv scope globals cl [] qual none .none (some env)) Q E s:=by
 simp only [newFunctionEnv,Option.isSome_some,if_true];refine rK (wpAny_alloc ?_);refine rK (wpAny_layCells _ (λname kind cells=>by cases hkc:kind==Ad<;>simp [hkc]) _ _ _ _ ?_);rw [show({s with heap:=s.heap.push {cls:= .type "dict",data:= .dict #[]}}:Shared).heap.objs.size=s.heap.objs.size+1 from uq ..];exact rK (rS (rS z))
theorem Xq{cells:List (Str×Addr)}{n:Str}{c:Addr} : ∀{names:List (Str×NameKind)} {acc:List (Str×Addr)},(n,c)∈ZT cells names acc->(n,c)∈acc\/((n,sO)∈names/\cells.lookup n=some c)
 | [],acc,h=> .inl h
 | (m,k)::r,acc,h=>by
  unfold ZT at h;rcases Xq h with g | ⟨h1,h2⟩
  ·clear h
   by_cases z:(k==sO)=true
   ·rw [if_pos z]at g
    have I:k=sO:=by simpa using z
    subst I;cases e:cells.lookup m with
    | none=>rw [e]at g;exact .inl g
    | some c'=>
     rw [e]at g;rcases si.mp g with g | g
     ·cases g;exact .inr ⟨rX,e⟩
     ·exact .inl g
   ·rw [if_neg z]at g;exact .inl g
  ·exact .inr ⟨sd _ h1,h2⟩
theorem vC{cells:List (Str×Addr)}{n:Str} : ∀{names:List (Str×NameKind)} {acc:List (Str×Addr)},((acc.lookup n).isSome=true\/((n,sO)∈names/\(cells.lookup n).isSome=true))->((ZT cells names acc).lookup n).isSome=true
 | [],acc,h=>by
  rcases h with h | ⟨h,_⟩
  ·exact h
  ·cases h
 | (m,k)::r,acc,h=>by
  unfold ZT;apply vC;by_cases z:(k==sO)=true
  ·rw [if_pos z]
   have J:k=sO:=by simpa using z
   subst J;cases e:cells.lookup m with
   | none=>
    rcases h with h | ⟨h1,h2⟩
    ·exact .inl h
    ·rcases si.mp h1 with h1 | h1
     ·cases h1;rw [e]at h2;cases h2
     ·exact .inr ⟨h1,h2⟩
   | some c'=>
    dsimp only;by_cases I:n=m
    ·subst I;left;simp
    ·rcases h with h | ⟨h1,h2⟩
     ·left;rw [ua];split<;>simp_all
     ·rcases si.mp h1 with h1 | h1
      ·cases h1;exact absurd rfl I
      ·exact .inr ⟨h1,h2⟩
  ·rw [if_neg z]
   rcases h with h | ⟨h1,h2⟩
   ·exact .inl h
   ·rcases si.mp h1 with h1 | h1
    ·cases h1;exact absurd rfl z
    ·exact .inr ⟨h1,h2⟩
theorem qE{n:Str}{c:Addr} : ∀{names:List (Str×NameKind)} {k:Nat} {acc:List (Str×Addr)},(n,c)∈cellsFrom k names acc->(n,c)∈acc\/(k<=c/\(n,Ad)∈names)
 | [],_,_,h=> .inl h
 | (m,kd)::r,k,acc,h=>by
  unfold cellsFrom at h;split at h
  ·rename_i z
   have I:kd=Ad:=by simpa using z
   subst I;rcases qE h with h | ⟨h1,h2⟩
   ·rcases si.mp h with h | h
    ·cases h;exact .inr ⟨se _,rX⟩
    ·exact .inl h
   ·exact .inr ⟨by omega,sd _ h2⟩
  ·rcases qE h with h | ⟨h1,h2⟩
   ·exact .inl h
   ·exact .inr ⟨h1,sd _ h2⟩
theorem xj : ∀{names:List (Str×NameKind)} {k:Nat} {acc:List (Str×Addr)},(∀p∈acc,∀q∈acc,p.2=q.2->p.1=q.1)->(∀p∈acc,p.2<k)->
 ∀p∈cellsFrom k names acc,∀q∈cellsFrom k names acc,p.2=q.2->p.1=q.1
 | [],_,_,h,_=>h
 | (m,kd)::r,k,acc,h,hl=>by
  unfold cellsFrom;split
  ·refine xj (λp z q I e=>?_) (λp z=>?_)
   ·rcases si.mp z with rfl | z<;>rcases si.mp I with rfl | I
    ·rfl
    ·have J:k=q.2:=e
     exact absurd (J ▸ hl q I) (uz _)
    ·have J:p.2=k:=e
     exact absurd (J ▸ hl p z) (uz _)
    ·exact h p z q I e
   ·rcases si.mp z with rfl | z
    ·exact uC _
    ·exact tJ (hl p z)
  ·exact xj h hl
theorem vP : ∀{names:List (Str×NameKind)} {h:Heap} {acc:List (Str×Addr)} {n:Str} {c:Addr},(n,c)∈cellsFrom h.objs.size names acc->(n,c)∈acc\/(pushCells h names).IsCell c none
 | [],_,_,_,_,hm=> .inl hm
 | (m,kd)::r,h,acc,n,c,hm=>by
  unfold cellsFrom at hm;unfold pushCells;split at hm
  ·rename_i z
   rw [if_pos z];have e:h.objs.size+1=(h.push {cls:= .type "cell",data:= .cell none}).objs.size:=(uq ..).symm;rw [e]at hm;rcases vP hm with hm | hm
   ·rcases si.mp hm with hm | hm
    ·cases hm
     have I:(h.push {cls:= .type "cell",data:= .cell none}).IsCell h.objs.size none:=⟨{cls:= .type "cell",data:= .cell none},sh _ rfl,rfl⟩;exact .inr (I.keeps λb o q=>Bx _ _ b o q)
    ·exact .inl hm
   ·exact .inr hm
  ·rename_i z
   rw [if_neg z];exact vP hm
theorem xT{α:Type}{l:List (Str×α)}(nd:(l.map (·.1)).Nodup) : ∀{n:Str} {a:α},(n,a)∈l->l.lookup n=some a:=by
 induction l with
 | nil=>intro n a h;cases h
 | cons p r z=>
  intro n a h;obtain⟨m,b⟩:=p;rw [sJ,ux]at nd;rw [ua];rcases si.mp h with h | h
  ·cases h;simp
  ·have I:(n==m)=false:=by
    have:n≠m:=λe=>nd.1 (by rw [<- e];exact uS.mpr ⟨(n,a),h,rfl⟩);simpa using this
   rw [I];exact z nd.2 h
theorem kc(scope:Scope)(env:Env)(x:Str):(relabel scope env).names.lookup x =
 (scope.names.lookup x).map λk=>if (k==sO && env.scope.kind == .function && env.kindOf x==some .cell)then Ad else k:=by
 unfold relabel;dsimp only;generalize scope.names=l
 induction l with
 | nil=>rfl
 | cons p r I=>
  obtain⟨n,k⟩:=p;rw [sJ];cases hx:x==n with
  | true=>
   have e:x=n:=by simpa using hx
   subst e;rw [ua,ua];dsimp only;by_cases z:(k==sO && env.scope.kind == .function && env.kindOf x==some .cell)=true
   ·rw [if_pos z,beq_self_eq_true];dsimp only [Bs];rw [if_pos z]
   ·rw [if_neg z,beq_self_eq_true];dsimp only [Bs];rw [if_neg z]
  | false=>
   have : ∀J,AG x ((n,J)::(r.map λx=>match x with | (n,k)=>if (k==sO && env.scope.kind == .function && env.kindOf n==some .cell)=true then (n,Ad)else (n,k)))=AG x (r.map λx=>match x with | (n,k)=>if (k==sO && env.scope.kind == .function && env.kindOf n==some .cell)=true then (n,Ad)else (n,k)):=λJ=>by
    rw [ua,hx]
   rw [ua (k:=n),hx];dsimp only;split
   ·rw [this];exact I
   ·rw [this];exact I
def kO(scope:Scope)(env:Env)(L:Addr):Env:=
 {scope:=relabel scope env,locals:=L,globals:=env.globals,cells:=cellsFrom (L+1) scope.names (ZT env.cells scope.names []),qual:=env.qual,func:=none,code:=env.code,frame:=env.frame,builtins:=env.builtins}
def zV(X:Cx)(scope:Scope)(z:List Str)(fp:List Addr)(s2:Shared)(H2:Hp):Cx:=
 {X with N:=z,s₀:=s2,H₀:=H2,env:=kO scope X.env (s2.heap.objs.size+1),outer:=X.stack,stack:=X.stack,ex:=fp,fn:=λx=>scope.names.lookup x==some .cell,pn:=[],xe:=λ_ _=>False}
structure CompOk(X:Cx)(scope:Scope)(fr:List (Str×Nat)):Prop where
 kind:scope.kind = .function
 nd:(scope.names.map (·.1)).Nodup
 free : ∀p∈scope.names,p.2=sO->X.env.kindOf p.1=some .cell\/X.env.kindOf p.1=some .free
 fr : ∀p∈fr,scope.names.lookup p.1=some .free/\X.N[p.2]? = some p.1
def pull(own:List Str)(fr:List (Str×Nat))(σ:St):St:=own.map (λ_=>none)++fr.map λp=>(σ[p.2]?).join
abbrev Qs:Obj:={cls:= .type "list",data:= .seq #[]}
abbrev bB:Obj:={cls:= .type "dict",data:= .dict #[]}
theorem W4{X:Cx}{pins:List (Addr×Obj)}{σ:St}{H2:Hp}{s2:Shared}{scope:Scope}{own:List Str}{fr:List (Str×Nat)}{fp:List Addr}(I:Inv X pins σ H2 s2)(ok:CompOk X scope fr)
 (a3 : ∀b∈fp,FpOk X pins H2 b) (as : ∀b∈fp,∃o,s2.heap.get? b=some o) :
 Inv (zV X scope (own++fr.map (·.1)) fp s2 H2) [] (pull own fr σ) (upd H2 s2.heap.objs.size (.lst [])) {s2 with heap:=pushCells ((s2.heap.push Qs).push bB) scope.names}:=by
 have z1:(s2.heap.push Qs).objs.size=s2.heap.objs.size+1:=uq ..;have z2:((s2.heap.push Qs).push bB).objs.size=s2.heap.objs.size+2:=by rw [uq,z1]
 have O : ∀n c,(n,c)∈ZT X.env.cells scope.names []->(n,sO)∈scope.names/\X.env.cells.lookup n=some c:=λn c h=>(Xq h).resolve_left ⋯;have a9 : ∀n c,X.env.cells.lookup n=some c->c<s2.heap.objs.size:=λn c h=>by obtain⟨v,q⟩:=I.cell n c h;exact q.lt
 have ax : ∀p∈ZT X.env.cells scope.names [],p.2<s2.heap.objs.size+1+1:=λp M=>by
  exact tJ (tJ (a9 p.1 p.2 (O p.1 p.2 M).2))
 have hC:(kO scope X.env (s2.heap.objs.size+1)).cells=cellsFrom (s2.heap.objs.size+2) scope.names (ZT X.env.cells scope.names []):=rfl;have cells : ∀x c,(kO scope X.env (s2.heap.objs.size+1)).cells.lookup x=some c->((x,sO)∈scope.names/\X.env.cells.lookup x=some c)\/(s2.heap.objs.size+2<=c/\(x,Ad)∈scope.names):=λx c h=>by
  rcases qE (mem_of_lookup h)with h | h
  ·exact .inl (O x c h)
  ·exact .inr h
 have ac : ∀x,(x,sO)∈scope.names->∃c,X.env.cells.lookup x=some c/\(kO scope X.env (s2.heap.objs.size+1)).cells.lookup x=some c:=λx hx=>by
  obtain⟨c,Y⟩:=I.ok.has x (ok.free (x,.free) hx rfl);have h1:((ZT X.env.cells scope.names []).lookup x).isSome=true:=vC (.inr ⟨hx,by rw [Y];rfl⟩);have h2:=AL scope.names (s2.heap.objs.size+2) (ZT X.env.cells scope.names []) (.inr h1);obtain⟨c',am⟩:=Aa.mp h2;refine⟨c,Y,?_⟩;rcases cells x c' am with⟨_,q⟩ | ⟨_,q⟩
  ·rw [Y]at q;cases q;exact am
  ·exact absurd ((xT ok.nd q).symm.trans (xT ok.nd hx)) ⋯
 have keep : ∀b o,s2.heap.get? b=some o->(pushCells ((s2.heap.push Qs).push bB) scope.names).get? b=some o:=λb o e=>
  Bx _ _ b o (rM _ (rM _ e))
 have an : ∀b∈fp,b<s2.heap.objs.size:=λb J=>by obtain⟨o,e⟩:=as b J;exact sg e
 have fresh:H2 s2.heap.objs.size=none:=I.hok.fresh (se _);have ap : ∀c,s2.heap.objs.size<c->(upd H2 s2.heap.objs.size (.lst [])) c=none:=λc Y=>by
  rw [zz (Ai Y)];exact I.hok.fresh (BS Y)
 obtain⟨m0,b9⟩ : ∃m,(pushCells ((s2.heap.push Qs).push bB) scope.names).Ns (s2.heap.objs.size+1) m:=by
  have q:=(Heap.Ns.new (s2.heap.push Qs) (.type "dict")).keeps (λb o e=>Bx scope.names _ b o e);rw [z1]at q;exact⟨_,q⟩
 refine⟨⟨I.ok.mod,ok.kind,I.ok.glob,I.ok.blt,Nat.le_succ _,λx y c h1 h2=>?_,λx hx=>?_,λx c hf h=>?_,I.ok.hd,I.ok.frames,.inl rfl,λb J=>⟨?_,λx c h z=>?_⟩,λb o e=>I.bs b o e,?_,λb o e J=>?_,λb J hs=>?_,I.stack,I.stkFree⟩,
  rfl,I.bare,Un.laid keep (se _) fresh,⟨m0,b9,λi x v e1 e2 e3=>?_⟩,λx c h=>?_,?_,λx c h=>?_,λp M=>?_,?_,?_⟩
 ·have q:=xj (names:=scope.names) (k:=s2.heap.objs.size+2) (acc:=ZT X.env.cells scope.names []) (λp M q hq e=>I.ok.inj p.1 q.1 p.2 (O _ _ M).2 (by rw [e];exact(O _ _ hq).2)) ax
  exact q (x,c) (mem_of_lookup h1) (y,c) (mem_of_lookup h2) rfl
 ·have a1:(relabel scope X.env).names.lookup x=some .cell\/(relabel scope X.env).names.lookup x=some .free:=hx
  have:scope.names.lookup x=some .cell\/scope.names.lookup x=some .free:=by
   rw [kc]at a1;cases e:scope.names.lookup x with
   | none=>rw [e]at a1;simp at a1
   | some k=>
    rw [e]at a1;cases k<;>simp at a1 ⊢
  rcases this with h | h
  ·exact Aa.mp (AL scope.names _ _ (.inl h))
  ·obtain⟨c,_,h2⟩:=ac x (mem_of_lookup h);exact⟨c,h2⟩
 ·have bg:(scope.names.lookup x==some .cell)=true:=hf
  have bi:scope.names.lookup x=some .cell:=by simpa using bg
  rcases cells x c h with⟨q,_⟩ | ⟨q,_⟩
  ·exact absurd ((xT ok.nd q).symm.trans bi) ⋯
  ·exact tP (ug _ 2) q
 ·exact sF (tJ (an b J))
 ·rcases cells x c h with⟨_,q⟩ | ⟨q,_⟩
  ·exact(a3 b J).2.2.2.2.1 x c q z
  ·exact absurd (su (an b J) (tP (ug _ 2) (z ▸ q))) (uz _)
 ·exact tP I.ok.bsz I.sz
 ·rcases (a3 b J).2.2.2.1 with q | q
  ·exact I.ok.noex b o e q
  ·exact absurd (su (sg e) (tP I.ok.bsz q)) (uz _)
 ·rcases si.mp (I.stkSub b hs)with q | q
  ·exact(a3 b J).2.1 q
  ·exact(a3 b J).2.2.1 q
 ·have hi:i<(own++fr.map (·.1)).length:=(rP.mp e1).1
  by_cases a6:i<own.length
  ·unfold pull at e2
   rw [sY (by simpa using a6)]at e2;simp [sk,a6]at e2
  ·have hj : ∃p,fr[i - own.length]? = some p/\p.1=x/\(σ[p.2]?).join=some v:=by
    unfold pull at e2;have a2:(own++fr.map (·.1))[i]? = some x:=e1;rw [tw ⋯,sk]at a2;rw [tw (by simpa using a6),sk,sC]at e2;cases q:fr[i - own.length]? with
    | none=>rw [q]at a2;cases a2
    | some p=>
     rw [q]at a2 e2;exact⟨p,rfl,by simpa using a2,by simpa using e2⟩
   obtain⟨p,M,bm,a4⟩:=hj;obtain⟨g1,g2⟩:=ok.fr p (sy M);rw [bm]at g1 g2;have hσ:σ[p.2]? = some (some v):=by
    cases q:σ[p.2]? with
    | none=>rw [q]at a4;cases a4
    | some o=>rw [q]at a4;simpa using a4
   have ar:=ok.free (x,.free) (mem_of_lookup g1) rfl;obtain⟨m,hn,hl⟩:=I.loc;obtain⟨u,ru,lk⟩:=hl p.2 x v g2 hσ (by rcases ar with k | k;exact .inr (.inl k);exact .inr (.inr k));refine⟨u,ru,.inr ?_⟩;obtain⟨c,c0,c1⟩:=ac x (mem_of_lookup g1);have c2:s2.heap.IsCell c (some u):=by
    rcases lk with⟨k,_⟩ | ⟨_,c',e,z⟩
    ·rcases ar with k' | k'<;>rw [k]at k'<;>cases k'
    ·rw [c0]at e;cases e;exact z
   refine⟨?_,c,c1,c2.keeps keep⟩;show(relabel scope X.env).names.lookup x=some .cell\/(relabel scope X.env).names.lookup x=some .free;rw [kc,g1];dsimp only [Bs];split
   ·exact .inl rfl
   ·exact .inr rfl
 ·rcases qE (mem_of_lookup h)with q | q
  ·obtain⟨v,w'⟩:=I.cell x c (O x c q).2
   exact⟨v,w'.keeps keep⟩
  ·have q2:=mem_of_lookup h
   have q3:(x,c)∈cellsFrom ((s2.heap.push Qs).push bB).objs.size scope.names (ZT X.env.cells scope.names []):=by rw [z2];exact q2
   rcases vP q3 with q4 | q4
   ·obtain⟨v,w'⟩:=I.cell x c (O x c q4).2
    exact⟨v,w'.keeps keep⟩
   ·exact⟨none,q4⟩
 ·exact ap _ (uC _)
 ·rcases cells x c h with⟨_,q⟩ | ⟨q,_⟩
  ·rw [zz (sF (a9 x c q))];exact I.freeC x c q
  ·exact ap c (su (tJ (uC _)) q)
 ·exact absurd (show p∈([]:List (Addr×Obj))from M) ⋯
 ·refine I.hok.laid keep (se _) ⟨tZ _,[],0,.nil,?_⟩
  exact Bx _ _ _ _ (rM _ (sh _ rfl))
 ·show(pull own fr σ).length=(own++fr.map (·.1)).length
  simp [pull]
theorem xZ{prog:Program}{w:World}{A:Around}{R:Result->Shared->Prop}{s:Shared}{elt J iter:Expr}{ifs:List Expr}{scope:Scope}{pos:Pos}{it acc:Value}{env:Env}(I:Nat->Shared->Prop)
 (a3 : ∀n s,I n s->wpAny (model prog w) A (pyNext it) (λr z=>match r with
   | none=>R (.ok .next) z
   | some v=>wpAny (model prog w) A (letOwnedTupleGo J it v) (λ_ z=>wpAny (model prog w) A (assign J env v) (λ_ O=>
    wpAny (model prog w) A (forIn ifs true λc r=>if r=true then do let ok <- isTrue c env (eval c env);pure (BG ok)else pure (BG r)) (λok M=>
     if ok=true then wpAny (model prog w) A (eval elt env) (λx Y=>
      wpAny (model prog w) A (call (.builtin "list.append") [acc,x]) (λ_ s₅=>∃m,m<n/\I m s₅) (λ_ _=>False) Y) (λ_ _=>False) M
     else ∃m,m<n/\I m M) (λ_ _=>False) O) (λ_ _=>False) z) (λ_ _=>False) z) (λ_ _=>False) s)
 (n:Nat) (h:I n s) :
 codeAny (model prog w) A (.compLoop (.ListComp elt [⟨J,iter,ifs,0⟩] scope pos) 0 it acc env) R s:=by
 refine codeAny_loop rfl I (λn s hI=>?_) n h;show wpAny _ A ((compTurn (.ListComp elt [⟨J,iter,ifs,0⟩] scope pos) 0 it acc env).onRaise (λx=>do noteFrame x env;theTreesLotGoes x)) _ _ s;refine wpAny_noted ?_;rw [compTurn_list];refine rK (CF (rK (AS (a3 n s hI) (λr z h₁=>?_) λ_ _ h'=>h'.elim)));cases r with
 | none=>exact rS h₁
 | some v=>
  refine rK (AS h₁ (λ_ a9 a5=>?_) λ_ _ h'=>h'.elim);refine rK (AS a5 (λ_ O h₂=>rK (AS h₂ (λok M h₃=>?_) λ_ _ h'=>h'.elim)) λ_ _ h'=>h'.elim);cases ok with
  | false=>exact rS ⟨rfl,h₃⟩
  | true=>
   exact rK (rK (AS h₃ (λx Y h₄=>rK (AS h₄ (λ_ s₅ h₅=>rS (rS ⟨rfl,h₅⟩)) λ_ _ h'=>h'.elim)) λ_ _ h'=>h'.elim))
def fH(X:Cx)(ifs:List Expr)(t:TT):Prop:=
 ∀(pins:List (Addr×Obj)) (s:Shared) (σ:St) (H:Hp) (Q:Bool->Hp->Prop),Inv X pins σ H s->t σ H Q->
  wpAny (model X.prog X.w) X.A (forIn ifs true λc r=>if r=true then do let ok <- isTrue c X.env (eval c X.env);pure (BG ok)else pure (BG r)) (TP X pins σ Q) X.xe s
def mQ:TT:=λ_ H Q=>Q true H
theorem Zo{X:Cx}:fH X [] mQ:=λ_ _ _ H _ I h=>wpAny_tests_nil ⟨H,I,h⟩
theorem Xe{X:Cx}{c:Expr}{t:TT}(h:PT X c t):fH X [c] t:=λpins s σ H Q I z=>wpAny_tests_one (h pins s σ H Q I z)
def CW(J:It)(g:TG)(tt:TT)(te:TE)(D:Addr)(Q:VK)(W:Nat->Nat->List V->St->Hp->Prop):Prop:=
 ∀i m ys σ H,W i m ys σ H->H D=some (.lst ys)/\((J.stop i H/\Q (.ref D) H)\/(J.go i H/\ys.length<sizeLine/\∀x H',J.yld i H x H'->g x σ H' λz H2=>tt z H2 λb I=>
  if b=true then te z I λv M=>M D=some (.lst ys)/\∃m',m'<m/\W (i+1) m' (ys++[v]) z (upd M D (.lst (ys++[v])))else ∃m',m'<m/\W (i+1) m' ys z I))
def aC(X:Cx)(pins:List (Addr×Obj))(H:Hp)(L:Addr):Prop:=
 H L=none/\L≠X.env.locals/\X.s₀.heap.objs.size<=L/\(∀x c,X.env.cells.lookup x=some c->c≠L)/\∀p∈X.pn++pins,p.1≠L
theorem ak{X:Cx}{pins:List (Addr×Obj)}{σ:St}{H2:Hp}{s2:Shared}{scope:Scope}{own:List Str}{fr:List (Str×Nat)}{fp:List Addr}{it:Addr}{tn:Nat->Heap->Prop}{J:It}{elt tg iter:Expr}{ifs:List Expr}{pos:Pos}{g:TG}{tt:TT}{te:TE}{Q:VK}{E:Value->Shared->Prop}
 (hc:X.calm=true) (I:Inv X pins σ H2 s2) (ok:CompOk X scope fr) (T:Turn X.prog X.w X.K tg J fp it tn) (st:tn 0 s2.heap) (Y : ∀b∈fp,FpOk X pins H2 b)
 (hg:PG (zV X scope (own++fr.map (·.1)) fp s2 H2) tg g) (ht:fH (zV X scope (own++fr.map (·.1)) fp s2 H2) ifs tt) (he:PE (zV X scope (own++fr.map (·.1)) fp s2 H2) elt te)
 (hW : ∀D,H2 D=none->∃W:Nat->Nat->List V->St->Hp->Prop,(∃m,W 0 m [] (pull own fr σ) (upd H2 D (.lst [])))/\CW J g tt te D Q W) :
 wpAny (model X.prog X.w) X.A (newList []) (λacc s₃=>wpAny (model X.prog X.w) X.A (newFunctionEnv scope X.env.globals (ZT X.env.cells scope.names []) [] X.env.qual none .none (some X.env)) (λac s₄=>
  codeAny (model X.prog X.w) X.A (.compStart (.ListComp elt [⟨tg,iter,ifs,0⟩] scope pos) 0 (.ref it) acc {ac with scope:=relabel scope X.env})
   (λr s'=>(∃f,r = .ok f)/\∃D H',acc = .ref D/\Inv X pins σ H' s'/\Q (.ref D) H'/\(∃m,s'.heap.Ns ac.locals m)/\aC X pins H' ac.locals) s₄) E s₃) E s2:=by
 have bb : ∀b∈fp,∃o,s2.heap.get? b=some o:=λb M=>by obtain⟨o,e,_⟩:=T.obj 0 _ st b M;exact⟨o,e⟩
 have I0:=W4 (own:=own) I ok Y bb;obtain⟨W,⟨m0,w0⟩,cw⟩:=hW _ I.fresh;refine ui (qP ?_);have z1:(s2.heap.push Qs).objs.size=s2.heap.objs.size+1:=uq ..;show codeAny _ _ (.compStart _ 0 (.ref it) (.ref s2.heap.objs.size) {scope:=relabel scope X.env,locals:=(s2.heap.push Qs).objs.size,globals:=X.env.globals,cells:=cellsFrom ((s2.heap.push Qs).objs.size+1) scope.names (ZT X.env.cells scope.names []),qual:=X.env.qual,func:=none,code:=X.env.code,frame:=X.env.frame,builtins:=X.env.builtins})
  (λr s'=>(∃f,r = .ok f)/\∃D H',sN s2.heap.objs.size = .ref D/\Inv X pins σ H' s'/\Q (.ref D) H'/\(∃m,s'.heap.Ns (s2.heap.push Qs).objs.size m)/\aC X pins H' (s2.heap.push Qs).objs.size) {s2 with heap:=pushCells ((s2.heap.push Qs).push bB) scope.names}
 rw [z1];have bd:tn 0 (pushCells ((s2.heap.push Qs).push bB) scope.names):=T.keep 0 _ _ st λb _ o e=>Bx _ _ b o (rM _ (rM _ e));have cd : ∀b∈fp,b<s2.heap.objs.size:=λb M=>by obtain⟨o,e⟩:=bb b M;exact sg e
 have am : ∀{H':Hp},(∀b∈fp,H' b=none)->∀b∈fp,FpOk (zV X scope (own++fr.map (·.1)) fp s2 H2) [] H' b:=λhn b M=>
  ⟨hn b M,(I0.ok.exf b M).1,I0.ok.exfs b M,.inl M,(I0.ok.exf b M).2,λp hp=>absurd (show p∈([]:List (Addr×Obj))from hp) ⋯⟩
 have be:codeAny (model X.prog X.w) X.A (.compLoop (.ListComp elt [⟨tg,iter,ifs,0⟩] scope pos) 0 (.ref it) (.ref s2.heap.objs.size) (kO scope X.env (s2.heap.objs.size+1)))
  (λr s'=>(∃f,r = .ok f)/\∃D H',sN s2.heap.objs.size = .ref D/\Inv X pins σ H' s'/\Q (.ref D) H'/\(∃m,s'.heap.Ns (s2.heap.objs.size+1) m)/\aC X pins H' (s2.heap.objs.size+1)) {s2 with heap:=pushCells ((s2.heap.push Qs).push bB) scope.names}:=by
  refine xZ (λn s'=>∃i ys σ' H',Inv (zV X scope (own++fr.map (·.1)) fp s2 H2) [] σ' H' s'/\tn i s'.heap/\(∀b∈fp,H' b=none)/\W i n ys σ' H') ?_ m0
   ⟨0,[],_,_,I0,bd,λb M=>by rw [zz (sF (cd b M))];exact(Y b M).1,w0⟩
  rintro n s3 ⟨i,ys,σ3,H3,I3,st3,bl,w3⟩;obtain⟨hD,ce⟩:=cw i n ys σ3 H3 w3;rcases ce with⟨stop,qn⟩ | ⟨go,hz,step⟩
  ·refine thn (T.done (zV X scope (own++fr.map (·.1)) fp s2 H2) rfl rfl rfl hc i [] s3 σ3 H3 _ I3 (am bl) st3 stop) λr s4 O=>?_
   obtain⟨hr,I4⟩:=O;subst hr;refine⟨⟨_,rfl⟩,_,H3,rfl,I.call' (ch:=fp) I4.os I4.base I4.hok I4.bare (λb M=>⟨(Y b M).2.2.2.1,(Y b M).2.1,(Y b M).2.2.2.2.1,(Y b M).2.2.2.2.2⟩),qn,?_,I4.free,?_,?_,?_,?_⟩
   ·obtain⟨m,hn,_⟩:=I4.loc
    exact⟨m,hn⟩
   ·exact Ai (tJ I.lt)
   ·exact Cu I.sz
   ·intro x c e z
    obtain⟨v,q⟩:=I.cell x c e;exact absurd (tJ q.lt) (by rw [z];exact uz _)
   ·intro p hp z
    exact absurd (tJ (sg (I.pin p hp).1)) (by rw [z];exact uz _)
  ·refine thn (T.item (zV X scope (own++fr.map (·.1)) fp s2 H2) rfl rfl rfl hc i [] s3 σ3 H3 _ I3 (am bl) st3 go) λr s4 O=>?_
   obtain⟨u,hr,h4⟩:=O;subst hr;refine thn h4 λ_ s5 O=>?_;obtain⟨x,H5,I5,r5,y5,ar,co⟩:=O;have cq:=I5.pinned (am co) (T.obj _ _ ar);refine thn (hg _ s5 σ3 H5 x u _ cq r5 (step x H5 y5)) λ_ s6 O=>?_;obtain⟨σ6,H6,I6,q6⟩:=O;refine thn (ht _ s6 σ6 H6 _ I6 q6) λb s7 O=>?_;obtain⟨H7,I7,q7⟩:=O;have after : ∀{σ8:St} {H8:Hp} {s8:Shared},Inv (zV X scope (own++fr.map (·.1)) fp s2 H2) ([]++Jt fp s5.heap) σ8 H8 s8->tn (i+1) s8.heap/\∀b∈fp,H8 b=none:=λ{σ8 H8 s8} I8=>by
    refine⟨T.keep _ _ _ ar λb M o e=>(I8.pin (b,o) (ub _ (ub _ (xS M e)))).1,λb M=>?_⟩;obtain⟨o,e,d⟩:=T.obj _ _ ar b M;exact(I8.pin (b,o) (ub _ (ub _ (xS M e)))).2.1
   cases b with
   | false=>
    rw [if_neg tj]at q7 ⊢;obtain⟨m',hm,w7⟩:=q7;exact⟨m',hm,i+1,ys,σ6,H7,I7.unpinned,(after I7).1,(after I7).2,w7⟩
   | true=>
    rw [if_pos rfl]at q7 ⊢;refine thn (he _ s7 σ6 H7 _ I7 q7) λv8 s8 O=>?_;obtain⟨x8,H8,I8,r8,c0,m',hm,w8⟩:=O;obtain⟨z8,c1,n8,rv,di,e8⟩:=I8.lstM c0;refine BJ F.slot_list_append ⟨_,e8,rfl⟩ F.entry_list_append (F.args_list_append_2 _ _) (PySem.list_append _ c1.toArray n8 v8 (by rw [rZ];omega)) ⟨e8,?_⟩;have I9:=I8.lset (its':=c1++[v8]) (f:=(·.push v8)) (t':=s8.toks) c0 e8 ⋯ (rv.append (.cons r8 .nil)) (by rw [tM,Av];omega);exact⟨m',hm,i+1,ys++[x8],σ6,_,I9.unpinned,(after I9).1,(after I9).2,w8⟩
 exact codeAny_compStart_list be (T.self _ 0 _ _ _ bd be)
def K5(wi:TI)(own:List Str)(fr:List (Str×Nat))(g:TG)(tt:TT)(te:TE):TE:=λσ H Q=>wi σ H λJ H1=>∀D,H1 D=none->
 ∃W:Nat->Nat->List V->St->Hp->Prop,(∃m,W 0 m [] (pull own fr σ) (upd H1 D (.lst [])))/\CW J g tt te D Q W
section
variable{X:Cx}{scope:Scope}{own:List Str}{fr:List (Str×Nat)}{elt tg iter:Expr}{ifs:List Expr}{pos:Pos}{wi:TI}{g:TG}{tt:TT}{te:TE}
theorem XH{use:Option (Value->Sem Unit)}{R:Value->Shared->Prop}{pins:List (Addr×Obj)}{s:Shared}{σ:St}{H:Hp}{Q:VK}
 (z:X.calm=true) (ok:CompOk X scope fr) (hi:PI X tg iter wi) (M : ∀fp s2 H2,PG (zV X scope (own++fr.map (·.1)) fp s2 H2) tg g)
 (O : ∀fp s2 H2,fH (zV X scope (own++fr.map (·.1)) fp s2 H2) ifs tt) (he : ∀fp s2 H2,PE (zV X scope (own++fr.map (·.1)) fp s2 H2) elt te)
 (I:Inv X pins σ H s) (h:K5 wi own fr g tt te σ H Q)
 (hR : ∀D H' s' L,Inv X pins σ H' s'->Q (.ref D) H'->(∃m,s'.heap.Ns L m)->aC X pins H' L->
   compPost (model X.prog X.w) X.A X.xe use R (.ref D) L (.ok .next) s')
 (Y : ∀x,foldedSetIterable iter X.env x=pure x:=by intro _;rfl) :
 wpAny (model X.prog X.w) X.A (comprehension (.ListComp elt [⟨tg,iter,ifs,0⟩] scope pos) scope X.env (firstIterPos [⟨tg,iter,ifs,0⟩] pos) (newList []) false (eval iter X.env) use) R X.xe s:=by
 refine wpAny_comprehension_free rfl Y (ZE λn hn=>I.ok.has n (ok.free (n,.free) hn rfl)) ok.kind (λx hx e=>by rw [<- e];exact xT ok.nd (show(x.1,x.2)∈scope.names from hx)) ?_;refine thn (hi pins s σ H _ I h) λv s1 h1=>thn h1 λap s2 h2=>?_;obtain⟨it,fp,tn,J,H2,e,I2,T,a2,f2,hW⟩:=h2;subst e;refine thn (ak (own:=own) (Q:=Q) (E:=X.xe) z I2 ok T a2 f2 (M fp s2 H2) (O fp s2 H2) (he fp s2 H2) hW) λacc s3 h3=>thn h3 λa6 s4 h4=>Cd h4 λr s' h5=>?_;obtain⟨⟨f,hr⟩,D,H',ea,I',q,hn,y⟩:=h5;subst hr;subst ea;have q2:=hR D H' s' a6.locals I' q hn y;cases use<;>exact q2
theorem Zq(z:X.calm=true)(ok:CompOk X scope fr)(hi:PI X tg iter wi)(J : ∀fp s2 H2,PG (zV X scope (own++fr.map (·.1)) fp s2 H2) tg g)
 (M : ∀fp s2 H2,fH (zV X scope (own++fr.map (·.1)) fp s2 H2) ifs tt) (he : ∀fp s2 H2,PE (zV X scope (own++fr.map (·.1)) fp s2 H2) elt te)
 (O : ∀x,foldedSetIterable iter X.env x=pure x:=by intro _;rfl) :
 PE X (.ListComp elt [⟨tg,iter,ifs,0⟩] scope pos) (K5 wi own fr g tt te):=by
 intro pins s σ H Q I h;rw [eval_ListComp];refine XH (use:=none) z ok hi J M he I h (λD H' s' L Y q hn y=>?_) O;obtain⟨m,hm⟩:=hn;obtain⟨y1,y2,y3,y4,y5⟩:=y;refine⟨m,hm,λh' sb=>⟨.ref D,H',Y.turned (t':=s'.toks) (it:=L) (λb o hb e=>sb.extBut b o hb e) y1 y2 (.inr y3) y4 y5,rfl,q⟩⟩
theorem wI{y:Str}{z M:Pos}{i:Nat}(O:X.N.Nodup)(Y:X.N[i]? = some y)(hy:Loc X.env.scope y)(hf:X.fn y=true\/X.env.scope.names.lookup y=some .local)
 (hc:X.calm=true) (ok:CompOk X scope fr) (hi:PI X tg iter wi) (hg : ∀fp s2 H2,PG (zV X scope (own++fr.map (·.1)) fp s2 H2) tg g)
 (ht : ∀fp s2 H2,fH (zV X scope (own++fr.map (·.1)) fp s2 H2) ifs tt) (he : ∀fp s2 H2,PE (zV X scope (own++fr.map (·.1)) fp s2 H2) elt te)
 (hs : ∀x,foldedSetIterable iter X.env x=pure x:=by intro _;rfl) :
 PS X (.Assign [.Name y z] (.ListComp elt [⟨tg,iter,ifs,0⟩] scope pos) M) (ZS (K5 wi own fr g tt te) (xt i)):=by
 have J : ∃b:Bool,swapsWith (.ListComp elt [⟨tg,iter,ifs,0⟩] scope pos) (some (.Name y z)) M.line X.env=pure b:=⟨_,rfl⟩;obtain⟨b,J⟩:=J;cases b with
 | false=>
  have e1:swapsWithSole [.Name y z] (.ListComp elt [⟨tg,iter,ifs,0⟩] scope pos) M.line X.env=swapsWith (.ListComp elt [⟨tg,iter,ifs,0⟩] scope pos) (some (.Name y z)) M.line X.env:=rfl;exact wJ (Zq hc ok hi hg ht he hs) (YG O Y hy hf) (by rw [e1];exact J)
 | true=>
  intro pins s σ H D I h;rw [exec_Assign_Name_used _ _ _ _ J];refine rK (CF (rK ?_));show wpAny _ X.A (do let _ <- comprehension (.ListComp elt [⟨tg,iter,ifs,0⟩] scope pos) scope X.env _ (newList []) false (eval iter X.env) (some (assign (.Name y z) X.env))) _ _ s;refine rK (thn (XH (R:=λ_ s'=>SP X pins D .next s') (use:=some (assign (.Name y z) X.env)) hc ok hi hg ht he I h (λDa H' s' L I' q hn yg=>?_) hs) λ_ s' q=>rS (rS q));obtain⟨y1,y2,y3,y4,y5⟩:=yg;obtain⟨m,hm⟩:=hn;show wpAny _ _ (assign (.Name y z) X.env (.ref Da)) _ _ _;refine wpAny_assign_Name (Z1 I' O Y hy (v:= .ref Da) rfl (λa9 ac am=>?_) hf);obtain⟨a,sb,ha⟩:=am;have ap:L≠a:=by
   rcases ha with e | e
   ·rw [e];exact y2
   ·exact uu (y4 _ _ e)
  refine⟨m,hm.sameBut sb ap,λh' ar=>⟨_,_,ac.turned (t':=a9.toks) (it:=L) (λb o J e=>ar.extBut b o J e) y1 y2 (.inr y3) y4 y5,q⟩⟩
end
inductive Sk where
 | L | T
 deriving DecidableEq
end L2
namespace DL
open PySem L2
inductive D where
 | non | bl (b:Bool) | int (i:Int) | str (x:Str) | tup (xs:List D) | lst (xs:List D)
 | exc (c:Str) (n:Option Int)
 | dic (ks vs:List D)
 | dct (ks:List (List Int)) (vs:List D)
 | ins (c:Str) (p t:D)
inductive Cell where
 | no | val (d:D) | own (ds:List D) | nest (rows:List (List D))
abbrev Ctx:=List Cell
abbrev CO (a : Type) := Ctx -> Option a
def lim:Nat:=2500
def jE:D->Option (Sk×List D)
 | .tup ds=>some (.T,ds)
 | .lst ds=>some (.L,ds)
 | _=>none
def zC(f:CO D):CO (Sk×List D):=λγ=>(f γ).bind jE
def ja(f:CO (List D)):CO D:=λγ=>(f γ).map D.lst
def jb(f:CO (List D)):CO (Sk×List D):=λγ=>(f γ).map λds=>(Sk.L,ds)
def QC:Option Cell->Option D
 | some (.val d)=>some d
 | _=>none
def ku:Option Cell->Option (Sk×List D)
 | some (.val d)=>jE d
 | some (.own ds)=>some (.L,ds)
 | _=>none
def zd(i:Nat):CO D:=λγ=>QC γ[i]?
def zf(i:Nat):CO (Sk×List D):=λγ=>ku γ[i]?
def zk(d:D):CO D:=λ_=>some d
def zh(F:D->D->Option D)(fa fb:CO D):CO D:=λγ=>(fa γ).bind λx=>(fb γ).bind λy=>F x y
def asB:D->Option Bool
 | .bl b=>some b
 | _=>none
def asI:D->Option Int
 | .int i=>some i
 | _=>none
def sB(f:CO D):CO Bool:=λγ=>(f γ).bind asB
def vi(f g:CO Bool):CO Bool:=λγ=>(f γ).bind λb=>if b=true then g γ else some false
def Jc(f g:CO Bool):CO Bool:=λγ=>(f γ).bind λb=>if b=true then some true else g γ
def qd(f:CO Bool):CO Bool:=λγ=>(f γ).map λb=> !b
def cM(f g:CO D):CO D:=λγ=>((f γ).bind asB).bind λb=>if b=true then g γ else some (.bl false)
def cH(f:CO D):CO D:=λγ=>((f γ).bind asB).map λb=> .bl (!b)
def cK(c:CO Bool)(f g:CO D):CO D:=λγ=>(c γ).bind λb=>if b=true then f γ else g γ
def zy:CO (List D):=λ_=>some []
def za(f:CO D)(g:CO (List D)):CO (List D):=λγ=>(f γ).bind λx=>(g γ).map λr=>x::r
def yK(f:CO (List D)):CO D:=λγ=>(f γ).bind λds=>if ds.length<=lim then some (.tup ds)else none
def jI(f:CO (List D)):CO (List D):=λγ=>(f γ).bind λds=>if ds.length<=lim then some ds else none
inductive Res where
 | val (d:D) | own (ds:List D)
inductive Fl where
 | next (γ:Ctx) | brk (γ:Ctx) | cont (γ:Ctx) | ret (r:Res)
def jS:CO Fl:=λγ=>some (.next γ)
def zM(F G:CO Fl):CO Fl:=λγ=>(F γ).bind λz=>match z with
 | .next γ'=>G γ'
 | f=>some f
def qB(f:CO D):CO Fl:=λγ=>(f γ).map λd=> .ret (.val d)
def xc(f:CO (List D)):CO Fl:=λγ=>(f γ).map λd=> .ret (.own d)
def ZF:Option Cell->Option Fl
 | some (.val d)=>some (.ret (.val d))
 | some (.own ds)=>some (.ret (.own ds))
 | _=>none
def qZ(i:Nat):CO Fl:=λγ=>ZF γ[i]?
def Wg:CO Fl:=λγ=>some (.cont γ)
def Jd:CO Fl:=λ_=>none
def sIf(k:CO Bool)(F G:CO Fl):CO Fl:=λγ=>(k γ).bind λb=>if b=true then F γ else G γ
def zW(i:Nat)(f:CO D):CO Fl:=λγ=>(f γ).map λd=> .next (γ.set i (.val d))
def qQ(i:Nat)(f:CO (List D)):CO Fl:=λγ=>(f γ).map λds=> .next (γ.set i (.own ds))
def xn:Option Cell->Option (List D)
 | some (.own ds)=>some ds
 | _=>none
def qH(i:Nat)(f:CO D):CO Fl:=λγ=>(xn γ[i]?).bind λds=>(f γ).bind λd=>if ds.length<lim then some (.next (γ.set i (.own (ds++[d]))))else none
def jP(n:Nat)(ds:List D):Ctx:=ds.map Cell.val++rY (n - ds.length) Cell.no
def jv(n:Nat)(F:CO Fl)(ds:List D):Option Res:=(F (jP n ds)).bind λz=>match z with
 | .ret r=>some r
 | .next _=>some (.val .non)
 | _=>none
def gw:Res->D
 | .val d=>d
 | .own ds=> .lst ds
def zx(F:List D->Option Res)(g:CO (List D)):CO D:=λγ=>(g γ).bind λds=>(F ds).map gw
def fB:Res->Option (List D)
 | .own ds=>some ds
 | _=>none
def zP(F:List D->Option Res)(g:CO (List D)):CO (List D):=λγ=>(g γ).bind λds=>(F ds).bind fB
def qf(lo:Int)(n:Nat):List D:=(rO n).map λ(i:Nat)=>D.int (lo+(i:Int))
def XX(ds es:List D):List D:=(ds.zip es).map λp=>D.tup [p.1,p.2]
def zA(f:CO (Sk×List D)):CO (List D):=λγ=>(f γ).map (·.2)
def inR(i:Int):Bool:=decide (i.natAbs<2 ^ 62)
def zJ(f:CO D):CO (List D):=λγ=>((f γ).bind asI).bind λn=>if inR n=true then some (qf 0 n.toNat)else none
def qk(f g:CO D):CO (List D):=λγ=>((f γ).bind asI).bind λm=>((g γ).bind asI).bind λn=>if inR m=true/\inR n=true then some (qf m (n - m).toNat)else none
def Z8(f g:CO D):CO (List D):=λγ=>((f γ).bind jE).bind λm=>((g γ).bind jE).map λn=>XX m.2 n.2
inductive Tg where
 | nm (i:Nat) | tp (is:List Nat)
def jX:List Nat->List D->Ctx->Ctx
 | i::is,d::ds,γ=>jX is ds (γ.set i (.val d))
 | _,_,γ=>γ
def jx:Tg->D->CO Ctx
 | .nm i,d,γ=>some (γ.set i (.val d))
 | .tp is,.tup ds,γ=>if ds.length=is.length then some (jX is ds γ)else none
 | _,_,_=>none
def qo(T:Tg)(F:CO Fl):List D->CO Fl
 | [],γ=>some (.next γ)
 | d::ds,γ=>(jx T d γ).bind λγ1=>(F γ1).bind λI=>match I with
  | .next z=>qo T F ds z
  | .cont z=>qo T F ds z
  | .brk z=>some (.next z)
  | .ret r=>some (.ret r)
def xY(src:CO (List D))(T:Tg)(F:CO Fl):CO Fl:=λγ=>(src γ).bind λds=>qo T F ds γ
def j9:Cell->Cell
 | .own _=> .no
 | .nest _=> .no
 | c=>c
def jn(n:Nat)(fr:List Nat)(γ:Ctx):Ctx:=rY n Cell.no++fr.map λj=>j9 (γ[j]?.getD .no)
def zN(T:Tg)(k:CO Bool)(f:CO D)(γ:Ctx):List D->Option (List D)
 | []=>some []
 | d::ds=>(jx T d γ).bind λγ1=>(k γ1).bind λb=>if b=true then (f γ1).bind λe=>(zN T k f γ ds).map λr=>e::r else zN T k f γ ds
def zB(src:CO (List D))(T:Tg)(n:Nat)(fr:List Nat)(k:CO Bool)(f:CO D):CO (List D):=λγ=>(src γ).bind λds=>if ds.length<=lim then zN T k f (jn n fr γ) ds else none
def z7:CO Bool:=λ_=>some true
def Tg.idx:Tg->List Nat
 | .nm i=>[i]
 | .tp is=>is
def dI(g:Int->Int->D):D->D->Option D
 | .int i,.int j=>some (g i j)
 | _,_=>none
def dIc(c:Int->Int->Bool)(g:Int->Int->D):D->D->Option D
 | .int i,.int j=>if c i j=true then some (g i j)else none
 | _,_=>none
def xw:D->D->Option D:=dI λi j=> .int (i - j)
def yw(i j:Int):Bool:=decide (i.natAbs<2 ^ 64) || decide (j.natAbs<2 ^ 64)
def au(_ j:Int):Bool:=decide (0<j) && decide (j.natAbs<1073741824)
def ko:D->D->Option D:=dIc au λi j=> .int (i/j)
def VN(_ j:Int):Bool:=decide (0<j)
def jA:D->D->Option D:=dIc VN λi j=> .int (i%j)
def ly(i j:Int):Bool:=decide (0<=j) && decide (j.natAbs<=1000000) && decide (i.natAbs<2 ^ 64)
def eH:D->D->Option D:=dIc ly λi j=> .int (i ^ j.toNat)
def dLt:D->D->Option D:=dI λi j=> .bl (decide (i<j))
def dLe:D->D->Option D:=dI λi j=> .bl (decide (i<=j))
def dGt:D->D->Option D:=dI λi j=> .bl (decide (j<i))
def dGe:D->D->Option D:=dI λi j=> .bl (decide (j<=i))
def j4:D->D->Option D
 | .int i,.int j=>some (.int (i+j))
 | .tup xs,.tup ys=>if xs.length+ys.length<=lim then some (.tup (xs++ys))else none
 | _,_=>none
def qg:D->D->Option D
 | .int i,.int j=>if yw i j=true then some (.int (i*j))else none
 | .tup xs,.int j=>if xs.length*j.toNat<=lim/\inR j=true then some (.tup (rY j.toNat xs).flatten)else none
 | _,_=>none
def Qc(f g:CO (Sk×List D)):CO (List D):=λγ=>(f γ).bind λa=>(g γ).bind λb=>
 match a.1,b.1 with
 | .L,.L=>if a.2.length+b.2.length<=lim then some (a.2++b.2)else none
 | _,_=>none
def ixD(n:Nat)(i:Int):Option Nat:=if 0<=i/\i<n then some i.toNat else if i<0/\0<=i+n then some (i+n).toNat else none
def sIx(f:CO (Sk×List D))(g:CO D):CO D:=λγ=>(f γ).bind λa=>((g γ).bind asI).bind λi=>(ixD a.2.length i).bind λk=>a.2[k]?
def KG(n dflt:Nat):Option Int->Nat
 | none=>dflt
 | some i=>if i<0 then (i+n).toNat else min i.toNat n
def VM(xs:List D)(lo hi:Option Int):List D:=(xs.drop (KG xs.length 0 lo)).take (KG xs.length xs.length hi - KG xs.length 0 lo)
def fz:CO (Option Int):=λ_=>some none
def sBd(f:CO D):CO (Option Int):=λγ=>((f γ).bind asI).map some
def fy(f:CO D)(l h:CO (Option Int)):CO D:=λγ=>(f γ).bind λd=>(l γ).bind λlo=>(h γ).bind λhi=>match d with
 | .tup xs=>some (.tup (VM xs lo hi))
 | _=>none
def wg(f:CO (Sk×List D)):CO D:=λγ=>(f γ).map λa=> .int a.2.length
inductive Ty where
 | int | bool | str | tuple | list
 deriving DecidableEq
@[simp] def iO:D->Bool
 | .int _=>true
 | .bl _=>true
 | _=>false
@[simp] def nM:D->Bool
 | .bl _=>true
 | _=>false
@[simp] def iM:D->Bool
 | .str _=>true
 | _=>false
@[simp] def iK:D->Bool
 | .tup _=>true
 | _=>false
@[simp] def iN:D->Bool
 | .lst _=>true
 | _=>false
def Y0:Ty->D->Bool
 | .int=>iO
 | .bool=>nM
 | .str=>iM
 | .tuple=>iK
 | .list=>iN
def sIs(T:Ty)(f:CO D):CO D:=λγ=>(f γ).map λd=> .bl (Y0 T d)
@[simp] def eqN:D->Bool
 | .non=>true
 | _=>false
@[simp] def eqB(a:Bool):D->Bool
 | .bl b=>a==b
 | .int b=>(if a then 1 else 0)==b
 | _=>false
@[simp] def eqI(a:Int):D->Bool
 | .bl b=>a==(if b then 1 else 0)
 | .int b=>a==b
 | _=>false
@[simp] def eqS(a:Str):D->Bool
 | .str b=>a==b
 | _=>false
@[simp] def eqX(a:Str)(i:Option Int):D->Bool
 | .exc b j=>a==b && i==j
 | _=>false
mutual
def eqD:D->D->Bool
 | .non,y=>eqN y
 | .bl a,y=>eqB a y
 | .int a,y=>eqI a y
 | .str a,y=>eqS a y
 | .tup xs,y=>match y with
  | .tup ys=>eqDs xs ys
  | _=>false
 | .lst xs,y=>match y with
  | .lst ys=>eqDs xs ys
  | _=>false
 | .exc a i,y=>eqX a i y
 | .dic a b,y=>match y with
  | .dic c d=>eqDs a c && eqDs b d
  | _=>false
 | .dct a b,y=>match y with
  | .dct c d=>a==c && eqDs b d
  | _=>false
 | .ins a b c,y=>match y with
  | .ins z I c'=>a==z && (eqD b I && eqD c c')
  | _=>false
def eqDs:List D->List D->Bool
 | [],[]=>true
 | x::xs,y::ys=>eqD x y && eqDs xs ys
 | _,_=>false
end
mutual
def deep:D->Nat
 | .tup xs=>deeps xs+1
 | .lst xs=>deeps xs+1
 | _=>0
def deeps:List D->Nat
 | []=>0
 | x::xs=>max (deep x) (deeps xs)
end
mutual
def okS:D->Bool
 | .str x=>x.cps.all (· < 0x110000)
 | .exc _ _=>false
 | .dic _ _=>false
 | .dct _ _=>false
 | .ins _ _ _=>false
 | .tup xs=>okSs xs
 | .lst xs=>okSs xs
 | _=>true
def okSs:List D->Bool
 | []=>true
 | x::xs=>okS x && okSs xs
end
def okD(d:D):Bool:=decide (deep d<=20) && okS d
def dEq(x y:D):Option D:=if okD x=true/\okD y=true then some (.bl (eqD x y))else none
def dNe(x y:D):Option D:=if okD x=true/\okD y=true then some (.bl (!eqD x y))else none
def zI(f:CO (Sk×List D)):CO D:=λγ=>(f γ).map λa=> .tup a.2
def ql(f:CO (Sk×List D)):CO (List D):=λγ=>(f γ).map λa=>a.2
def VJ:List D->Option Int
 | []=>some 0
 | .int i::r=>(VJ r).map λs=>i+s
 | _::_=>none
def cG(f:CO (Sk×List D)):CO D:=λγ=>(f γ).bind λa=>(VJ a.2).map D.int
def lS:D->Option Bool
 | .non=>some false
 | .bl b=>some b
 | .int i=>some (i != 0)
 | _=>none
def y7:List D->Option (List Bool)
 | []=>some []
 | d::r=>(lS d).bind λb=>(y7 r).map λs=>b::s
def Wi(f:CO (Sk×List D)):CO D:=λγ=>(f γ).bind λa=>(y7 a.2).map λs=> .bl (s.all id)
def lT(f:CO (Sk×List D)):CO D:=λγ=>(f γ).bind λa=>(y7 a.2).map λs=> .bl (s.any id)
def Wf(f:CO D):CO D:=λγ=>(f γ).bind λd=>match d with
 | .int i=>some (.int i)
 | .bl b=>some (.int (if b then 1 else 0))
 | _=>none
def Wd(f:CO (Sk×List D)):CO Bool:=λγ=>(f γ).map λa=> !a.2.isEmpty
def fA(f:CO D):CO D:=λγ=>((f γ).bind asI).map λi=> .int (-i)
def ym(F G:D->D->Option D)(fa fb fc:CO D):CO D:=λγ=>(fa γ).bind λx=>(fb γ).bind λy=>((F x y).bind asB).bind λb=>if b=true then (fc γ).bind λz=>G y z else some (.bl false)
def Jb(T:Tg)(f:CO D):CO Fl:=λγ=>(f γ).bind λd=>(jx T d γ).map .next
end DL
namespace L2
open PySem PySem.Spec PyProof.Rows
def ItAt(k:Sk)(h:Heap)(i l:Addr)(n:Nat):Prop:=match k with
 | .L=>h.IsListIter i l n
 | .T=>h.IsTupleIter i l n
def SqAt(k:Sk)(h:Heap)(l:Addr)(xs:Array Value):Prop:=match k with
 | .L=>h.IsList l xs
 | .T=>h.IsTuple l xs
def itO(k:Sk)(l:Addr):Obj:=match k with
 | .L=>{cls:= .type "list_iterator",data:= .fields #[.ref l,.int 0 0]}
 | .T=>{cls:= .type "tuple_iterator",data:= .fields #[.ref l,.int 0 0]}
theorem ItAt.at{k:Sk}{h h':Heap}{i l:Addr}{n:Nat}(x:ItAt k h i l n)(e : ∀o,h.get? i=some o->h'.get? i=some o):ItAt k h' i l n:=by
 cases k<;>exact let ⟨o,z,r⟩:=x;⟨o,e _ z,r⟩
theorem SqAt.at{k:Sk}{h h':Heap}{l:Addr}{xs:Array Value}(x:SqAt k h l xs)(e : ∀o,h.get? l=some o->h'.get? l=some o):SqAt k h' l xs:=by
 cases k<;>exact let ⟨o,z,r⟩:=x;⟨o,e _ z,r⟩
theorem ItAt.obj{k:Sk}{h:Heap}{i l:Addr}{n:Nat}(x:ItAt k h i l n) : ∃o,h.get? i=some o/\∀v,o.data ≠ .cell v:=by
 cases k<;>exact let ⟨o,I,_,d⟩:=x;⟨o,I,λv z=>by rw [d]at z;cases z⟩
theorem SqAt.lt{k:Sk}{h:Heap}{l:Addr}{xs:Array Value}(x:SqAt k h l xs):l<h.objs.size:=by
 cases k<;>exact let ⟨o,z,_⟩:=x;sg z
theorem JC(k:Sk)(h:Heap)(l:Addr):ItAt k (h.push (itO k l)) h.objs.size l 0:=by
 cases k<;>exact⟨_,sh _ rfl,rfl,rfl⟩
section
variable{prog:Program}{w:World}{A:Around}{E:Value->Shared->Prop}{s:Shared}
theorem JB{k:Sk}{l:Addr}{xs:Array Value}{Q:Value->Shared->Prop}(z:SqAt k s.heap l xs)(I:Q (.ref s.heap.objs.size) {s with heap:=s.heap.push (itO k l)}):wpAny (model prog w) A (pyIter (.ref l)) Q E s:=by
 cases k
 ·exact wpAny_pyIter_list z I
 ·exact wpAny_pyIter_tuple z I
theorem vy{k:Sk}{it l:Addr}{i:Nat}{I:Array Value}{x:Value}{Q:Value->Shared->Prop}(M:ItAt k s.heap it l i)(O:SqAt k s.heap l I)(Y:I[i]? = some x)
 (hQ : ∀h',ItAt k h' it l (i+1)->Ah it s.heap h'->Q x {s with heap:=h'}):wpAny (model prog w) A (tF (.ref it)) Q E s:=by
 cases k with
 | L=>exact wpAny_nextOf_list_item M O Y hQ
 | T=>
  have J:s.heap.IsTupleIter it l i:=M;obtain⟨o,z,hc,hd⟩:=id J;obtain⟨ol,a2,_,nl,a3⟩:=(show s.heap.IsTuple l I from O);unfold tF;refine rK (uv (name:=uB "__next__") J.typeIs Bw (uA Bw J.typeIs entry_tupleiter_next ?_ (args_tupleiter_next _)));refine rK (m:=field (.ref it) 0) (uO z hd (x:= .ref l) rfl ?_);show wpAny _ _ (if (sN l==tH)=true then _ else _) _ _ s;rw [if_neg (show ¬((sN l==tH)=true)from tj)];refine rK (m:=field (.ref it) 1) (uO z hd (x:= .int i 0) rfl ?_);refine rK (m:=seqItems? (.ref l)) (As a2 a3 ?_);simp only [tm,Y];refine rK (Cq z hd ⋯ (rS ⟨x,rfl,rS (hQ _ ?_ (AY ..))⟩));show Heap.IsTupleIter _ it l (i+1);exact⟨_,BN _ z (Obj.isFreed_of_fields (Bt hd _)),(Obj.cls_mapFields ..).trans hc,by rw [Bt hd];simp [rawInt]⟩
theorem Xp{k:Sk}{it l:Addr}{i:Nat}{z:Array Value}{Q:Value->Shared->Prop}(I:A.handled=none)(O:ItAt k s.heap it l i)(Y:SqAt k s.heap l z)(hx:z[i]? = none)
 (hE : ∀h' e,Heap.ExtBut it s.heap h'->(∃o,h'.get? e=some o/\o.cls = .type "StopIteration")->E (.ref e) {s with heap:=h'}):wpAny (model prog w) A (tF (.ref it)) Q E s:=by
 cases k with
 | L=>exact wpAny_nextOf_list_end I O Y hx hE
 | T=>
  have J:s.heap.IsTupleIter it l i:=O;obtain⟨o,M,hc,hd⟩:=id J;obtain⟨ol,a2,_,nl,a3⟩:=(show s.heap.IsTuple l z from Y);unfold tF;refine rK (uv (name:=uB "__next__") J.typeIs Bw (uA Bw J.typeIs entry_tupleiter_next ?_ (args_tupleiter_next _)));refine rK (m:=field (.ref it) 0) (uO M hd (x:= .ref l) rfl ?_);show wpAny _ _ (if (sN l==tH)=true then _ else _) _ _ s;rw [if_neg (show ¬((sN l==tH)=true)from tj)];refine rK (m:=field (.ref it) 1) (uO M hd (x:= .int i 0) rfl ?_);refine rK (m:=seqItems? (.ref l)) (As a2 a3 ?_);simp only [tm,hx];refine rK (CJ (rK (Cq M hd ⋯ ?_)));refine rK (m:=newExc (.type "StopIteration") []) ?_;simp only [newExc,newTuple];refine rK (ui ?_ (by size_fits));refine rK (m:=firstArgMember _ _) (wpAny_of_eq (a:=tH) (by first | rfl | (simp only [firstArgMember];rfl)) ?_);refine ui ?_ (by size_fits);simp only [raiseNew];refine rK (wpAny_handled ?_)
  first | rw [show A.in1.handled=none from I] | rw [I]
  exact rK (rS (wpAny_throw (hE _ _ (((AY ..).extBut.push _).push _) ⟨_,sh _ rfl,rfl⟩)))
theorem KP{k1 k2:Sk}{z TI TO J M l1 l2:Addr}{n1 n2:Nat}{xs ys:Array Value}{x y a b:Value}{Q:Value->Shared->Prop}(D:ZipApart z TI TO J M l1 l2)
 (hz:IsZip s.heap z TI TO .none) (bn:IsPair s.heap TI (.ref J) (.ref M)) (bv:IsPair s.heap TO a b)
 (h1:ItAt k1 s.heap J l1 n1) (h2:ItAt k2 s.heap M l2 n2) (bx:SqAt k1 s.heap l1 xs) (c0:SqAt k2 s.heap l2 ys) (hx:xs[n1]? = some x) (hy:ys[n2]? = some y)
 (hQ : ∀h',IsZip h' z TI TO (rawInt s.heap.objs.size)->IsPair h' TO x y->ItAt k1 h' J l1 (n1+1)->ItAt k2 h' M l2 (n2+1)->IsPair h' s.heap.objs.size x y->h'.objs.size=s.heap.objs.size+1->
   (∀c o,c≠z->c≠TO->c≠J->c≠M->s.heap.get? c=some o->h'.get? c=some o)->Q (.ref s.heap.objs.size) {s with heap:=h'}) :
 wpAny (model prog w) A (Builtin.«zip.__next__» ⟨[.ref z],[]⟩) (λca s'=>∃v,ca = .done (.ret v)/\Q v s') E s:=by
 refine rK (m:=field (.ref z) 2) (uO hz rfl (x:= .bool false) rfl ?_);refine rK (m:=field (.ref z) 3) (uO hz rfl (x:= .ref TI) rfl ?_);refine rK (As bn rfl ?_);refine rK (m:=uM (.ref z)) ?_;unfold uM;refine rK (uO hz rfl (x:= .none) rfl (rS ?_));simp only [if_true];refine rK (CJ (rK (uO hz rfl (x:= .ref TO) rfl ?_)));refine rK (AZ hz ⋯ λg1 ar O=>?_);replace ar:IsZip g1 z TI TO .ellipsis:=ar;refine rK ?_;simp only [List.zipIdx_cons,List.zipIdx_nil,BM,BZ];refine rK (rK (CG ?_));refine rK (m:=tF (.ref J)) (vy (h1.at λo e=>O.extBut _ _ D.i1z e) (bx.at λo e=>O.extBut _ _ D.l1z e) hx λg2 cd a0=>rS ?_);have bd:IsPair g2 TO a b:=a0.extBut _ _ D.TOi1 (O.extBut _ _ D.TOz bv);refine rK (As bd rfl (rK (Co bd λg3 as a1=>?_)));replace as:IsPair g3 TO x b:=as;refine rK (wpAny_letGo (rS (rK (rK (CG ?_)))));refine rK (m:=tF (.ref M)) (vy (h2.at λo e=>a1.extBut _ _ D.TOi2.symm (a0.extBut _ _ D.i12.symm (O.extBut _ _ D.i2z e))) (c0.at λo e=>a1.extBut _ _ D.l2TO (a0.extBut _ _ D.l2i1 (O.extBut _ _ D.l2z e))) hy λg4 ch a5=>rS ?_);have be:IsPair g4 TO x b:=a5.extBut _ _ D.TOi2 as;refine rK (As be rfl (rK (Co be λI ac a6=>?_)));replace ac:IsPair I TO x y:=ac;refine rK (wpAny_letGo (rS (rS (rK (As ac rfl (rK (wpAny_newTuple ?_)))))));have hsz:I.objs.size=s.heap.objs.size:=by rw [a6.1,a5.1,a1.1,a0.1,O.1]
 have bg:IsZip I z TI TO .ellipsis:=a6.extBut _ _ D.TOz.symm (a5.extBut _ _ D.i2z.symm (a1.extBut _ _ D.TOz.symm (a0.extBut _ _ D.i1z.symm ar)));have ci : ∀c o,c≠z->c≠TO->c≠J->c≠M->s.heap.get? c=some o->I.get? c=some o:=λc o Y c2 c3 c4 e=>a6.extBut _ _ c2 (a5.extBut _ _ c4 (a1.extBut _ _ c2 (a0.extBut _ _ c3 (O.extBut _ _ Y e))));have cl:ItAt k1 I J l1 (n1+1):=cd.at λo e=>a6.extBut _ _ D.TOi1.symm (a5.extBut _ _ D.i12 (a1.extBut _ _ D.TOi1.symm e));have cm:ItAt k2 I M l2 (n2+1):=ch.at λo e=>a6.extBut _ _ D.TOi2.symm e;have bi:z<I.objs.size:=sg bg;refine rK (m:=Bl (.ref z) (.ref I.objs.size)) ?_;unfold Bl;have co:IsZip (I.push {cls:= .type "tuple",data:= .seq #[x,y]}) z TI TO .ellipsis:=rM _ bg;refine rK (AZ co ⋯ λg7 b0 b9=>?_);replace b0:IsZip g7 z TI TO (rawInt I.objs.size):=b0;refine AZ b0 ⋯ λg8 an bb=>?_;replace an:IsZip g8 z TI TO (rawInt I.objs.size):=an;have up : ∀c o,c≠z->I.get? c=some o->g8.get? c=some o:=λc o Y e=>bb.extBut _ _ Y (b9.extBut _ _ Y (rM _ e));have bl:IsPair g8 I.objs.size x y:=bb.extBut _ _ (Ai bi) (b9.extBut _ _ (Ai bi) (sh _ rfl));have bm:g8.objs.size=I.objs.size+1:=by rw [bb.1,b9.1,uq]
 rw [hsz]at an bl bm;refine rS ⟨_,rfl,?_⟩;show Q (.ref I.objs.size) _;rw [hsz];exact hQ g8 an (up _ _ D.TOz ac) (cl.at λo e=>up _ o D.i1z e) (cm.at λo e=>up _ o D.i2z e) bl bm λc o Y c2 c3 c4 e=>up c o Y (ci c o Y c2 c3 c4 e)
theorem VR{k1 k2:Sk}{z TI TO M i2 l1 l2:Addr}{n1 n2:Nat}{xs ys:Array Value}{a b:Value}{Q:Fin->Shared->Prop}(hh:A.handled=none)(D:ZipApart z TI TO M i2 l1 l2)
 (hz:IsZip s.heap z TI TO .none) (bb:IsPair s.heap TI (.ref M) (.ref i2)) (bd:IsPair s.heap TO a b)
 (h1:ItAt k1 s.heap M l1 n1) (h2:ItAt k2 s.heap i2 l2 n2) (ap:SqAt k1 s.heap l1 xs) (be:SqAt k2 s.heap l2 ys) (bg:xs[n1]? = none\/ys[n2]? = none)
 (hE : ∀h' e,(∀c o,c≠z->c≠TO->c≠M->c≠i2->s.heap.get? c=some o->h'.get? c=some o)->(∃o,h'.get? e=some o/\o.cls = .type "StopIteration")->E (.ref e) {s with heap:=h'}) :
 wpAny (model prog w) A (Builtin.«zip.__next__» ⟨[.ref z],[]⟩) Q E s:=by
 refine rK (m:=field (.ref z) 2) (uO hz rfl (x:= .bool false) rfl ?_);refine rK (m:=field (.ref z) 3) (uO hz rfl (x:= .ref TI) rfl ?_);refine rK (As bb rfl ?_);refine rK (m:=uM (.ref z)) ?_;unfold uM;refine rK (uO hz rfl (x:= .none) rfl (rS ?_));simp only [if_true];refine rK (CJ (rK (uO hz rfl (x:= .ref TO) rfl ?_)));refine rK (AZ hz ⋯ λg1 a6 I=>?_);replace a6:IsZip g1 z TI TO .ellipsis:=a6;refine rK ?_;simp only [List.zipIdx_cons,List.zipIdx_nil,BM,BZ];refine rK (rK (CG ?_));have ar : ∀{g e:_} {oe:Obj},IsZip g z TI TO .ellipsis->(∀c o,c≠z->c≠TO->c≠M->c≠i2->s.heap.get? c=some o->g.get? c=some o)->g.get? e=some oe->oe.cls = .type "StopIteration"->
  wpAny (model prog w) A (setField (.ref z) 0 .none) (λ_ s'=>E (.ref e) s') E {s with heap:=g}:=λ{g e oe} as hk O a2=>by
  have bn:e≠z:=λq=>by subst q;rw [as]at O;cases O;simp at a2
  exact AZ as ⋯ λg3 _ Y=>hE g3 e (λc o c1 c2 c3 c4 q=>Y.extBut _ _ c1 (hk c o c1 c2 c3 c4 q)) ⟨oe,Y.extBut _ _ bn O,a2⟩
 cases hx:xs[n1]? with
 | none=>
  refine rK (m:=tF (.ref M)) (Xp hh (h1.at λo e=>I.extBut _ _ D.i1z e) (ap.at λo e=>I.extBut _ _ D.l1z e) hx λg2 e J he=>?_);obtain⟨oe,O,a2⟩:=he;exact ar (J _ _ D.i1z.symm a6) (λc o c1 _ c3 _ q=>J _ _ c3 (I.extBut _ _ c1 q)) O a2
 | some x=>
  have hy:ys[n2]? = none:=by rcases bg with h | h;rw [hx]at h;cases h;exact h
  refine rK (m:=tF (.ref M)) (vy (h1.at λo e=>I.extBut _ _ D.i1z e) (ap.at λo e=>I.extBut _ _ D.l1z e) hx λg2 bx J=>rS ?_);have b0:IsPair g2 TO a b:=J.extBut _ _ D.TOi1 (I.extBut _ _ D.TOz bd);refine rK (As b0 rfl (rK (Co b0 λg3 c0 Y=>?_)));refine rK (wpAny_letGo (rS (rK (rK (CG ?_)))));refine rK (m:=tF (.ref i2)) (Xp hh (h2.at λo e=>Y.extBut _ _ D.TOi2.symm (J.extBut _ _ D.i12.symm (I.extBut _ _ D.i2z e))) (be.at λo e=>Y.extBut _ _ D.l2TO (J.extBut _ _ D.l2i1 (I.extBut _ _ D.l2z e))) hy λg4 e b9 he=>?_);obtain⟨oe,O,a2⟩:=he;exact ar (b9 _ _ D.i2z.symm (Y.extBut _ _ D.TOz.symm (J.extBut _ _ D.i1z.symm a6))) (λc o c1 c2 c3 c4 q=>b9 _ _ c4 (Y.extBut _ _ c2 (J.extBut _ _ c3 (I.extBut _ _ c1 q)))) O a2
end
def k9(a b:Value):Obj:={cls:= .type "tuple",data:= .seq #[a,b]}
def mI(TI TO:Addr):Obj:={cls:= .type "zip",data:= .fields #[.none,.bool false,.bool false,.ref TI,.ref TO]}
def wa(z I:Sk)(h:Heap)(J M:Addr):Heap:=
 uk (uk (uk (uk (uk h (itO z J)) (itO I M)) (k9 (.ref h.objs.size) (.ref (h.objs.size+1)))) (k9 .none .none)) (mI (h.objs.size+2) (h.objs.size+3))
theorem VQ(I M:Sk)(z J:Addr)(xs ys:Array Value) :
 Meets (Builtin.«zip.__new__» ⟨[.type "zip",.ref z,.ref J],[]⟩) (λ_ R s=>SqAt I s.heap z xs/\SqAt M s.heap J ys/\
  R (.ok (.ret (.ref (s.heap.objs.size+4)))) {s with heap:=wa I M s.heap z J}):=
 .of_wp λprog w A R s h=>by
  obtain⟨O,g,d,tk,os⟩:=s;obtain⟨Y,a0,h⟩:=h;have a3:=sub_zip;have a1:SqAt I (Shared.heap ⟨O,g,d,tk,os⟩) z xs:=Y;have a2:SqAt M (Shared.heap ⟨O.push (itO I z),g,d,tk,os⟩) J ys:=a0.at λo e=>rM _ e
  wp_walk using JB a1,JB a2
  refine⟨_,rfl,?_⟩;simp only [wa,k9,mI,uq]at h ⊢;exact h
section
variable{X:Cx}{pins:List (Addr×Obj)}{σ:St}{H:Hp}{s:Shared}{h':Heap}
theorem Inv.turnLaid{t':Nat}{fp:List Addr}{a:Addr}{o:HO}(I:Inv X pins σ H s)(k : ∀b u,b∉fp->s.heap.get? b=some u->h'.get? b=some u)(O : ∀b∈fp,FpOk X pins H b)
 (hp:s.heap.objs.size<=a) (new:ObjOk X.prog X.w (upd H a o) h' a o):Inv X pins σ (upd H a o) {s with heap:=h',toks:=t'}:=by
 have ha:H a=none:=I.hok.fresh hp;have a1 : ∀b u,H b=some u->b∉fp:=λb u e z=>by rw [(O b z).1]at e;cases e
 have a2 : ∀b u,s.heap.get? b=some u->b≠a:=λb u e=>sF (su (sg e) hp);refine I.step (g':=s.gens) (d':=s.drawn) (ch:=fp) (λb J=>⟨(O b J).2.2.2.1,(O b J).2.1,(O b J).2.2.2.2.1,(O b J).2.2.2.2.2⟩) (λb u _ _ M e _=>k b u M e) (λb u _ _ M e _=>⟨u.slots,k b u M e⟩)
  (λb u _ e n=>by rw [zz (a2 b u e)];exact n) (λb u M e=>⟨u,k b u M e⟩) (λb xs e=>by rw [zz (jz e ha)];exact e) (λb Y xs e=>by rw [zz (jz e ha)];exact e)
  (λb ps e=>⟨#[],by rw [zz (jz e ha),e];simp⟩) (λm hm=>?_) (λb u e=>?_) I.bare
 ·obtain⟨Y,es,ep,ho,r⟩:=hm
  refine⟨Y,es,ep,k _ Y (λz=>(O _ z).2.1 rfl) ho,r⟩
 ·by_cases J:b=a
  ·subst J;rw [zw]at e;cases e;exact new
  ·rw [zz J]at e
   refine(I.hok b u e).stay (λc v M q=>k c v ?_ q) (λc q=>by rw [zz (jz q ha)];exact q) λc xs q=>by rw [zz (jz q ha)];exact q
   rcases M with z | z
   ·rw [z];exact a1 b u e
   ·exact a1 c _ z
theorem Inv.turnedL{t':Nat}{fp:List Addr}(I:Inv X pins σ H s)(k : ∀b u,b∉fp->s.heap.get? b=some u->h'.get? b=some u)(M : ∀b∈fp,FpOk X pins H b):Inv X pins σ H {s with heap:=h',toks:=t'}:=by
 have a0 : ∀b u,H b=some u->b∉fp:=λb u e z=>by rw [(M b z).1]at e;cases e
 refine I.step (g':=s.gens) (d':=s.drawn) (ch:=fp) (λb O=>⟨(M b O).2.2.2.1,(M b O).2.1,(M b O).2.2.2.2.1,(M b O).2.2.2.2.2⟩) (λb u _ _ J e _=>k b u J e) (λb u _ _ J e _=>⟨u.slots,k b u J e⟩)
  (λb u _ e n=>n) (λb u J e=>⟨u,k b u J e⟩) (λb xs e=>e) (λb Y xs e=>e)
  (λb ps e=>⟨#[],by rw [e];simp⟩) (λm hm=>?_) (λb u e=>?_) I.bare
 ·obtain⟨Y,es,ep,ho,r⟩:=hm
  refine⟨Y,es,ep,k _ Y (λz=>(M _ z).2.1 rfl) ho,r⟩
 ·refine(I.hok b u e).stay (λc v J q=>k c v ?_ q) (λc q=>q) λc xs q=>q
  rcases J with z | z
  ·rw [z];exact a0 b u e
  ·exact a0 c _ z
end
def SqK(k:Sk)(K:rH)(H:Hp)(a:Addr)(xs:List V):Prop:=match k with
 | .L=>SqL K H a xs
 | .T=>SqT K H a xs
theorem Inv.sq{X:Cx}{pins:List (Addr×Obj)}{σ:St}{H:Hp}{s:Shared}{k:Sk}{a:Addr}{xs:List V}(I:Inv X pins σ H s)(h:SqK k X.K H a xs) :
 ∃J:List Value,Vals xs J/\SqAt k s.heap a J.toArray/\xs.length<=sizeLine:=by
 cases k with
 | L=>obtain⟨J,r,p,z⟩:=I.list h;exact⟨J,r,p.isList,z⟩
 | T=>obtain⟨J,r,p,z⟩:=I.tuple h;exact⟨J,r,p,z⟩
theorem Inv.sq_inj{X:Cx}{pins:List (Addr×Obj)}{σ:St}{H:Hp}{s:Shared}{k:Sk}{a:Addr}{xs ys:List V}(I:Inv X pins σ H s)(h:SqK k X.K H a xs)(h':SqK k X.K H a ys):xs=ys:=by
 cases k with
 | L=>exact I.list_inj h h'
 | T=>exact I.tuple_inj h h'
def Itz(z I:Sk)(K:rH)(a b:Addr):It:=
 ⟨λi H=>∃xs ys,SqK z K H a xs/\SqK I K H b ys/\i<xs.length/\i<ys.length,
  λi H x H'=>∃p u v,x = .ref p/\H p=none/\H'=upd H p (.tup [u,v])/\(∀xs,SqK z K H a xs->xs[i]? = some u)/\(∀ys,SqK I K H b ys->ys[i]? = some v),
  λi H=>∃xs ys,SqK z K H a xs/\SqK I K H b ys/\(xs.length<=i\/ys.length<=i)⟩
theorem V2{P:Program}{w:World}{K:rH}{elts:List Expr}{x1:Nat}{tpos:Pos}(k1 k2:Sk){z TI TO i1 i2 a b:Addr}(D:ZipApart z TI TO i1 i2 a b) :
 Turn P w K (.Tuple elts x1 tpos) (Itz k1 k2 K a b) [z,TI,TO,i1,i2] z (λi h=>IsZip h z TI TO .none/\IsPair h TI (.ref i1) (.ref i2)/\(∃c d,IsPair h TO c d)/\ItAt k1 h i1 a i/\ItAt k2 h i2 b i) where
 mem:=by simp
 obj:=λi h ⟨M,Y,⟨c,d,a9⟩,h1,h2⟩ y hy=>by
  simp only [si,tq,or_false]at hy;rcases hy with rfl | rfl | rfl | rfl | rfl
  ·exact⟨_,M,λv q=>by cases q⟩
  ·exact⟨_,Y,λv q=>by cases q⟩
  ·exact⟨_,a9,λv q=>by cases q⟩
  ·exact h1.obj
  ·exact h2.obj
 keep:=λi h h' ⟨M,Y,⟨c,d,a9⟩,h1,h2⟩ k=>
  ⟨k z ⋯ _ M,k TI ⋯ _ Y,⟨c,d,k TO ⋯ _ a9⟩,h1.at λo e=>k i1 ⋯ o e,h2.at λo e=>k i2 ⋯ o e⟩
 item:=by
  rintro X hP hw hK hc i pins s σ H E I hf ⟨M,Y,⟨c,d,a9⟩,h1,h2⟩ ⟨xs,ys,ar,as,bv,bx⟩;subst hP hw hK;obtain⟨c0,b9,p1,z1⟩:=I.sq ar;obtain⟨c1,bd,p2,z2⟩:=I.sq as;have hx:xs[i]? = some xs[i]:=rN bv;have hy:ys[i]? = some ys[i]:=rN bx;obtain⟨u1,c2,c3⟩:=b9.get hx;obtain⟨u2,c4,c5⟩:=bd.get hy;have hT:s.TypeIs (.ref z) "zip":=⟨_,M,rfl⟩;unfold pyNext;refine rK (Bo (uv (name:=uB "__next__") hT Ca (uA Ca hT F.entry_zip_next
   (KP D M Y a9 h1 h2 p1 p2 (x:=u1) (y:=u2) (by simpa using c2) (by simpa using c4) λg a1 a2 a3 a4 a5 a6 a7=>rS ⟨_,rfl,?_⟩) (F.args_zip_next_1 _))))
  refine wpAny_letOwnedTupleGo_zip a1 λg2 ce ac=>?_;have lt : ∀{c o},s.heap.get? c=some o->s.heap.objs.size≠c:=λe=>Ai (sg e);have cf:IsPair g2 s.heap.objs.size u1 u2:=ac.extBut _ _ (lt M) a5;have kk : ∀O u,O ∉ [z,TI,TO,i1,i2]->s.heap.get? O=some u->g2.get? O=some u:=λO u J e=>by
   simp only [si,tq,or_false,not_or]at J;exact ac.extBut _ _ J.1 (a7 O u J.1 J.2.2.1 J.2.2.2.1 J.2.2.2.2 e)
  have I1:Inv X pins σ (upd H s.heap.objs.size (.tup [xs[i],ys[i]])) {s with heap:=g2,toks:=s.toks}:=
   I.turnLaid (fp:=[z,TI,TO,i1,i2]) kk hf (se _) ⟨by show 2<=sizeLine;decide,[u1,u2],.cons c3 (.cons c5 .nil),⟨_,cf,rfl,_,rfl⟩⟩
  have cl:H s.heap.objs.size=none:=I.fresh;refine⟨.ref s.heap.objs.size,_,I1,rfl,⟨_,_,_,rfl,cl,rfl,λct be=>by rw [I.sq_inj be ar];exact hx,λcv be=>by rw [I.sq_inj be as];exact hy⟩,?_,λO J=>?_⟩
  ·exact⟨ce,ac.extBut _ _ D.TIz (a7 _ _ D.TIz D.TITO D.TIi1 D.TIi2 Y),⟨_,_,ac.extBut _ _ D.TOz a2⟩,a3.at λo e=>ac.extBut _ _ D.i1z e,a4.at λo e=>ac.extBut _ _ D.i2z e⟩
  ·have cm:O≠s.heap.objs.size:=by
    simp only [si,tq,or_false]at J;rcases J with rfl | rfl | rfl | rfl | rfl
    ·exact(lt M).symm
    ·exact(lt Y).symm
    ·exact(lt a9).symm
    ·obtain⟨o,e,_⟩:=h1.obj;exact(lt e).symm
    ·obtain⟨o,e,_⟩:=h2.obj;exact(lt e).symm
   rw [zz cm];exact(hf O J).1
 done:=by
  rintro X hP hw hK hc i pins s σ H E I hf ⟨M,Y,⟨c,d,a9⟩,h1,h2⟩ ⟨xs,ys,ar,as,hi⟩;subst hP hw hK;obtain⟨c0,b9,p1,z1⟩:=I.sq ar;obtain⟨c1,bd,p2,z2⟩:=I.sq as;have hT:s.TypeIs (.ref z) "zip":=⟨_,M,rfl⟩;have l1:=b9.length;have l2:=bd.length;unfold pyNext;refine rK (Bo (uv (name:=uB "__next__") hT Ca (uA Ca hT F.entry_zip_next
   (VR (show X.A.handled=none from I.ok.hd hc) D M Y a9 h1 h2 p1 p2 (by rcases hi with q | q;left;simp;omega;right;simp;omega) λg e hk he=>?_) (F.args_zip_next_1 _))))
  obtain⟨o,ho,cr⟩:=he;refine rK (wpAny_isInstance (T:="StopIteration") (b:=true) ⟨o,ho,cr⟩ isSubtype_stop (rS ⟨rfl,?_⟩));refine I.turnedL (t':=s.toks) (fp:=[z,TI,TO,i1,i2]) (λO u J e=>?_) hf;simp only [si,tq,or_false,not_or]at J;exact hk O u J.1 J.2.2.1 J.2.2.2.1 J.2.2.2.2 e
 self:=λ_ _ _ _ _ st h=>wpAny_pyIter_zip st.1 h
def rl(K:rH)(ta:TA):TI:=λσ H R=>ta σ H λvs H1=>∃z I a b,vs=[.ref a,.ref b]/\(∃xs,SqK z K H1 a xs)/\(∃ys,SqK I K H1 b ys)/\R (Itz z I K a b) H1
theorem gW{X:Cx}{e1 e2:Expr}{ta:TA}{p pos:Pos}{elts:List Expr}{x1:Nat}{tpos:Pos}(hg:Gl X "zip")(hm:X.mg "zip" = none)(ha:PA X [e1,e2] ta)
 (hv:bootBuiltins "zip" = some (.type "zip")) (hs:starEach [e1,e2] X.env=[(false,eval e1 X.env),(false,eval e2 X.env)]:=by rfl) (a1:starEach [e2] X.env=[(false,eval e2 X.env)]:=by rfl) :
 PI X (.Tuple elts x1 tpos) (.Call (.Name "zip" p) [e1,e2] [] pos) (rl X.K ta):=by
 intro pins s σ H R I h;refine Call_ (xp I hg hm hv (tX (thn (ha pos pins s σ H _ I h) λus s1 hZ=>?_) (by rw [hs,a1]) (by rw [a1];rfl)));obtain⟨vs,H1,M,r1,q1⟩:=hZ;obtain⟨z,J,a,b,e,⟨xs,ac⟩,⟨ys,am⟩,q⟩:=q1;subst e;obtain⟨w1,w2,eu,ap,ar⟩:=fP r1;subst eu;cases ap;cases ar;obtain⟨as,bg,p1,z1⟩:=M.sq ac;obtain⟨ax,bi,p2,z2⟩:=M.sq am;have la:=p1.lt;have lb:=p2.lt;refine callType_new F.called_zip ⋯ (F.typeCall_zip_2 _ _) (F.newCall_zip_2 _ _) (λobj=>F.args_object_init_3 obj _ _) F.entry_zip_new (VQ z J a b as.toArray ax.toArray) ⟨p1,p2,?_⟩;have keep : ∀c o,s1.heap.get? c=some o->(wa z J s1.heap a b).get? c=some o:=λc o e=>
  rM _ (rM _ (rM _ (rM _ (rM _ e))))
 have y1:(uk s1.heap (itO z a)).objs.size=s1.heap.objs.size+1:=uq ..;have y2:(uk (uk s1.heap (itO z a)) (itO J b)).objs.size=s1.heap.objs.size+2:=by rw [uq,y1]
 have y3:(uk (uk (uk s1.heap (itO z a)) (itO J b)) (k9 (.ref s1.heap.objs.size) (.ref (s1.heap.objs.size+1)))).objs.size=s1.heap.objs.size+3:=by rw [uq,y2]
 have y4:(uk (uk (uk (uk s1.heap (itO z a)) (itO J b)) (k9 (.ref s1.heap.objs.size) (.ref (s1.heap.objs.size+1)))) (k9 .none .none)).objs.size=s1.heap.objs.size+4:=by rw [uq,y3]
 have g0:ItAt z (wa z J s1.heap a b) s1.heap.objs.size a 0:=(JC z s1.heap a).at λo e=>rM _ (rM _ (rM _ (rM _ e)));have g1:ItAt J (wa z J s1.heap a b) (s1.heap.objs.size+1) b 0:=by
  have q:=JC J (uk s1.heap (itO z a)) b;rw [y1]at q;exact q.at λo e=>rM _ (rM _ (rM _ e))
 have g2:IsPair (wa z J s1.heap a b) (s1.heap.objs.size+2) (.ref s1.heap.objs.size) (.ref (s1.heap.objs.size+1)):=by
  have q:_=some (k9 (.ref s1.heap.objs.size) (.ref (s1.heap.objs.size+1))):=sh (uk (uk s1.heap (itO z a)) (itO J b)) (o:=k9 (.ref s1.heap.objs.size) (.ref (s1.heap.objs.size+1))) rfl;rw [y2]at q;exact rM _ (rM _ q)
 have g3:IsPair (wa z J s1.heap a b) (s1.heap.objs.size+3) .none .none:=by
  have q:_=some (k9 .none .none):=sh (uk (uk (uk s1.heap (itO z a)) (itO J b)) (k9 (.ref s1.heap.objs.size) (.ref (s1.heap.objs.size+1)))) (o:=k9 .none .none) rfl;rw [y3]at q;exact rM _ q
 have g4:IsZip (wa z J s1.heap a b) (s1.heap.objs.size+4) (s1.heap.objs.size+2) (s1.heap.objs.size+3) .none:=by
  have q:=sh (uk (uk (uk (uk s1.heap (itO z a)) (itO J b)) (k9 (.ref s1.heap.objs.size) (.ref (s1.heap.objs.size+1)))) (k9 .none .none)) (o:=mI (s1.heap.objs.size+2) (s1.heap.objs.size+3)) rfl;rw [y4]at q;exact q
 refine⟨⟨_,g4,rfl⟩,wpAny_pyIter_zip (s:={s1 with heap:=wa z J s1.heap a b}) g4 ?_⟩;have I2:Inv X pins σ H1 {s1 with heap:=wa z J s1.heap a b,toks:=s1.toks}:=M.kept keep;have nn : ∀m:Nat,s1.heap.objs.size≠s1.heap.objs.size+m+1:=λm=>by omega
 have O : ∀m:Nat,a≠s1.heap.objs.size+m:=λm=>sF (su la (ug _ m));have Y : ∀m:Nat,b≠s1.heap.objs.size+m:=λm=>sF (su lb (ug _ m));have ne : ∀m n:Nat,m≠n->(s1.heap.objs.size+m:Nat)≠s1.heap.objs.size+n:=λm n h=>by omega
 have D:ZipApart (s1.heap.objs.size+4) (s1.heap.objs.size+2) (s1.heap.objs.size+3) s1.heap.objs.size (s1.heap.objs.size+1) a b:=
  ⟨ne 2 4 ⋯,ne 3 4 ⋯,ne 0 4 ⋯,ne 1 4 ⋯,ne 2 3 ⋯,ne 2 0 ⋯,ne 2 1 ⋯,ne 3 0 ⋯,ne 3 1 ⋯,ne 0 1 ⋯,
   O 4,O 3,O 0,O 1,Y 4,Y 3,Y 0,Y 1⟩
 refine⟨_,[s1.heap.objs.size+4,s1.heap.objs.size+2,s1.heap.objs.size+3,s1.heap.objs.size,s1.heap.objs.size+1],_,_,H1,rfl,I2,V2 z J D,⟨g4,g2,⟨_,_,g3⟩,g0,g1⟩,λc hc=>?_,q⟩;have a4:s1.heap.objs.size<=c:=by
  simp only [si,tq,or_false]at hc;rcases hc with rfl | rfl | rfl | rfl | rfl
  ·exact ug _ _
  ·exact ug _ _
  ·exact ug _ _
  ·exact se _
  ·exact ug _ _
 exact M.fpOk a4 (M.hok.fresh a4)
def Itk(k:Sk)(K:rH)(a:Addr):It:=match k with
 | .L=>Itl K a
 | .T=>Itt K a
def rm(K:rH)(tl:TE):TI:=λσ H R=>tl σ H λx H1=>∃a k,x = .ref a/\(∃xs,SqK k K H1 a xs)/\R (Itk k K a) H1
theorem Xg{X:Cx}{tg l:Expr}{tl:TE}(M:PE X l tl):PI X tg l (rm X.K tl):=by
 intro pins s σ H R I h;refine thn (M pins s σ H _ I h) λv s1 O=>?_;obtain⟨x,H1,z,r1,Y⟩:=O;obtain⟨a,k,e,⟨xs,hq⟩,q⟩:=Y;subst e;cases r1;have J : ∀b ∈ [s1.heap.objs.size],FpOk X pins H1 b:=λb hb=>by
  have e:b=s1.heap.objs.size:=by simpa using hb
  subst e;exact z.fpOk (se _) (z.hok.fresh (se _))
 obtain⟨a2,rv,p,hz⟩:=z.sq hq;cases k with
 | L=>exact wpAny_pyIter_list p ⟨s1.heap.objs.size,[s1.heap.objs.size],_,_,H1,rfl,z.kept (t':=s1.toks) λb o e=>rM _ e,K0 a _,⟨_,sh _ rfl,rfl,rfl⟩,J,q⟩
 | T=>exact wpAny_pyIter_tuple p ⟨s1.heap.objs.size,[s1.heap.objs.size],_,_,H1,rfl,z.kept (t':=s1.toks) λb o e=>rM _ e,X0 a _,⟨_,sh _ rfl,rfl,rfl⟩,J,q⟩
section
variable{X:Cx}{pins:List (Addr×Obj)}{σ:St}{H:Hp}{s:Shared}{a:Addr}{y v:V}{u r:Value}{o:Option V}{A:Around}{E:Value->Shared->Prop}
theorem Inv.big(I:Inv X pins σ H s):sysModules<s.heap.objs.size:=by
 have h:mainGlobals<s.heap.objs.size:=(I.mod.glob.keeps I.bk).lt;exact Nat.lt_trans ⋯ h
end
end L2
namespace DL
open PySem PySem.Spec PyProof.Rows L2
def xNames:List Str:=["NoPrime","Nought","NoTable","NoWidths","NoRow","Unlike","TooMany","NoTurn","NoLine","Nothing","NoArrow","NoText","NoRoom"]
def xCls(K:rH)(c:Str):Option Addr:=match Ap K mainGlobals c with
 | some (some (.ref C))=>some C
 | _=>none
def bQ(K:rH)(C:Addr):Bool:=
 ["int","bool","str","tuple","list"].all (λt=>uw K (.ref C) (.type t)==some false) && uw K (.ref C) (.type "ValueError")==some true &&
 sD K (.ref C) "__getattribute__" == some (some (.builtin "BaseException.__getattribute__")) && sD K (.ref C) "__getattr__" == some none &&
 sD K (.ref C) "__class__" == some (some (.builtin "object.__class__")) && AH K C (.type "object")==some true && AH K C (.type "BaseException")==some true &&
 AO K (.builtin "object.__class__") "__get__" == some (some (.builtin "getset_descriptor.__get__")) && PySem.W.takesIn K (.builtin "object.__class__")==some true &&
 (PySem.W.clsIn K C).any (λz=> !z.hasDel) && Bk K (.ref C)==some (.type "type")
def xAll(K:rH):Bool:=match xCls K "SplitError" with
 | some S=>xNames.all λc=>match xCls K c with
  | some C=>bQ K C && uw K (.ref C) (.ref S)==some true && xNames.all λc'=>match xCls K c' with
   | some z=>uw K (.ref C) (.ref z)==some (c==c')
   | none=>false
  | none=>false
 | none=>false
def XObj(h:Heap)(a:Addr)(C:Addr):Prop:=∃o vs,h.get? a=some o/\o.cls = .ref C/\o.data = .fields vs
structure XRep(K:rH)(H:Hp)(c:Str)(n:Option Int)(a:Addr):Prop where
 all:xAll K=true
 mem:c∈xNames
 ex : ∃C φ,xCls K c=some C/\H a=some (.ext φ)/\(∀h,φ h->XObj h a C)/\
  match n with
  | none=>True
  | some i=>∃d,(∀h,φ h->∃o,h.get? a=some o/\o.dict=some d)/\H d=some (.xd [(if c==("NoRoom" : Str)then "room" else "at",.int i)])
theorem XRep.mono{K:rH}{H H':Hp}{c:Str}{n:Option Int}{a:Addr}(e : ∀b o,H b=some o->H' b=some o)(h:XRep K H c n a):XRep K H' c n a:=by
 obtain⟨h1,h2,C,φ,I,g2,J,z⟩:=h;refine⟨h1,h2,C,φ,I,e _ _ g2,J,?_⟩;cases n with
 | none=>exact z
 | some i=>obtain⟨d,M,O⟩:=z;exact⟨d,M,e _ _ O⟩
theorem bP{K:rH}{c:Str}{C:Addr}(h:xAll K=true)(I:c∈xNames)(e:xCls K c=some C) : ∃S,xCls K "SplitError" = some S/\bQ K C=true/\uw K (.ref C) (.ref S)=some true/\
 ∀c' z,c'∈xNames->xCls K c'=some z->uw K (.ref C) (.ref z)=some (c==c'):=by
 unfold xAll at h;split at h
 ·rename_i S J
  have h1:=sX.mp h c I;rw [e]at h1;simp only [sr,beq_iff_eq]at h1;refine⟨S,J,h1.1.1,h1.1.2,λc' z M O=>?_⟩;have h2:=sX.mp h1.2 c' M;rw [O]at h2;exact beq_iff_eq.mp h2
 ·cases h
abbrev St:=L2.St
def nJ:D->Option Key
 | .int i=>some (.inl i)
 | .str x=>some (.inr x)
 | _=>none
def br:List D->Option (List Key)
 | []=>some []
 | d::ds=>(nJ d).bind λk=>(br ds).map λr=>k::r
def DRp(H:Hp)(a:Addr)(ks:List D)(xs:List V):Prop:=∃z,br ks=some z/\z.length=xs.length/\H a=some (.dK (z.zip xs))
def fV(k:List Int):Int:=reduceHash (Builtin.Tuple.tupleHashOf (k.map hashInt))
def DObj(o:Obj)(xs:List (List Int×Addr×Value)):Prop:=o.ExactDict/\∃es ep,o.data = .dict es ep/\es.toList=xs.map (λx=>⟨fV x.1,.ref x.2.1,x.2.2⟩)/\(xs.map (·.1)).Nodup
def atO(a:Addr)(o:Obj):HO:= .ext λh=>h.get? a=some o
def DRt(K:rH)(H:Hp)(a:Addr)(ks:List (List Int))(ys:List V):Prop:=
 (a==sysModules)=false/\∃o xs,H a=some (atO a o)/\DObj o xs/\xs.map (·.1)=ks/\xs.length<=sizeLine/\(∀x∈xs,SqT K H x.2.1 (x.1.map V.int))/\Vals ys (xs.map (·.2.2))
def fs2(z I:V):List (Str×V):=Zl "table" I (Zl "p" z [])
theorem nT(z I:V):(fs2 z I).lookup ("p" : Str)=some z:=by
 unfold fs2;rw [jB,jB,if_neg ⋯,if_pos rfl]
theorem nS(I z:V):(fs2 I z).lookup ("table" : Str)=some z:=by
 unfold fs2;rw [jB,if_pos rfl]
theorem iZ(z I:V):(fs2 z I).lookup ("forth" : Str)=none:=by
 unfold fs2;rw [jB,jB,if_neg ⋯,if_neg ⋯];rfl
theorem nU(z I:V):(fs2 z I).lookup ("back" : Str)=none:=by
 unfold fs2;rw [jB,jB,if_neg ⋯,if_neg ⋯];rfl
def vM(K:rH)(C:Addr):Bool:=Az K C Str.empty && (AQ K C && (Bp K C && (sD K (.ref C) "__setattr__" == some (some (.builtin "object.__setattr__")) && (sD K (.ref C) "__class__" == some (some (.builtin "object.__class__")) &&
 (AO K (.builtin "object.__class__") "__get__" == some (some (.builtin "getset_descriptor.__get__")) && (PySem.W.takesIn K (.builtin "object.__class__")==some true && (AH K C (.type "object")==some true && ["int","bool","str","tuple","list"].all λt=>uw K (.ref C) (.type t)==some false)))))))
def insAt(K:rH)(c:Str):Option Addr:=match Ap K mainGlobals c with
 | some (some (.ref C))=>if vM K C=true then some C else none
 | _=>none
theorem yQ{K:rH}{c:Str}{C:Addr}(h:insAt K c=some C):vM K C=true:=by
 unfold insAt at h;split at h
 ·split at h
  ·rename_i z;cases h;exact z
  ·cases h
 ·cases h
mutual
def Rep(K:rH)(H:Hp):D->V->Prop
 | .non,v=>v = .non
 | .bl b,v=>v = .bl b
 | .int i,v=>v = .int i
 | .str x,v=>v = .str x
 | .tup ds,v=>∃a xs,v = .ref a/\SqT K H a xs/\Reps K H ds xs
 | .lst ds,v=>∃a xs,v = .ref a/\SqL K H a xs/\Reps K H ds xs
 | .exc c n,v=>∃a,v = .ref a/\XRep K H c n a
 | .dic ks vs,v=>∃a xs,v = .ref a/\DRp H a ks xs/\Reps K H vs xs
 | .dct ks vs,v=>∃a xs,v = .ref a/\DRt K H a ks xs/\Reps K H vs xs
 | .ins c p t,v=>∃a C dx z I,v = .ref a/\insAt K c=some C/\H a=some (.ins C dx (fs2 z I))/\Rep K H p z/\Rep K H t I
def Reps(K:rH)(H:Hp):List D->List V->Prop
 | [],xs=>xs=[]
 | d::ds,xs=>∃x r,xs=x::r/\Rep K H d x/\Reps K H ds r
end
theorem sameT{K:rH}{H H':Hp}{a:Addr}{xs:List V}(e:Same H H')(h:SqT K H a xs):SqT K H' a xs:=by
 rcases h with(h | ⟨o,h⟩) | h
 ·exact .inl (.inl (e _ _ h))
 ·exact .inl (.inr ⟨o,e _ _ h⟩)
 ·exact .inr h
theorem Z7{k:Sk}{K:rH}{H H':Hp}{a:Addr}{xs:List V}(e:Same H H')(h:SqK k K H a xs):SqK k K H' a xs:=by
 cases k
 ·exact e.seq h
 ·exact sameT e h
mutual
theorem Rep.mono{K:rH}{H H':Hp}(e:Same H H') : ∀{d:D} {v:V},Rep K H d v->Rep K H' d v
 | .non,_,h=>h
 | .bl _,_,h=>h
 | .int _,_,h=>h
 | .str _,_,h=>h
 | .tup ds,v,h=>by
  obtain⟨a,xs,e1,h1,h2⟩:=(show ∃a xs,v = .ref a/\SqT K H a xs/\Reps K H ds xs from h);exact(show ∃a xs,v = .ref a/\SqT K H' a xs/\Reps K H' ds xs from⟨a,xs,e1,sameT e h1,Reps.mono e h2⟩)
 | .lst ds,v,h=>by
  obtain⟨a,xs,e1,h1,h2⟩:=(show ∃a xs,v = .ref a/\SqL K H a xs/\Reps K H ds xs from h);exact(show ∃a xs,v = .ref a/\SqL K H' a xs/\Reps K H' ds xs from⟨a,xs,e1,e.seq h1,Reps.mono e h2⟩)
 | .exc c n,v,h=>by
  obtain⟨a,e1,h1⟩:=(show ∃a,v = .ref a/\XRep K H c n a from h);exact(show ∃a,v = .ref a/\XRep K H' c n a from⟨a,e1,h1.mono e⟩)
 | .dic ks vs,v,h=>by
  obtain⟨a,xs,e1,⟨O,J,g2,M⟩,h2⟩:=(show ∃a xs,v = .ref a/\DRp H a ks xs/\Reps K H vs xs from h);exact(show ∃a xs,v = .ref a/\DRp H' a ks xs/\Reps K H' vs xs from⟨a,xs,e1,⟨O,J,g2,e _ _ M⟩,Reps.mono e h2⟩)
 | .dct ks vs,v,h=>by
  obtain⟨a,xs,e1,⟨J,o,zs,g2,M,Y,g5,g6,g7⟩,h2⟩:=(show ∃a xs,v = .ref a/\DRt K H a ks xs/\Reps K H vs xs from h);exact(show ∃a xs,v = .ref a/\DRt K H' a ks xs/\Reps K H' vs xs from⟨a,xs,e1,⟨J,o,zs,e _ _ g2,M,Y,g5,λx hx=>sameT e (g6 x hx),g7⟩,Reps.mono e h2⟩)
 | .ins c p t,v,h=>by
  obtain⟨a,C,dx,z,I,e1,h1,h2,h3,h4⟩:=(show ∃a C dx z I,v = .ref a/\insAt K c=some C/\H a=some (.ins C dx (fs2 z I))/\Rep K H p z/\Rep K H t I from h);exact(show ∃a C dx z I,v = .ref a/\insAt K c=some C/\H' a=some (.ins C dx (fs2 z I))/\Rep K H' p z/\Rep K H' t I from⟨a,C,dx,z,I,e1,h1,e _ _ h2,Rep.mono e h3,Rep.mono e h4⟩)
theorem Reps.mono{K:rH}{H H':Hp}(e:Same H H') : ∀{ds:List D} {xs:List V},Reps K H ds xs->Reps K H' ds xs
 | [],_,h=>h
 | d::ds,xs,h=>by
  obtain⟨x,r,e1,h1,h2⟩:=(show ∃x r,xs=x::r/\Rep K H d x/\Reps K H ds r from h);exact(show ∃x r,xs=x::r/\Rep K H' d x/\Reps K H' ds r from⟨x,r,e1,Rep.mono e h1,Reps.mono e h2⟩)
end
section
variable{K:rH}{H:Hp}
theorem Reps.nil:Reps K H [] []:=(show([]:List V)=[]from rfl)
theorem Reps.cons{d:D}{ds:List D}{x:V}{xs:List V}(h:Rep K H d x)(t:Reps K H ds xs):Reps K H (d::ds) (x::xs):=⟨x,xs,rfl,h,t⟩
theorem Reps.inv_nil{xs:List V}(h:Reps K H [] xs):xs=[]:=h
theorem Reps.inv_cons{d:D}{ds:List D}{xs:List V}(h:Reps K H (d::ds) xs) : ∃x r,xs=x::r/\Rep K H d x/\Reps K H ds r:=h
theorem Reps.length : ∀{ds:List D} {xs:List V},Reps K H ds xs->xs.length=ds.length
 | [],xs,h=>by rw [h.inv_nil];rfl
 | d::ds,xs,h=>by
  obtain⟨x,r,e,_,t⟩:=h.inv_cons;rw [e,sP,sP,Reps.length t]
theorem Reps.get : ∀{ds:List D} {xs:List V} {i:Nat} {d:D},Reps K H ds xs->ds[i]? = some d->∃x,xs[i]? = some x/\Rep K H d x
 | [],_,_,_,_,e=>by simp at e
 | c::ds,xs,0,d,h,e=>by
  obtain⟨x,r,e1,h1,_⟩:=h.inv_cons;simp at e;subst e;exact⟨x,by rw [e1];rfl,h1⟩
 | c::ds,xs,i+1,d,h,e=>by
  obtain⟨x,r,e1,_,t⟩:=h.inv_cons;obtain⟨y,z,g2⟩:=Reps.get (i:=i) (d:=d) t (by simpa using e);exact⟨y,by rw [e1];simpa using z,g2⟩
theorem Reps.getV{ds:List D}{xs:List V}{i:Nat}{x:V}(h:Reps K H ds xs)(e:xs[i]? = some x) : ∃d,ds[i]? = some d/\Rep K H d x:=by
 have hi:i<ds.length:=by rw [<- h.length];exact(rP.mp e).1
 obtain⟨y,e1,r⟩:=h.get (rN hi);rw [e]at e1;cases e1;exact⟨_,rN hi,r⟩
theorem Reps.append : ∀{ds es:List D} {xs ys:List V},Reps K H ds xs->Reps K H es ys->Reps K H (ds++es) (xs++ys)
 | [],_,xs,_,h,g=>by rw [h.inv_nil];exact g
 | d::ds,es,xs,ys,h,g=>by
  obtain⟨x,r,e,h1,t⟩:=h.inv_cons;rw [e];exact Reps.cons h1 (Reps.append t g)
theorem Reps.drop : ∀{ds:List D} {xs:List V} (n:Nat),Reps K H ds xs->Reps K H (ds.drop n) (xs.drop n)
 | _,_,0,h=>h
 | [],xs,n+1,h=>by rw [h.inv_nil];exact Reps.nil
 | d::ds,xs,n+1,h=>by
  obtain⟨x,r,e,_,t⟩:=h.inv_cons;rw [e];exact Reps.drop n t
theorem Reps.take : ∀{ds:List D} {xs:List V} (n:Nat),Reps K H ds xs->Reps K H (ds.take n) (xs.take n)
 | _,_,0,h=>by simp;exact Reps.nil
 | [],xs,n+1,h=>by rw [h.inv_nil];exact Reps.nil
 | d::ds,xs,n+1,h=>by
  obtain⟨x,r,e,h1,t⟩:=h.inv_cons;rw [e];exact Reps.cons h1 (Reps.take n t)
end
structure Ext(H0 H H0' H':Hp):Prop where
 s0:Same H0 H0'
 s1:Same H H'
 sub:Same H0' H'
 new : ∀a,H0 a=none->H a≠none->H0' a=none
theorem Ext.refl{H0 H:Hp}(s:Same H0 H):Ext H0 H H0 H:=⟨Same.refl _,Same.refl _,s,λ_ h _=>h⟩
theorem Ext.trans{H0 H H1 z H2 I:Hp}(a:Ext H0 H H1 z)(b:Ext H1 z H2 I):Ext H0 H H2 I:=
 ⟨a.s0.trans b.s0,a.s1.trans b.s1,b.sub,λc h1 h2=>b.new c (a.new c h1 h2) (by
  cases q:H c with
  | none=>exact absurd q h2
  | some o=>rw [a.s1 c o q];simp)⟩
theorem zR{H:Hp}{p:Addr}(h:H p=none)(o:HO):Same H (upd H p o):=λb u q=>by rw [zz (jz q h)];exact q
theorem z6{H0 H:Hp}(s:Same H0 H){p:Addr}(h:H p=none):H0 p=none:=s.free h
theorem Yg{H0 H:Hp}{p:Addr}{o:HO}(s:Same H0 H):Same (upd H0 p o) (upd H p o):=λb u q=>by
 by_cases e:b=p
 ·subst e;rw [zw]at q ⊢;exact q
 ·rw [zz e]at q ⊢;exact s b u q
theorem Ext.alloc{H0 H:Hp}{p:Addr}(s:Same H0 H)(h:H p=none)(o:HO):Ext H0 H (upd H0 p o) (upd H p o):=
 ⟨zR (z6 s h) o,zR h o,Yg s,λa h1 h2=>by rw [zz (λe=>h2 (by rw [e];exact h))];exact h1⟩
theorem Ext.hide{H0 H:Hp}{p:Addr}(s:Same H0 H)(h:H p=none)(o:HO):Ext H0 H H0 (upd H p o):=
 ⟨Same.refl _,zR h o,s.trans (zR h o),λa h1 _=>h1⟩
theorem Ext.show{H0 H H0' H':Hp}{a:Addr}{o:HO}(e:Ext H0 H H0' H')(h1:H a=none)(h2:H0' a=none)(J:H' a=some o)(s:Same H0 H):Ext H0 H (upd H0' a o) H':=
 ⟨e.s0.trans (zR h2 o),e.s1,λb u q=>by
  by_cases z:b=a
  ·subst z;rw [zw]at q;rw [J];exact q
  ·rw [zz z]at q;exact e.sub b u q,λb M I=>by
  rw [zz (λz=>I (by rw [z];exact h1))];exact e.new b M I⟩
structure Nest(K:rH)(H0 H:Hp)(rows:List (List D))(a:Addr)(bs:List Addr):Prop where
 a0:H0 a=none
 ha:H a=some (.lst (bs.map V.ref))
 nd:(a::bs).Nodup
 len:bs.length=rows.length
 row : ∀(k:Nat) b row,bs[k]? = some b->rows[k]? = some row->H0 b=none/\∃xs,H b=some (.lst xs)/\Reps K H0 row xs
theorem Nest.at{K:rH}{H0 H:Hp}{rows:List (List D)}{a:Addr}{bs:List Addr}(n:Nest K H0 H rows a bs){b:Addr}(z:b∈a::bs):H0 b=none/\∃xs,H b=some (.lst xs):=by
 rcases si.mp z with rfl | z
 ·exact⟨n.a0,_,n.ha⟩
 ·obtain⟨k,I⟩:=Be z
  have J:=(rP.mp I).1;rw [n.len]at J;obtain⟨h1,xs,h2,_⟩:=n.row k b _ I (rN J);exact⟨h1,xs,h2⟩
theorem Nest.move{K:rH}{H0 H H0' H':Hp}{rows:List (List D)}{a:Addr}{bs:List Addr}(n:Nest K H0 H rows a bs)(s:Same H0 H0')(h0 : ∀b∈a::bs,H0' b=none)(h : ∀b∈a::bs,H' b=H b):Nest K H0' H' rows a bs:=
 ⟨h0 a rX,by rw [h a rX];exact n.ha,n.nd,n.len,λk b row z J=>by
  obtain⟨_,xs,h2,M⟩:=n.row k b row z J;have I:b∈a::bs:=sd _ (sy z);exact⟨h0 b I,xs,by rw [h b I];exact h2,M.mono s⟩⟩
def NestOk(K:rH)(H0 H:Hp)(σ:St)(γ:Ctx):Prop:=
 (∀(i:Nat) rows,γ[i]? = some (.nest rows)->∃a bs,σ[i]? = some (some (.ref a))/\Nest K H0 H rows a bs/\∀(j:Nat) ds c,γ[j]? = some (.own ds)->σ[j]? = some (some (.ref c))->c∉a::bs)/\
 ∀(i j:Nat) r1 r2,γ[i]? = some (.nest r1)->γ[j]? = some (.nest r2)->i=j
theorem NestOk.nil0{K:rH}{H0 H:Hp}{σ:St}{γ:Ctx}(h : ∀(i:Nat) rows,γ[i]? ≠ some (.nest rows)):NestOk K H0 H σ γ:=⟨λi rows e=>absurd e (h i rows),λi j r1 r2 e=>absurd e (h i r1)⟩
theorem NestOk.move{K:rH}{H0 H H0' H':Hp}{σ:St}{γ:Ctx}(n:NestOk K H0 H σ γ)(s:Same H0 H0')(h : ∀(i:Nat) rows a bs,γ[i]? = some (.nest rows)->σ[i]? = some (some (.ref a))->Nest K H0 H rows a bs->(∀(j:Nat) ds c,γ[j]? = some (.own ds)->σ[j]? = some (some (.ref c))->c∉a::bs)->∀b∈a::bs,H0' b=none/\H' b=H b):NestOk K H0' H' σ γ:=
 ⟨λi rows e=>by
  obtain⟨a,bs,h1,h2,z⟩:=n.1 i rows e;exact⟨a,bs,h1,h2.move s (λb I=>(h i rows a bs e h1 h2 z b I).1) (λb I=>(h i rows a bs e h1 h2 z b I).2),z⟩,n.2⟩
theorem NestOk.ext{K:rH}{H0 H H0' H':Hp}{σ:St}{γ:Ctx}(n:NestOk K H0 H σ γ)(e:Ext H0 H H0' H'):NestOk K H0' H' σ γ:=
 n.move e.s0 λi rows a bs _ _ h2 _ b z=>by
  obtain⟨I,xs,g2⟩:=h2.at z;exact⟨e.new b I (by rw [g2];simp),by rw [e.s1 b _ g2,g2]⟩
structure RC(K:rH)(H0 H:Hp)(σ:St)(γ:Ctx):Prop where
 sub:Same H0 H
 len:σ.length=γ.length
 val : ∀(i:Nat) d,γ[i]? = some (.val d)->∃v,σ[i]? = some (some v)/\Rep K H0 d v
 own : ∀(i:Nat) ds,γ[i]? = some (.own ds)->∃a xs,σ[i]? = some (some (.ref a))/\H0 a=none/\H a=some (.lst xs)/\Reps K H0 ds xs
 ne : ∀(i j:Nat) a ds es,γ[i]? = some (.own ds)->γ[j]? = some (.own es)->σ[i]? = some (some (.ref a))->σ[j]? = some (some (.ref a))->i=j
 nst:NestOk K H0 H σ γ
theorem RC.ext{K:rH}{H0 H H0' H':Hp}{σ:St}{γ:Ctx}(r:RC K H0 H σ γ)(e:Ext H0 H H0' H'):RC K H0' H' σ γ:=
 ⟨e.sub,r.len,λi d h=>let ⟨v,h1,h2⟩:=r.val i d h;⟨v,h1,h2.mono e.s0⟩,
  λi ds h=>let ⟨a,xs,h1,h2,z,I⟩:=r.own i ds h;⟨a,xs,h1,e.new a h2 (by rw [z];simp),e.s1 _ _ z,I.mono e.s0⟩,r.ne,r.nst.ext e⟩
def tV(K:rH)(f:CO D):TE:=λσ H Q=>∃H0 γ d,RC K H0 H σ γ/\f γ=some d/\∀v H' H0',Ext H0 H H0' H'->Rep K H0' d v->Q v H'
def tQ(K:rH)(f:CO (Sk×List D)):TE:=λσ H Q=>∃H0 γ k ds,RC K H0 H σ γ/\f γ=some (k,ds)/\∀a xs H' H0',Ext H0 H H0' H'->SqK k K H' a xs->(k = .T->SqT K H0' a xs)->Reps K H0' ds xs->Q (.ref a) H'
def tO(K:rH)(f:CO (List D)):TE:=λσ H Q=>∃H0 γ ds,RC K H0 H σ γ/\f γ=some ds/\
 ∀a xs H' H0',Ext H0 H H0' H'->H a=none->H0' a=none->H' a=some (.lst xs)->Reps K H0' ds xs->Q (.ref a) H'
def tT(K:rH)(f:CO Bool):TT:=λσ H Q=>∃H0 γ b,RC K H0 H σ γ/\f γ=some b/\∀H' H0',Ext H0 H H0' H'->Q b H'
def tA(K:rH)(f:CO (List D)):TA:=λσ H Q=>∃H0 γ ds,RC K H0 H σ γ/\f γ=some ds/\∀vs H' H0',Ext H0 H H0' H'->Reps K H0' ds vs->Q vs H'
abbrev PV(X:Cx)(e:Expr)(f:CO D):Prop:=PE X e (tV X.K f)
abbrev PQ(X:Cx)(e:Expr)(f:CO (Sk×List D)):Prop:=PE X e (tQ X.K f)
abbrev PO(X:Cx)(e:Expr)(f:CO (List D)):Prop:=PE X e (tO X.K f)
abbrev PTD(X:Cx)(e:Expr)(f:CO Bool):Prop:=PT X e (tT X.K f)
abbrev PWD(X:Cx)(e:Expr)(f:CO Bool):Prop:=PW X e (tT X.K f)
abbrev PAD(X:Cx)(es:List Expr)(f:CO (List D)):Prop:=PA X es (tA X.K f)
theorem jO{X:Cx}{e:Expr}{t t':TE}(h:PE X e t)(i : ∀σ H Q,t' σ H Q->t σ H Q):PE X e t':=λpins s σ H Q I q=>h pins s σ H Q I (i σ H Q q)
theorem Kl{X:Cx}{e:Expr}{t t':TT}(h:PT X e t)(i : ∀σ H Q,t' σ H Q->t σ H Q):PT X e t':=λpins s σ H Q I q=>h pins s σ H Q I (i σ H Q q)
theorem gF{X:Cx}{e:Expr}{t t':TT}(h:PW X e t)(i : ∀σ H Q,t' σ H Q->t σ H Q):PW X e t':=λz pins s σ H Q I q=>h z pins s σ H Q I (i σ H Q q)
theorem WH{X:Cx}{es:List Expr}{t t':TA}(h:PA X es t)(i : ∀σ H Q,t' σ H Q->t σ H Q):PA X es t':=λpos pins s σ H Q I q=>h pos pins s σ H Q I (i σ H Q q)
theorem qm{X:Cx}{st:Stmt}{t t':TS}(h:PS X st t)(i : ∀D σ H,t' D σ H->t D σ H):PS X st t':=λpins s σ H D I q=>h pins s σ H D I (i D σ H q)
theorem aZ{X:Cx}{st:List Stmt}{t t':TS}(h:PSs X st t)(i : ∀D σ H,t' D σ H->t D σ H):PSs X st t':=λpins s σ H D I q=>h pins s σ H D I (i D σ H q)
theorem Zp{X:Cx}{tg e:Expr}{t t':TI}(h:PI X tg e t)(i : ∀σ H R,t' σ H R->t σ H R):PI X tg e t':=λpins s σ H R I q=>h pins s σ H R I (i σ H R q)
theorem xi{n:Nat}(h:n<=lim):n<=sizeLine:=tP h ⋯
section
variable{X:Cx}{e a b c:Expr}{pos:Pos}
theorem PV.q{f:CO D}(h:PV X e f):PQ X e (zC f):=jO h λσ H Q M=>by
 obtain⟨H0,γ,k,ds,rc,I,q⟩:=M;unfold zC at I;cases e1:f γ with
 | none=>rw [e1]at I;cases I
 | some d=>
  rw [e1]at I;refine⟨H0,γ,d,rc,e1,λv H' H0' ext r=>?_⟩;cases d with
  | tup es=>
   obtain⟨e2,J⟩:k = .T/\ds=es:=by simp [jE]at I;exact⟨I.1.symm,I.2.symm⟩
   subst e2 J;obtain⟨a,xs,rfl,h1,h2⟩:=(show ∃a xs,v = .ref a/\SqT X.K H0' a xs/\Reps X.K H0' ds xs from r);exact q a xs H' H0' ext (sameT ext.sub h1) (λ_=>h1) h2
  | lst es=>
   obtain⟨e2,J⟩:k = .L/\ds=es:=by simp [jE]at I;exact⟨I.1.symm,I.2.symm⟩
   subst e2 J;obtain⟨a,xs,rfl,h1,h2⟩:=(show ∃a xs,v = .ref a/\SqL X.K H0' a xs/\Reps X.K H0' ds xs from r);exact q a xs H' H0' ext (ext.sub.seq h1) (λz=>nomatch z) h2
  | _=>simp [jE]at I
theorem PO.v{f:CO (List D)}(h:PO X e f):PV X e (ja f):=jO h λσ H Q M=>by
 obtain⟨H0,γ,d,rc,z,q⟩:=M;unfold ja at z;cases e1:f γ with
 | none=>rw [e1]at z;cases z
 | some ds=>
  rw [e1]at z;cases z;refine⟨H0,γ,ds,rc,e1,λa xs H' H0' ext h1 h2 O r=>?_⟩;exact q _ _ _ (ext.show h1 h2 O rc.sub) (show ∃I J,V.ref a = .ref I/\SqL X.K _ I J/\Reps X.K _ ds J from⟨a,xs,rfl,SqL.of zw,r.mono (zR h2 _)⟩)
theorem PO.q{f:CO (List D)}(h:PO X e f):PQ X e (jb f):=jO h λσ H Q J=>by
 obtain⟨H0,γ,k,ds,rc,I,q⟩:=J;unfold jb at I;cases e1:f γ with
 | none=>rw [e1]at I;cases I
 | some es=>
  rw [e1]at I;cases I;exact⟨H0,γ,_,rc,e1,λa xs H' H0' ext h1 h2 M r=>q a xs H' H0' ext (SqL.of M) (λz=>nomatch z) r⟩
theorem zb(i:Nat)(h:PE X e (vZ i)):PV X e (zd i):=jO h λσ H Q I=>by
 obtain⟨H0,γ,d,rc,z,q⟩:=I;unfold zd at z;cases e1:γ[i]? with
 | none=>rw [e1]at z;cases z
 | some c=>
  rw [e1]at z;cases c with
  | val d'=>
   cases z;obtain⟨v,h1,h2⟩:=rc.val i d e1;exact⟨v,h1,q v H H0 (Ext.refl rc.sub) h2⟩
  | no=>cases z
  | own ds=>cases z
  | nest rows=>cases z
theorem zq(i:Nat)(h:PE X e (vZ i)):PQ X e (zf i):=jO h λσ H Q O=>by
 obtain⟨H0,γ,k,ds,rc,I,q⟩:=O;unfold zf at I;cases e1:γ[i]? with
 | none=>rw [e1]at I;cases I
 | some c=>
  rw [e1]at I;cases c with
  | no=>cases I
  | nest rows=>cases I
  | own es=>
   cases I;obtain⟨a,xs,h1,h2,Y,h4⟩:=rc.own i ds e1;exact⟨_,h1,q a xs H H0 (Ext.refl rc.sub) (SqL.of Y) (λz=>nomatch z) h4⟩
  | val d=>
   obtain⟨v,h1,h2⟩:=rc.val i d e1;refine⟨v,h1,?_⟩;cases d with
   | tup es=>
    obtain⟨e2,M⟩:k = .T/\ds=es:=by simp [ku,jE]at I;exact⟨I.1.symm,I.2.symm⟩
    subst e2 M;obtain⟨a,xs,rfl,J,g2⟩:=(show ∃a xs,v = .ref a/\SqT X.K H0 a xs/\Reps X.K H0 ds xs from h2);exact q a xs H H0 (Ext.refl rc.sub) (sameT rc.sub J) (λ_=>J) g2
   | lst es=>
    obtain⟨e2,M⟩:k = .L/\ds=es:=by simp [ku,jE]at I;exact⟨I.1.symm,I.2.symm⟩
    subst e2 M;obtain⟨a,xs,rfl,J,g2⟩:=(show ∃a xs,v = .ref a/\SqL X.K H0 a xs/\Reps X.K H0 ds xs from h2);exact q a xs H H0 (Ext.refl rc.sub) (rc.sub.seq J) (λz=>nomatch z) g2
   | _=>simp [ku,jE]at I
theorem Zk{d:D}{v:V}(h:PE X e (tC v))(r : ∀H,Rep X.K H d v):PV X e (zk d):=jO h λσ H Q z=>by
 obtain⟨H0,γ,d',rc,I,q⟩:=z;cases I;exact q v H H0 (Ext.refl rc.sub) (r H0)
theorem zg{i:Int}{j:Nat}:PV X (.Constant (.int i) j pos) (zk (.int i)):=Zk ia λ_=>(show V.int i = .int i from rfl)
theorem vm{x:Bool}{j:Nat}:PV X (.Constant (.bool x) j pos) (zk (.bl x)):=Zk ny λ_=>(show V.bl x = .bl x from rfl)
theorem wG{x:Str}{j:Nat}:PV X (.Constant (.str x) j pos) (zk (.str x)):=Zk hJ λ_=>(show V.str x = .str x from rfl)
def Snd(K:rH)(r:R2)(F:D->D->Option D):Prop:=∀H0 H x y dx z d Q,Same H0 H->Rep K H0 dx x->Rep K H0 z y->F dx z=some d->(∀v H' H0',Ext H0 H H0' H'->Rep K H0' d v->Q v H')->r x y H Q
theorem bind_some{α β:Type}{o:Option α}{f:α->Option β}{y:β}(h:o.bind f=some y) : ∃x,o=some x/\f x=some y:=by
 cases o with
 | none=>cases h
 | some x=>exact⟨x,rfl,h⟩
theorem Qo{K:rH}{r:R2}{F:D->D->Option D}{fa fb:CO D}(J:Snd K r F) : ∀σ H Q,tV K (zh F fa fb) σ H Q->tOp r (tV K fa) (tV K fb) σ H Q:=λσ H Q M=>by
 obtain⟨H0,γ,d,rc,z,q⟩:=M;obtain⟨x,e1,z⟩:=bind_some z;obtain⟨y,e2,z⟩:=bind_some z;refine⟨H0,γ,x,rc,e1,λO H1 Y x1 r1=>⟨Y,γ,y,rc.ext x1,e2,λv2 H2 a1 I r2=>?_⟩⟩;exact J a1 H2 O v2 x y d Q I.sub (r1.mono I.s0) r2 z λv H' H0' x3 r3=>q v H' H0' (x1.trans (I.trans x3)) r3
theorem wH{z:Operator}{r:R2}{F:D->D->Option D}{fa fb:CO D}(I:OpR X (binaryOp z) r)(J:Snd X.K r F)(ha:PV X a fa)(M:PV X b fb):PV X (.BinOp a z b pos) (zh F fa fb):=
 jO (dm I ha M) (Qo J)
theorem gK{z:CmpOp}{r:R2}{F:D->D->Option D}{fa fb:CO D}(I:OpR X (compareOp z) r)(J:Snd X.K r F)(ha:PV X a fa)(M:PV X b fb)(hm:behindInMarks z b=false):PV X (.Compare a [z] [b] pos) (zh F fa fb):=
 jO (dB I ha M hm) (Qo J)
theorem yX{d:D}{b:Bool}(h:asB d=some b):d = .bl b:=by cases d<;>simp [asB]at h;rw [h]
theorem Qh{z:CmpOp}{r:R2}{F:D->D->Option D}{fa fb:CO D}(J:OpR X (compareOp z) r)(M:Snd X.K r F)(ha:PV X a fa)(O:PV X b fb)(hm:behindInMarks z b=false):PTD X (.Compare a [z] [b] pos) (sB (zh F fa fb)):=
 Kl (Yr J ha O hm) λσ H Q Y=>by
  obtain⟨H0,γ,k,rc,I,q⟩:=Y;obtain⟨d,e1,I⟩:=bind_some I;refine Qo M σ H _ ⟨H0,γ,d,rc,e1,λv H' H0' x r=>?_⟩;rw [yX I]at r;exact⟨k,r,q H' H0' x⟩
theorem k8{f:CO D}(h:PV X e f)(he : ∀I,isTrue e X.env I=(do let v <- I;standAt e.pos;holding [v] (truthy v)):=by intro _;rfl):PTD X e (sB f):=
 Kl (gO h he) λσ H Q J=>by
  obtain⟨H0,γ,k,rc,z,q⟩:=J;obtain⟨d,e1,z⟩:=bind_some z;refine⟨H0,γ,d,rc,e1,λv H' H0' x r=>?_⟩;rw [yX z]at r;exact⟨k,r,q H' H0' x⟩
theorem kE{f:CO Bool}(h:PTD X a f):PWD X (.BoolOp .And [a] pos) f:=cT h
theorem Zj{f:CO Bool}(h:PTD X a f):PWD X (.BoolOp .Or [a] pos) f:=gD h
theorem vk{f g:CO Bool}{jV:List Expr}(ha:PTD X a f)(I:PWD X (.BoolOp .And (b::jV) pos) g):PWD X (.BoolOp .And (a::b::jV) pos) (vi f g):=
 gF (gE ha I) λσ H Q J=>by
  obtain⟨H0,γ,k,rc,z,q⟩:=J;obtain⟨c,e1,z⟩:=bind_some z;refine⟨H0,γ,c,rc,e1,λH' H0' x=>?_⟩;cases c with
  | true=>rw [if_pos rfl]at z ⊢;exact⟨H0',γ,k,rc.ext x,z,λH2 M O=>q H2 M (x.trans O)⟩
  | false=>rw [if_neg tj]at z ⊢;cases z;exact q H' H0' x
theorem Jm{f g:CO Bool}{jV:List Expr}(ha:PTD X a f)(I:PWD X (.BoolOp .Or (b::jV) pos) g):PWD X (.BoolOp .Or (a::b::jV) pos) (Jc f g):=
 gF (nr ha I) λσ H Q J=>by
  obtain⟨H0,γ,k,rc,z,q⟩:=J;obtain⟨c,e1,z⟩:=bind_some z;refine⟨H0,γ,c,rc,e1,λH' H0' x=>?_⟩;cases c with
  | true=>rw [if_pos rfl]at z ⊢;cases z;exact q H' H0' x
  | false=>rw [if_neg tj]at z ⊢;exact⟨H0',γ,k,rc.ext x,z,λH2 M O=>q H2 M (x.trans O)⟩
theorem kl{f:CO Bool}(ha:PTD X a f):PTD X (.UnaryOp .Not a pos) (qd f):=
 Kl (gP ha) λσ H Q I=>by
  obtain⟨H0,γ,k,rc,z,q⟩:=I;unfold qd at z;cases e1:f γ with
  | none=>rw [e1]at z;cases z
  | some c=>rw [e1]at z;cases z;exact⟨H0,γ,c,rc,e1,λH' H0' x=>q H' H0' x⟩
theorem Zm{f:CO Bool}(h:PWD X e f):PTD X e f:=h.pt
theorem gG{z:BoolOp}{f:CO D}(h:PV X a f):PV X (.BoolOp z [a] pos) f:=hU h
theorem gN{f g:CO D}{jV:List Expr}(ha:PV X a f)(I:PV X (.BoolOp .And (b::jV) pos) g):PV X (.BoolOp .And (a::b::jV) pos) (cM f g):=
 jO (ic ha I) λσ H Q J=>by
  obtain⟨H0,γ,d,rc,z,q⟩:=J;obtain⟨c,e1,z⟩:=bind_some z;obtain⟨d1,M,e1⟩:=bind_some e1;refine⟨H0,γ,d1,rc,M,λv H' H0' x r=>?_⟩;rw [yX e1]at r;refine⟨c,r,?_⟩;cases c with
  | true=>rw [if_pos rfl]at z ⊢;exact⟨H0',γ,d,rc.ext x,z,λO H2 Y x2 r2=>q O H2 Y (x.trans x2) r2⟩
  | false=>rw [if_neg tj]at z ⊢;cases z;exact q _ H' H0' x (show V.bl false = .bl false from rfl)
theorem gH{f:CO D}(ha:PV X a f):PV X (.UnaryOp .Not a pos) (cH f):=
 jO (hX ha) λσ H Q I=>by
  obtain⟨H0,γ,d,rc,z,q⟩:=I;unfold cH at z;cases e1:f γ with
  | none=>rw [e1]at z;cases z
  | some d1=>
   rw [e1]at z;refine⟨H0,γ,d1,rc,e1,λv H' H0' x r=>?_⟩;cases d1 with
   | bl c=>cases z;exact⟨c,r,q _ H' H0' x (show V.bl (!c) = .bl (!c)from rfl)⟩
   | _=>cases z
theorem Xa{k:CO Bool}{f g:CO D}(O:PTD X c k)(ha:PV X a f)(Y:PV X b g):PV X (.IfExp c a b pos) (cK k f g):=
 jO (WE O ha Y) λσ H Q hZ=>by
  obtain⟨H0,γ,d,rc,z,q⟩:=hZ;obtain⟨t,e1,z⟩:=bind_some z;refine⟨H0,γ,t,rc,e1,λH' H0' x=>?_⟩;cases t with
  | true=>rw [if_pos rfl]at z ⊢;exact⟨H0',γ,d,rc.ext x,z,λI H2 J M r2=>q I H2 J (x.trans M) r2⟩
  | false=>rw [if_neg tj]at z ⊢;exact⟨H0',γ,d,rc.ext x,z,λI H2 J M r2=>q I H2 J (x.trans M) r2⟩
theorem YK:PAD X [] zy:=WH jw λσ H Q z=>by
 obtain⟨H0,γ,ds,rc,I,q⟩:=z;cases I;exact q [] H H0 (Ext.refl rc.sub) Reps.nil
theorem kF{es:List Expr}{f:CO D}{g:CO (List D)}(ha:PV X e f)(J:PAD X es g)(M:starEach (e::es) X.env=(false,eval e X.env)::starEach es X.env:=by rfl):PAD X (e::es) (za f g):=
 WH (zK ha J M) λσ H Q O=>by
  obtain⟨H0,γ,ds,rc,z,q⟩:=O;obtain⟨x,e1,z⟩:=bind_some z;cases e2:g γ with
  | none=>rw [e2]at z;cases z
  | some r=>
   rw [e2]at z;cases z;exact⟨H0,γ,x,rc,e1,λv H1 Y x1 r1=>⟨Y,γ,r,rc.ext x1,e2,λvs H2 a0 I r2=>q (v::vs) H2 a0 (x1.trans I) (Reps.cons (r1.mono I.s0) r2)⟩⟩
theorem xB{es:List Expr}{x1:Nat}{f:CO (List D)}(h:PAD X es f):PV X (.Tuple es x1 pos) (yK f):=
 jO (bf h) λσ H Q M=>by
  obtain⟨H0,γ,d,rc,z,q⟩:=M;obtain⟨ds,e1,z⟩:=bind_some z;by_cases I:ds.length<=lim
  ·rw [if_pos I]at z;cases z
   refine⟨H0,γ,ds,rc,e1,λvs H1 O x1 r1=>⟨xi (by rw [r1.length];exact I),λp J=>?_⟩⟩;exact q _ _ _ (x1.trans (Ext.alloc x1.sub J _)) (show ∃a xs,V.ref p = .ref a/\SqT X.K _ a xs/\Reps X.K _ ds xs from⟨p,vs,rfl,SqT.of zw,r1.mono (zR (z6 x1.sub J) _)⟩)
  ·rw [if_neg I]at z;cases z
theorem qW{es:List Expr}{f:CO (List D)}(h:PAD X es f):PO X (.List es pos) (jI f):=
 jO (bh h) λσ H Q O=>by
  obtain⟨H0,γ,d,rc,I,q⟩:=O;obtain⟨ds,e1,I⟩:=bind_some I;by_cases M:ds.length<=lim
  ·rw [if_pos M]at I;cases I
   refine⟨H0,γ,_,rc,e1,λvs H1 Y x1 r1=>⟨xi (by rw [r1.length];exact M),λp J=>?_⟩⟩;exact q p vs _ Y (x1.trans (Ext.hide x1.sub J _)) (by
    cases z:H p with
    | none=>rfl
    | some o=>rw [x1.s1 p o z]at J;cases J) (z6 x1.sub J) zw r1
  ·rw [if_neg M]at I;cases I
end
def xl(ds:List D):List D:=(rO ds.length).map λ(i:Nat)=>D.tup [.int i,ds[i]?.getD .non]
def kr(T:Tg)(f:CO (List D))(γ:Ctx):List D->Option (List (List D))
 | []=>some []
 | d::ds=>(jx T d γ).bind λγ1=>(f γ1).bind λe=>(kr T f γ ds).map λr=>e::r
def Je(src:CO (List D))(T:Tg)(n:Nat)(fr:List Nat)(f:CO (List D)):CO (List (List D)):=λγ=>(src γ).bind λds=>if ds.length<=lim then kr T f (jn n fr γ) ds else none
def aO(i:Nat)(F:CO Fl):CO Fl:=λγ=>(xn γ[i]?).bind λds=>F (γ.set i (.val (.lst ds)))
def cb:List D->Option (List Str)
 | []=>some []
 | .str x::r=>(cb r).map λl=>x::l
 | _::_=>none
def jg(x:Str):Bool:=decide (x.length<=1000)
def Z9(f g:CO D):CO D:=λγ=>(f γ).bind λd=>((g γ).bind asI).bind λi=>match d with
 | .str z=>if jg z=true then (ixD z.cps.toList.length i).bind λk=>z.cps.toList[k]?.map λc=> .str ⟨#[c]⟩else none
 | _=>none
def Kf(f:CO D):CO D:=λγ=>(f γ).bind λd=>match d with
 | .str z=>if jg z=true then some (.int z.length)else none
 | _=>none
def cJ(f g:CO D):CO D:=λγ=>((f γ).bind asI).bind λi=>((g γ).bind asI).map λj=> .int (if j<i then j else i)
abbrev Xn:=Str×Option Int
def xNo:CO Xn:=λ_=>none
def mM(c:Str):CO Xn:=λ_=>some (c,none)
def xIf(k:CO Bool)(G H:CO Xn):CO Xn:=λγ=>(k γ).bind λb=>if b=true then G γ else H γ
end DL
namespace DL
open PySem L2
open PySem.W (KasT kas_sort)
def qz(z:Str):List D:=z.cps.toList.map λc=>D.str ⟨#[c]⟩
def aN(f:CO D):CO (List D):=λγ=>(f γ).bind λd=>match d with
 | .str z=>if jg z=true then some (qz z)else none
 | _=>none
def qG(f:CO D):CO (List D):=λγ=>(f γ).bind λd=>match d with
 | .str z=>if jg z=true then some (xl (qz z))else none
 | _=>none
def vh(f:CO D):CO (List D):=λγ=>(f γ).bind λd=>match d with
 | .lst ds=>some (xl ds)
 | _=>none
def oV(f:CO D)(g:CO (Sk×List D)):CO D:=λγ=>(f γ).bind λd=>(g γ).bind λa=>match d with
 | .str x=>(cb a.2).map λl=> .bl (l.any λy=>y==x)
 | _=>none
def Wh(f g:CO D):CO D:=λγ=>(f γ).bind λd=>(g γ).bind λe=>match d,e with
 | .str x,.str y=>if jg x=true/\jg y=true then some (.str (x++y))else none
 | _,_=>none
def WG:D->Option (Int×Int)
 | .tup [.int a,.int b]=>some (a,b)
 | _=>none
def yu:List D->Option (List (Int×Int))
 | []=>some []
 | d::r=>(WG d).bind λp=>(yu r).map λl=>p::l
def ma(x y:Int×Int):Bool:=if x.1=y.1 then decide (x.2<y.2)else decide (x.1<y.1)
def gp{α:Type}(lt:Nat->Nat->Bool):KasT α->α
 | .ret a=>a
 | .ask i j k=>gp lt (k (lt i j))
def qL(ps:List (Int×Int)):List Nat:=if ps.length<2 then rO ps.length else (gp (λi j=>ma (ps.getD i (0,0)) (ps.getD j (0,0))) (kas_sort ps.length)).toList
def Kb(ds:List D):Option (List D):=(yu ds).bind λps=>if ds.length<64 then some ((qL ps).map λi=>ds.getD i .non)else none
def Ja(f:CO (Sk×List D)):CO (List D):=λγ=>(f γ).bind λa=>match a.1 with
 | .L=>Kb a.2
 | _=>none
end DL
namespace DL
open PySem L2
def Zg(i:Nat)(f:CO (List D)):CO Fl:=λγ=>(xn γ[i]?).bind λds=>(f γ).bind λes=>if ds.length+es.length<=lim then some (.next (γ.set i (.own (ds++es))))else none
def kn:List D->Option (List Int)
 | []=>some []
 | .int i::r=>(kn r).map λl=>i::l
 | _::_=>none
open PySem.Spec PyProof.Rows
structure RS(K:rH)(E0 E H0 H:Hp)(σ:St)(γ:Ctx):Prop where
 rc:RC K H0 H σ γ
 ext:Ext E0 E H0 H
 fresh : ∀(i:Nat) ds a,γ[i]? = some (.own ds)->σ[i]? = some (some (.ref a))->E a=none
 fr2 : ∀(i:Nat) rows a xs,γ[i]? = some (.nest rows)->σ[i]? = some (some (.ref a))->H a=some (.lst xs)->E a=none/\∀b,V.ref b∈xs->E b=none
def Sat(K:rH)(E0 E:Hp)(D:Ends):Fl->Prop
 | .next γ=>∀σ H H0,RS K E0 E H0 H σ γ->D.nx σ H
 | .brk γ=>∀σ H H0,RS K E0 E H0 H σ γ->D.bk σ H
 | .cont γ=>∀σ H H0,RS K E0 E H0 H σ γ->D.ct σ H
 | .ret (.val d)=>∀v H H0,Ext E0 E H0 H->Rep K H0 d v->D.rt v H
 | .ret (.own es)=>∀a xs H H0,Ext E0 E H0 H->E a=none->H0 a=none->H a=some (.lst xs)->Reps K H0 es xs->D.rt (.ref a) H
def tS(K:rH)(F:CO Fl):TS:=λD σ H=>∃E0 E H0 γ z,RS K E0 E H0 H σ γ/\F γ=some z/\Sat K E0 E D z
abbrev PSD(X:Cx)(st:Stmt)(F:CO Fl):Prop:=PS X st (tS X.K F)
abbrev XW(X:Cx)(sts:List Stmt)(F:CO Fl):Prop:=PSs X sts (tS X.K F)
section
variable{K:rH}{E0 E H0 H H0' H':Hp}{σ:St}{γ:Ctx}
theorem RS.step(r:RS K E0 E H0 H σ γ)(e:Ext H0 H H0' H'):RS K E0 E H0' H' σ γ:=⟨r.rc.ext e,r.ext.trans e,r.fresh,λi rows a xs h1 h2 I=>by
 obtain⟨J,bs,z,g2,_⟩:=r.rc.nst.1 i rows h1;rw [h2]at z;cases z;have:=e.s1 a _ g2.ha;rw [I]at this;cases this;exact r.fr2 i rows a _ h1 h2 g2.ha⟩
theorem zE{α:Type}{l:List α}{i j:Nat}{x y:α}(h:(l.set i x)[j]? = some y):(j=i/\y=x/\i<l.length)\/(j≠i/\l[j]? = some y):=by
 by_cases e:i=j
 ·subst e
  by_cases z:i<l.length
  ·rw [sM z]at h;cases h;exact .inl ⟨rfl,rfl,z⟩
  ·rw [List.set_eq_of_length_le ⋯]at h
   exact absurd (rP.mp h).1 z
 ·rw [rW e]at h;exact .inr ⟨uu e,h⟩
theorem NestOk.setVal{i:Nat}{d:D}{v:V}(n:NestOk K H0 H σ γ):NestOk K H0 H (σ.set i (some v)) (γ.set i (.val d)):=
 ⟨λj rows e=>by
  rcases zE e with⟨_,z,_⟩ | ⟨I,z⟩
  ·cases z
  ·obtain⟨a,bs,h1,h2,J⟩:=n.1 j rows z
   refine⟨a,bs,by rw [rW (uu I)];exact h1,h2,λk ds c e1 e2=>?_⟩;rcases zE e1 with⟨_,z,_⟩ | ⟨M,z1⟩
   ·cases z
   ·rw [rW (uu M)]at e2;exact J k ds c z1 e2,
 λj k r1 r2 e1 e2=>by
  rcases zE e1 with⟨_,z,_⟩ | ⟨_,z1⟩
  ·cases z
  ·rcases zE e2 with⟨_,z,_⟩ | ⟨_,z2⟩
   ·cases z
   ·exact n.2 j k r1 r2 z1 z2⟩
theorem RC.setVal{i:Nat}{d:D}{v:V}(r:RC K H0 H σ γ)(h:Rep K H0 d v):RC K H0 H (σ.set i (some v)) (γ.set i (.val d)):=by
 refine⟨r.sub,by simp [r.len],λj d' e=>?_,λj ds e=>?_,λj k a ds es e1 e2 M O=>?_,r.nst.setVal⟩
 ·rcases zE e with⟨rfl,z,Y⟩ | ⟨I,z⟩
  ·cases z;exact⟨v,sM (by rw [r.len];exact Y),h⟩
  ·obtain⟨v',J,g2⟩:=r.val j d' z
   exact⟨v',by rw [rW (uu I)];exact J,g2⟩
 ·rcases zE e with⟨rfl,z,Y⟩ | ⟨I,z⟩
  ·cases z
  ·obtain⟨a,xs,J,g2⟩:=r.own j ds z
   exact⟨a,xs,by rw [rW (uu I)];exact J,g2⟩
 ·rcases zE e1 with⟨_,z,_⟩ | ⟨I,z1⟩
  ·cases z
  ·rcases zE e2 with⟨_,z,_⟩ | ⟨hk,z2⟩
   ·cases z
   ·rw [rW (uu I)]at M
    rw [rW (uu hk)]at O;exact r.ne j k a ds es z1 z2 M O
theorem RS.setVal{i:Nat}{d:D}{v:V}(r:RS K E0 E H0 H σ γ)(h:Rep K H0 d v):RS K E0 E H0 H (σ.set i (some v)) (γ.set i (.val d)):=
 ⟨r.rc.setVal h,r.ext,λj ds a e1 e2=>by
  rcases zE e1 with⟨_,z,_⟩ | ⟨I,z⟩
  ·cases z
  ·rw [rW (uu I)]at e2;exact r.fresh j ds a z e2,
 λj rows a xs e1 e2 J=>by
  rcases zE e1 with⟨_,z,_⟩ | ⟨I,z⟩
  ·cases z
  ·rw [rW (uu I)]at e2;exact r.fr2 j rows a xs z e2 J⟩
theorem vA : ∀{as bs:List Addr},as.map V.ref=bs.map V.ref->as=bs
 | [],[],_=>rfl
 | [],_::_,h=>by cases h
 | _::_,[],h=>by cases h
 | a::as,b::bs,h=>by
  rw [sJ,sJ]at h;injection h with h1 h2;injection h1 with h1;rw [h1,vA h2]
theorem RS.setOwn{i:Nat}{es:List D}{a:Addr}{xs:List V}{G0 G:Hp}(r:RS K E0 E G0 G σ γ)(e:Ext G0 G H0 H)(h1:G a=none)(h2:H0 a=none)(h3:H a=some (.lst xs))(h4:Reps K H0 es xs) :
 RS K E0 E H0 H (σ.set i (some (.ref a))) (γ.set i (.own es)):=by
 have rc:=r.rc.ext e;have no : ∀(j:Nat) ds,γ[j]? = some (.own ds)->¬σ[j]? = some (some (.ref a)):=λj ds g z=>by
  obtain⟨b,ys,I,g2,g3,_⟩:=r.rc.own j ds g;rw [z]at I;cases I;rw [h1]at g3;cases g3
 refine⟨⟨rc.sub,by simp [rc.len],λj d' g=>?_,λj ds g=>?_,λj k b ds fs e1 e2 O Y=>?_,⟨λj rows g=>?_,λj k r1 r2 I g2=>?_⟩⟩,r.ext.trans e,λj ds b I g2=>?_,λj rows b xs I g2 g3=>?_⟩
 ·rcases zE g with⟨_,z,_⟩ | ⟨J,z⟩
  ·cases z
  ·obtain⟨v',I,g2⟩:=rc.val j d' z
   exact⟨v',by rw [rW (uu J)];exact I,g2⟩
 ·rcases zE g with⟨rfl,z,M⟩ | ⟨J,z⟩
  ·cases z;exact⟨a,xs,sM (by rw [rc.len];exact M),h2,h3,h4⟩
  ·obtain⟨b,ys,I,g2⟩:=rc.own j ds z
   exact⟨b,ys,by rw [rW (uu J)];exact I,g2⟩
 ·rcases zE e1 with⟨rfl,z,M⟩ | ⟨J,z1⟩
  ·rcases zE e2 with⟨rfl,_,_⟩ | ⟨hk,z2⟩
   ·rfl
   ·rw [sM (by rw [rc.len];exact M)]at O
    rw [rW (uu hk)]at Y;cases O;exact absurd Y (no k fs z2)
  ·rcases zE e2 with⟨rfl,z,M⟩ | ⟨hk,z2⟩
   ·rw [sM (by rw [rc.len];exact M)]at Y
    rw [rW (uu J)]at O;cases Y;exact absurd O (no j ds z1)
   ·rw [rW (uu J)]at O
    rw [rW (uu hk)]at Y;exact rc.ne j k b ds fs z1 z2 O Y
 ·rcases zE g with⟨_,z,_⟩ | ⟨J,z⟩
  ·cases z
  ·obtain⟨b,bs,I,g2,g3⟩:=r.rc.nst.1 j rows z
   obtain⟨b',a2,f1,f2,f3⟩:=rc.nst.1 j rows z;rw [I]at f1;cases f1;have eb:a2.map V.ref=bs.map V.ref:=by
    have:=e.s1 b _ g2.ha;rw [f2.ha]at this;injection this with this;injection this
   have ac:a2=bs:=vA eb;subst ac;refine⟨b,a2,by rw [rW (uu J)];exact I,f2,λk ds c e1 e2=>?_⟩;rcases zE e1 with⟨rfl,_,M⟩ | ⟨hk,z1⟩
   ·rw [sM (by rw [rc.len];exact M)]at e2;cases e2
    intro hm;obtain⟨_,an,q⟩:=g2.at hm;rw [h1]at q;cases q
   ·rw [rW (uu hk)]at e2;exact f3 k ds c z1 e2
 ·rcases zE I with⟨_,z,_⟩ | ⟨_,z1⟩
  ·cases z
  ·rcases zE g2 with⟨_,z,_⟩ | ⟨_,z2⟩
   ·cases z
   ·exact rc.nst.2 j k r1 r2 z1 z2
 ·rcases zE I with⟨rfl,z,M⟩ | ⟨J,z⟩
  ·rw [sM (by rw [rc.len];exact M)]at g2;cases g2
   cases q:E a with
   | none=>rfl
   | some o=>rw [r.ext.s1 a o q]at h1;cases h1
  ·rw [rW (uu J)]at g2;exact r.fresh j ds b z g2
 ·rcases zE I with⟨_,z,_⟩ | ⟨J,z⟩
  ·cases z
  ·rw [rW (uu J)]at g2;exact(r.step e).fr2 j rows b xs z g2 g3
theorem RS.rewrite{i:Nat}{ds es:List D}{a:Addr}{xs ys:List V}(r:RS K E0 E H0 H σ γ)(hi:γ[i]? = some (.own ds))(J:σ[i]? = some (some (.ref a)))(h4:Reps K H0 es ys) :
 RS K E0 E H0 (upd H a (.lst ys)) σ (γ.set i (.own es)):=by
 obtain⟨a',ac,g1,g2,g3,g4⟩:=r.rc.own i ds hi;rw [J]at g1;cases g1;have ap:i<γ.length:=(rP.mp hi).1;refine⟨⟨λb o q=>?_,by simp [r.rc.len],λj d' g=>?_,λj fs g=>?_,λj k b fs gs e1 e2 Y e4=>?_,⟨λj rows g=>?_,λj k r1 r2 e1 e2=>?_⟩⟩,⟨r.ext.s0,λb o q=>?_,λb o q=>?_,r.ext.new⟩,λj fs b e1 e2=>?_,λj rows b zs e1 e2 Y=>?_⟩
 ·rw [zz (λz=>by rw [z,g2]at q;cases q)];exact r.rc.sub b o q
 ·rcases zE g with⟨_,z,_⟩ | ⟨hj,z⟩
  ·cases z
  ·exact r.rc.val j d' z
 ·rcases zE g with⟨rfl,z,hl⟩ | ⟨hj,z⟩
  ·cases z;exact⟨a,ys,J,g2,zw,h4⟩
  ·obtain⟨b,zs,I,M,O,f4⟩:=r.rc.own j fs z
   refine⟨b,zs,I,M,?_,f4⟩;rw [zz (λq=>hj (r.rc.ne j i a fs ds z hi (by rw [I,q]) J))];exact O
 ·have c1 : ∃fs',γ[j]? = some (.own fs'):=by
   rcases zE e1 with⟨q,_,_⟩ | ⟨_,z⟩
   ·exact⟨ds,by rw [q];exact hi⟩
   ·exact⟨fs,z⟩
  have c2 : ∃fs',γ[k]? = some (.own fs'):=by
   rcases zE e2 with⟨q,_,_⟩ | ⟨_,z⟩
   ·exact⟨ds,by rw [q];exact hi⟩
   ·exact⟨gs,z⟩
  obtain⟨I,z1⟩:=c1;obtain⟨M,z2⟩:=c2;exact r.rc.ne j k b I M z1 z2 Y e4
 ·rcases zE g with⟨_,z,_⟩ | ⟨hj,z⟩
  ·cases z
  ·obtain⟨b,bs,I,M,O⟩:=r.rc.nst.1 j rows z
   have a3:=O i ds a hi J;refine⟨b,bs,I,M.move (Same.refl _) (λc hc=>(M.at hc).1) (λc hc=>zz λq=>a3 (q ▸ hc)),λk fs c e1 e2=>?_⟩;rcases zE e1 with⟨q,_,_⟩ | ⟨_,z1⟩
   ·rw [q,J]at e2;cases e2;exact a3
   ·exact O k fs c z1 e2
 ·rcases zE e1 with⟨_,z,_⟩ | ⟨_,z1⟩
  ·cases z
  ·rcases zE e2 with⟨_,z,_⟩ | ⟨_,z2⟩
   ·cases z
   ·exact r.rc.nst.2 j k r1 r2 z1 z2
 ·rw [zz (λz=>by rw [z,r.fresh i ds a hi J]at q;cases q)];exact r.ext.s1 b o q
 ·rw [zz (λz=>by rw [z,g2]at q;cases q)];exact r.ext.sub b o q
 ·rcases zE e1 with⟨q,_,_⟩ | ⟨_,z⟩
  ·rw [q]at e2;exact r.fresh i ds b hi e2
  ·exact r.fresh j fs b z e2
 ·rcases zE e1 with⟨_,z,_⟩ | ⟨hj,z⟩
  ·cases z
  ·obtain⟨b',bs,I,M,O⟩:=r.rc.nst.1 j rows z
   rw [e2]at I;cases I;rw [zz (show b≠a from λq=>O i ds a hi J (by rw [q];exact rX))]at Y;exact r.fr2 j rows b zs z e2 Y
end
section
variable{X:Cx}{e a b c:Expr}{pos:Pos}{st:Stmt}{jV:List Stmt}
theorem jN:XW X [] jS:=aZ Yu λD σ H z=>by
 obtain⟨E0,E,H0,γ,M,rs,I,J⟩:=z;cases I;exact J σ H H0 rs
theorem ze{F G:CO Fl}(h1:PSD X st F)(h2:XW X jV G):XW X (st::jV) (zM F G):=aZ (j8 h1 h2) λD σ H M=>by
 obtain⟨E0,E,H0,γ,O,rs,z,I⟩:=M;obtain⟨J,e1,z⟩:=bind_some z;refine⟨E0,E,H0,γ,J,rs,e1,?_⟩;cases J with
 | next γ'=>exact λσ' H' H0' Y=>⟨E0,E,H0',γ',O,Y,z,I⟩
 | brk γ'=>cases z;exact I
 | cont γ'=>cases z;exact I
 | ret r=>cases z;cases r<;>exact I
theorem zm{F:CO Fl}(h1:PSD X st F):XW X [st] F:=xf h1
theorem zt{α β:Type}{o:Option α}{f:α->β}{y:β}(h:o.map f=some y) : ∃x,o=some x/\f x=y:=by
 cases o with
 | none=>cases h
 | some x=>exact⟨x,rfl,by simpa using h⟩
theorem jo{f:CO D}(h:PV X e f):PSD X (.Return (some e) pos) (qB f):=qm (yp h) λD σ H I=>by
 obtain⟨E0,E,H0,γ,M,rs,z,J⟩:=I;obtain⟨d,e1,z⟩:=zt z;subst z;exact⟨H0,γ,d,rs.rc,e1,λv H' H0' x r=>J v H' H0' (rs.ext.trans x) r⟩
theorem qM{f:CO (List D)}(h:PO X e f):PSD X (.Return (some e) pos) (xc f):=qm (yp h) λD σ H I=>by
 obtain⟨E0,E,H0,γ,O,rs,z,J⟩:=I;obtain⟨ds,e1,z⟩:=zt z;subst z;refine⟨H0,γ,ds,rs.rc,e1,λa xs H' H0' x h1 h2 M r=>J a xs H' H0' (rs.ext.trans x) ?_ h2 M r⟩;cases q:E a with
 | none=>rfl
 | some o=>rw [rs.ext.s1 a o q]at h1;cases h1
theorem qD(i:Nat)(h:PE X e (vZ i)):PSD X (.Return (some e) pos) (qZ i):=qm (yp h) λD σ H J=>by
 obtain⟨E0,E,H0,γ,Y,rs,z,I⟩:=J;unfold qZ at z;cases e1:γ[i]? with
 | none=>rw [e1]at z;cases z
 | some c=>
  rw [e1]at z;cases c with
  | no=>cases z
  | val d=>
   cases z;obtain⟨v,h1,h2⟩:=rs.rc.val i d e1;exact⟨v,h1,I v H H0 rs.ext h2⟩
  | nest rows=>cases z
  | own ds=>
   cases z;obtain⟨a,xs,h1,h2,M,O⟩:=rs.rc.own i ds e1;exact⟨_,h1,I a xs H H0 rs.ext (rs.fresh i ds a e1 h1) h2 M O⟩
theorem Jq:PSD X (.Continue pos) Wg:=qm Qk λD σ H ⟨E0,E,H0,γ,J,rs,z,I⟩=>by cases z;exact I σ H H0 rs
theorem Yv:PSD X st Jd:=qm Wu λD σ H ⟨E0,E,H0,γ,I,rs,z,J⟩=>by cases z
theorem qV{k:CO Bool}{F G:CO Fl}{x y:List Stmt}(M:PTD X c k)(ha:XW X x F)(O:XW X y G):PSD X (.If c x y pos) (sIf k F G):=qm (gT M ha O) λD σ H Y=>by
 obtain⟨E0,E,H0,γ,I,rs,z,J⟩:=Y;obtain⟨t,e1,z⟩:=bind_some z;refine⟨H0,γ,t,rs.rc,e1,λH' H0' x=>?_⟩;cases t with
 | true=>rw [if_pos rfl]at z ⊢;exact⟨E0,E,H0',γ,I,rs.step x,z,J⟩
 | false=>rw [if_neg tj]at z ⊢;exact⟨E0,E,H0',γ,I,rs.step x,z,J⟩
theorem zQ(i:Nat){f:CO D}(h:PS X st (ZS (tV X.K f) (xt i))):PSD X st (zW i f):=qm h λD σ H I=>by
 obtain⟨E0,E,H0,γ,M,rs,z,J⟩:=I;obtain⟨d,e1,z⟩:=zt z;subst z;exact⟨H0,γ,d,rs.rc,e1,λv H' H0' x r=>J _ _ H0' ((rs.step x).setVal r)⟩
theorem qC(i:Nat){f:CO (List D)}(h:PS X st (ZS (tO X.K f) (xt i))):PSD X st (qQ i f):=qm h λD σ H I=>by
 obtain⟨E0,E,H0,γ,O,rs,z,J⟩:=I;obtain⟨ds,e1,z⟩:=zt z;subst z;exact⟨H0,γ,ds,rs.rc,e1,λa xs H' H0' x h1 h2 M r=>J _ _ H0' (rs.setOwn x h1 h2 M r)⟩
theorem xH{o:Option Cell}{ds:List D}(h:xn o=some ds):o=some (.own ds):=by
 cases o with
 | none=>cases h
 | some c=>cases c<;>simp [xn]at h;rw [h]
theorem Km(i:Nat){f:CO D}(h:PE X e (tBM X.K "list" Qe (vZ i) (X8 (tV X.K f) fX)))(O:swapsWith e none pos.line X.env=pure false:=by rfl):PSD X (.Expr e pos) (qH i f):=
 qm (Zn h O) λD σ H Y=>by
  obtain⟨E0,E,H0,γ,fl,rs,z,a0⟩:=Y;obtain⟨ds,e1,z⟩:=bind_some z;obtain⟨d,e2,z⟩:=bind_some z;have e1:=xH e1;by_cases I:ds.length<lim
  ·rw [if_pos I]at z;cases z
   obtain⟨a,xs,h1,h2,J,M⟩:=rs.rc.own i ds e1;refine⟨_,h1,.inl ⟨rfl,_,SqL.of J⟩,H0,γ,d,rs.rc,e2,λv H' H0' x r=>?_⟩;have a1:=rs.step x;have a2:=x.s1 _ _ J;refine⟨a,xs,v,rfl,rfl,a2,?_,?_⟩
   ·exact su (by rw [M.length];exact I) (xi (se _))
   ·exact a0 _ _ H0' (a1.rewrite (xs:=xs) e1 h1 ((M.mono x.s0).append (Reps.cons r Reps.nil)))
  ·rw [if_neg I]at z;cases z
end
def pH(K:rH)(H0 H:Hp)(Q:VK):Res->Prop
 | .val d=>∀v H' H0',Ext H0 H H0' H'->Rep K H0' d v->Q v H'
 | .own es=>∀a xs H' H0',Ext H0 H H0' H'->H a=none->H0' a=none->H' a=some (.lst xs)->Reps K H0' es xs->Q (.ref a) H'
def spF(K:rH)(n:Nat)(F:List D->Option Res):Sp:=λvs H Q _=>∃H0 ds r,Same H0 H/\Reps K H0 ds vs/\ds.length=n/\F ds=some r/\pH K H0 H Q r
theorem spF.len{K:rH}{n:Nat}{F:List D->Option Res}{ps:List Str}(hn:ps.length=n) : ∀vs H Q E,spF K n F vs H Q E->vs.length=ps.length:=λvs H Q E h=>by
 obtain⟨H0,ds,r,_,h1,h2,_⟩:=h;rw [h1.length,h2,hn]
section
variable{P:Program}{w:World}{K:rH}{mg:Str->Option Value}{base:Heap}
theorem Zh{H0 H:Hp}{N:List Str}{ds:List D}{vs:List V}(s:Same H0 H)(h:Reps K H0 ds vs)(hn:ds.length<=N.length):RS K H0 H H0 H (start N vs) (jP N.length ds):=by
 have z:=h.length;refine⟨⟨s,by simp [L2.start,jP,z],λi d e=>?_,λi es e=>?_,λi j a es fs e _ _ _=>?_,NestOk.nil0 λi rows e=>?_⟩,Ext.refl s,λi es a e _=>?_,λi rows a xs e _ _=>?_⟩
 all_goals unfold jP at e
 ·by_cases hi:i<ds.length
  ·rw [sY (by simpa using hi),sk]at e
   cases e1:ds[i]? with
   | none=>rw [e1]at e;cases e
   | some d'=>
    rw [e1]at e;cases e;obtain⟨x,I,g2⟩:=h.get e1;refine⟨x,?_,g2⟩;unfold L2.start;rw [sY (by simp;omega),sk,I];rfl
  ·rw [tw (by simpa using hi),AM]at e
   split at e<;>cases e
 all_goals
  by_cases hi:i<ds.length
  ·rw [sY (by simpa using hi),sk]at e
   cases e1:ds[i]? with
   | none=>rw [e1]at e;cases e
   | some d'=>rw [e1]at e;cases e
  ·rw [tw (by simpa using hi),AM]at e
   split at e<;>cases e
theorem lg{x qual:Str}{st:Stmt}{f:Addr}{fd:FuncData}{N ps:List Str}{k:Nat}{F:CO Fl}(J:L2.Fun K x qual st f fd)(S:FnScope N ps (defScope st))
 (M : ∀(cdv:Value) (A:Around) (outer:List Env) (s:Shared) (H:Hp) (E:XK),Room k (A.deeper (envOfC qual (defScope st) s.heap.objs.size f cdv))->XW (eK CX0 P w K mg base N qual (defScope st) f cdv A outer s H E).nox (defBody st) F) :
 FnOk P w K mg base CX0 (k+1) f fd ps (spF K ps.length (jv N.length F)):=by
 refine J.ok S (spF.len rfl) (λcdv A outer s H vs Q E O h=>⟨_,M cdv A outer s H E O,?_⟩);obtain⟨H0,ds,r,s0,h1,h2,Y,z⟩:=h;obtain⟨I,e1,e2⟩:=bind_some Y;have a0:ps.length<=N.length:=by have:=congrArg AX S.pre;rw [AD]at this;omega
 refine⟨H0,H,H0,jP N.length ds,I,Zh s0 h1 ⋯,e1,?_⟩;cases I with
 | ret r'=>cases e2;cases r<;>exact z
 | next γ=>cases e2;exact λσ' H' H0' rs=>z .non H' H0' rs.ext (show V.non = .non from rfl)
 | brk γ=>cases e2
 | cont γ=>cases e2
end
section
variable{X:Cx}{es:List Expr}{pos p:Pos}{k:Nat}{f:Addr}{fd:FuncData}{ps:List Str}{x:Str}{F:List D->Option Res}{g:CO (List D)}
theorem cZ{A0:List Expr}(G:FnOk X.prog X.w X.K X.mg X.base CX0 k f fd ps (spF X.K ps.length F))(ha:PAD X es g)(O : ∀γ ds,g γ=some ds->ds.length=ps.length)
 (Y : ∀{t:TA},PA X es t->PE X (.Call (.Name x p) es [] pos) (V4 (spF X.K ps.length F) [] E0 t)):PV X (.Call (.Name x p) es [] pos) (zx F g):=
 jO (Y ha) λσ H Q hZ=>by
  obtain⟨H0,γ,d,rc,z,q⟩:=hZ;obtain⟨ds,e1,z⟩:=bind_some z;obtain⟨r,e2,z⟩:=zt z;refine⟨H0,γ,ds,rc,e1,λvs H1 a1 x1 r1=>⟨a1,ds,r,x1.sub,by simpa using r1,O γ ds e1,e2,?_⟩⟩;subst z;cases r with
  | val d=>exact λv H' H0' I r2=>q v H' H0' (x1.trans I) r2
  | own fs=>
   refine λa xs H' H0' I h1 h2 h3 r2=>q _ H' _ (x1.trans (I.show h1 h2 h3 x1.sub)) ?_;exact(show ∃J M,V.ref a = .ref J/\SqL X.K _ J M/\Reps X.K _ fs M from⟨a,xs,rfl,SqL.of zw,r2.mono (zR h2 _)⟩)
theorem dh(G:FnOk X.prog X.w X.K X.mg X.base CX0 k f fd ps (spF X.K ps.length F))(ha:PAD X es g)(J : ∀γ ds,g γ=some ds->ds.length=ps.length)
 (M : ∀{t:TA},PA X es t->PE X (.Call (.Name x p) es [] pos) (V4 (spF X.K ps.length F) [] E0 t)):PO X (.Call (.Name x p) es [] pos) (zP F g):=
 jO (M ha) λσ H Q O=>by
  obtain⟨H0,γ,fs,rc,I,q⟩:=O;obtain⟨ds,e1,I⟩:=bind_some I;obtain⟨r,e2,I⟩:=bind_some I;refine⟨H0,γ,ds,rc,e1,λvs H1 Y x1 r1=>⟨Y,ds,r,x1.sub,by simpa using r1,J γ ds e1,e2,?_⟩⟩;cases r with
  | val d=>cases I
  | own gs=>
   cases I;exact λa xs H' H0' x2 h1 h2 h3 r2=>q a xs H' H0' (x1.trans x2) (by
    cases z:H a with
    | none=>rfl
    | some o=>rw [x1.s1 a o z]at h1;cases h1) h2 h3 r2
end
structure Walk(K:rH)(H0 Hs:Hp)(J:It)(ds:List D):Prop where
 go : ∀i H1,Same Hs H1->i<ds.length->J.go i H1
 stop : ∀H1,Same Hs H1->J.stop ds.length H1
 yld : ∀i H1 x H1',Same Hs H1->i<ds.length->J.yld i H1 x H1'->∃d,ds[i]? = some d/\∀G0,Same H0 G0->Same G0 H1->∃G0',Ext G0 H1 G0' H1'/\Rep K G0' d x
theorem Walk.weak{K:rH}{H0 Hs z:Hp}{J:It}{ds:List D}(w:Walk K H0 Hs J ds)(s:Same Hs z):Walk K H0 z J ds:=
 ⟨λi H1 h=>w.go i H1 (s.trans h),λH1 h=>w.stop H1 (s.trans h),λi H1 x H1' h=>w.yld i H1 x H1' (s.trans h)⟩
theorem yI{k:Sk}{K:rH}{H0 Hs:Hp}{a:Addr}{xs:List V}{ds:List D}(h:SqK k K Hs a xs)(r:Reps K H0 ds xs):Walk K H0 Hs (Itk k K a) ds:=by
 have J:=r.length;refine⟨λi H1 s hi=>?_,λH1 s=>?_,λi H1 x H1' s hi y=>?_⟩
 ·have z:i<xs.length:=by omega
  cases k with
  | L=>exact⟨xs,xs[i],s.seq h,rN z⟩
  | T=>exact⟨xs,xs[i],sameT s h,rN z⟩
 ·cases k with
  | L=>exact⟨xs,s.seq h,by omega⟩
  | T=>exact⟨xs,sameT s h,by omega⟩
 ·have e:H1'=H1/\xs[i]? = some x:=by
   cases k with
   | L=>exact⟨y.1,y.2 xs (s.seq h)⟩
   | T=>exact⟨y.1,y.2 xs (sameT s h)⟩
  obtain⟨e1,e2⟩:=e;subst e1;obtain⟨d,hd,I⟩:=r.getV e2;exact⟨d,hd,λG0 s1 s2=>⟨G0,Ext.refl s2,I.mono s1⟩⟩
theorem k7(lo:Int)(n:Nat):(qf lo n).length=n:=by simp [qf]
theorem wB{K:rH}{H0 Hs:Hp}(lo:Int)(n:Nat):Walk K H0 Hs (Itr lo n) (qf lo n):=by
 refine⟨λi H1 s hi=>?_,λH1 s=>?_,λi H1 x H1' s hi y=>?_⟩
 ·rw [k7]at hi;exact hi
 ·rw [k7];exact se _
 ·rw [k7]at hi
  obtain⟨e1,e2⟩:=y;subst e1 e2;exact⟨.int (lo+i),by simp [qf,hi],λG0 s1 s2=>⟨G0,Ext.refl s2,(show V.int (lo+i) = .int (lo+i)from rfl)⟩⟩
theorem VY{I J:Sk}{K:rH}{H0 Hs:Hp}{a b:Addr}{xs ys:List V}{ds es:List D}(h1:SqK I K Hs a xs)(r1:Reps K H0 ds xs)(h2:SqK J K Hs b ys)(r2:Reps K H0 es ys) :
 Walk K H0 Hs (Itz I J K a b) (XX ds es):=by
 have l1:=r1.length;have l2:=r2.length;have Y:(XX ds es).length=min ds.length es.length:=by simp [XX]
 refine⟨λi H1 s hi=>?_,λH1 s=>?_,λi H1 x H1' s hi y=>?_⟩
 ·exact⟨xs,ys,Z7 s h1,Z7 s h2,by omega,by omega⟩
 ·refine⟨xs,ys,Z7 s h1,Z7 s h2,?_⟩
  rw [Y];omega
 ·obtain⟨p,u,v,e1,z,e2,g1,g2⟩:=y
  obtain⟨d,hd,hr⟩:=r1.getV (g1 xs (Z7 s h1));obtain⟨c,hc,a3⟩:=r2.getV (g2 ys (Z7 s h2));refine⟨.tup [d,c],?_,λG0 s1 s2=>⟨upd G0 p (.tup [u,v]),?_,?_⟩⟩
  ·have a4:(ds.zip es)[i]? = some (d,c):=List.getElem?_zip_eq_some.mpr ⟨hd,hc⟩
   simp [XX,a4]
  ·rw [e2];exact Ext.alloc s2 z _
  ·rw [e1]
   exact(show ∃M O,V.ref p = .ref M/\SqT K _ M O/\Reps K _ [d,c] O from⟨p,[u,v],rfl,SqT.of zw,Reps.cons ((hr.mono s1).mono (zR (z6 s2 z) _)) (Reps.cons ((a3.mono s1).mono (zR (z6 s2 z) _)) Reps.nil)⟩)
def tIc(K:rH)(src:CO (List D)):TI:=λσ H R=>∃H0 γ ds,RC K H0 H σ γ/\src γ=some ds/\∀J H' H0',Ext H0 H H0' H'->Walk K H0' H' J ds->R J H'
def tIf(K:rH)(src:CO (List D)):TI:=λσ H R=>∃H0 γ ds,RC K H0 H σ γ/\src γ=some ds/\∀J H' H0',Ext H0 H H0' H'->Walk K H0' H0' J ds->R J H'
abbrev PIC(X:Cx)(tg e:Expr)(src:CO (List D)):Prop:=PI X tg e (tIc X.K src)
abbrev PIF(X:Cx)(tg e:Expr)(src:CO (List D)):Prop:=PI X tg e (tIf X.K src)
section
variable{X:Cx}{tg e a b:Expr}{pos p:Pos}
theorem PIF.c{src:CO (List D)}(h:PIF X tg e src):PIC X tg e src:=Zp h λσ H R ⟨H0,γ,ds,rc,z,q⟩=>⟨H0,γ,ds,rc,z,λJ H' H0' x w=>q J H' H0' x (w.weak x.sub)⟩
theorem zZ{f:CO (Sk×List D)}(h:PQ X e f):PIC X tg e (zA f):=Zp (Xg h) λσ H R z=>by
 obtain⟨H0,γ,ds,rc,I,q⟩:=z;obtain⟨⟨k,es⟩,e1,e2⟩:=zt I;subst e2;exact⟨H0,γ,k,es,rc,e1,λa xs H' H0' x h1 _ r=>⟨a,k,rfl,⟨xs,h1⟩,q _ H' H0' x (yI h1 r)⟩⟩
theorem YB{f:CO D}(h:PV X e f):PIF X tg e (zA (zC f)):=Zp (Xg h) λσ H R I=>by
 obtain⟨H0,γ,ds,rc,J,q⟩:=I;obtain⟨⟨k,es⟩,e1,e2⟩:=zt J;subst e2;obtain⟨d,M,e1⟩:=bind_some e1;refine⟨H0,γ,d,rc,M,λv H' H0' x r=>?_⟩;cases d with
 | tup fs=>
  obtain⟨e2,z⟩:k = .T/\es=fs:=by simp [jE]at e1;exact⟨e1.1.symm,e1.2.symm⟩
  subst e2 z;obtain⟨a,xs,rfl,h1,h2⟩:=(show ∃a xs,v = .ref a/\SqT X.K H0' a xs/\Reps X.K H0' es xs from r);exact⟨a,.T,rfl,⟨xs,sameT x.sub h1⟩,q _ H' H0' x (yI (k:= .T) h1 h2)⟩
 | lst fs=>
  obtain⟨e2,z⟩:k = .L/\es=fs:=by simp [jE]at e1;exact⟨e1.1.symm,e1.2.symm⟩
  subst e2 z;obtain⟨a,xs,rfl,h1,h2⟩:=(show ∃a xs,v = .ref a/\SqL X.K H0' a xs/\Reps X.K H0' es xs from r);exact⟨a,.L,rfl,⟨xs,x.sub.seq h1⟩,q _ H' H0' x (yI (k:= .L) h1 h2)⟩
 | _=>simp [jE]at e1
theorem jy{d:D}{i:Int}(h:asI d=some i):d = .int i:=by cases d<;>simp [asI]at h;rw [h]
theorem yc{i:Int}(h:inR i=true) : -(2 ^ 62)<=i/\i<2 ^ 62:=by
 unfold inR at h;have h:=of_decide_eq_true h;omega
theorem Kr{f:CO D}(J:Gl X "range")(hm:X.mg "range" = none)(ha:PV X a f)(I:starEach [a] X.env=[(false,eval a X.env)]:=by rfl):PIF X tg (.Call (.Name "range" p) [a] [] pos) (zJ f):=
 Zp (YE J hm (zK ha jw I) I) λσ H R M=>by
  obtain⟨H0,γ,ds,rc,z,q⟩:=M;obtain⟨n,e1,z⟩:=bind_some z;obtain⟨d,O,e1⟩:=bind_some e1;by_cases hn:inR n=true
  ·rw [if_pos hn]at z;cases z
   refine⟨H0,γ,d,rc,O,λv H' H0' x r=>?_⟩;rw [jy e1]at r;obtain⟨h1,h2⟩:=yc hn;exact⟨n,by rw [show v = .int n from r],h1,h2,q _ H' H0' x (wB 0 n.toNat)⟩
  ·rw [if_neg hn]at z;cases z
theorem Kq{f g:CO D}(O:Gl X "range")(hm:X.mg "range" = none)(ha:PV X a f)(Y:PV X b g)(M:starEach [a,b] X.env=[(false,eval a X.env),(false,eval b X.env)]:=by rfl)(I:starEach [b] X.env=[(false,eval b X.env)]:=by rfl) :
 PIF X tg (.Call (.Name "range" p) [a,b] [] pos) (qk f g):=
 Zp (YD O hm (zK ha (zK Y jw I) (by rw [M,I])) M I) λσ H R hZ=>by
  obtain⟨H0,γ,ds,rc,z,q⟩:=hZ;obtain⟨m,e1,z⟩:=bind_some z;obtain⟨d,e0,e1⟩:=bind_some e1;obtain⟨n,J,z⟩:=bind_some z;obtain⟨c,e2,J⟩:=bind_some J;by_cases hn:inR m=true/\inR n=true
  ·rw [if_pos hn]at z;cases z
   refine⟨H0,γ,d,rc,e0,λv H' H0' x r=>⟨H0',γ,c,rc.ext x,e2,λv2 H2 a3 x2 r2=>?_⟩⟩;rw [jy e1]at r;rw [jy J]at r2;obtain⟨h1,h2⟩:=yc hn.1;obtain⟨h3,h4⟩:=yc hn.2;exact⟨m,n,by rw [show v = .int m from r,show v2 = .int n from r2],⟨h1,h2,h3,h4⟩,q _ H2 a3 (x.trans x2) (wB m (n - m).toNat)⟩
  ·rw [if_neg hn]at z;cases z
theorem Ye{K:rH}{H:Hp}{d:D}{v:V}{k:Sk}{ds:List D}(r:Rep K H d v)(e:jE d=some (k,ds)) : ∃a xs,v = .ref a/\SqK k K H a xs/\Reps K H ds xs:=by
 cases d with
 | tup fs=>simp [jE]at e;obtain⟨e1,e2⟩:=e;subst e1 e2;exact r
 | lst fs=>simp [jE]at e;obtain⟨e1,e2⟩:=e;subst e1 e2;exact r
 | _=>simp [jE]at e
theorem dj{f g:CO D}{elts:List Expr}{x1:Nat}{tpos:Pos}(hg:Gl X "zip")(hm:X.mg "zip" = none)(ha:PV X a f)(hb:PV X b g)(O:starEach [a,b] X.env=[(false,eval a X.env),(false,eval b X.env)]:=by rfl)(J:starEach [b] X.env=[(false,eval b X.env)]:=by rfl) :
 PIF X (.Tuple elts x1 tpos) (.Call (.Name "zip" p) [a,b] [] pos) (Z8 f g):=
 Zp (gW hg hm (zK ha (zK hb jw J) (by rw [O,J])) PyProof.Rows.boot_zip O J) λσ H R hZ=>by
  obtain⟨H0,γ,ds,rc,z,q⟩:=hZ;obtain⟨⟨k1,m⟩,e1,z⟩:=bind_some z;obtain⟨d,e0,e1⟩:=bind_some e1;obtain⟨⟨k2,n⟩,M,z⟩:=zt z;obtain⟨c,e2,M⟩:=bind_some M;subst z;refine⟨H0,γ,d,rc,e0,λv H' H0' x r=>⟨H0',γ,c,rc.ext x,e2,λv2 H2 a9 I r2=>?_⟩⟩;obtain⟨a1,xs,rfl,Y,g2⟩:=Ye (r.mono I.s0) e1;obtain⟨a2,ys,rfl,g3,g4⟩:=Ye r2 M;exact⟨k1,k2,a1,a2,rfl,⟨xs,Z7 I.sub Y⟩,⟨ys,Z7 I.sub g3⟩,q _ H2 a9 (x.trans I) (VY Y g2 g3 g4)⟩
end
def setAll:List Nat->List V->St->St
 | i::is,v::vs,σ=>setAll is vs (σ.set i (some v))
 | _,_,σ=>σ
def gs:List Nat->TGs
 | []=>ph
 | i::is=>iY (xt i) (gs is)
def gOf(K:rH):Tg->TG
 | .nm i=>xt i
 | .tp is=>pf K is.length (gs is)
theorem Zy : ∀{is:List Nat} {vs:List V} {σ:St} {H:Hp} {Q:St->Hp->Prop},vs.length=is.length->Q (setAll is vs σ) H->gs is vs σ H Q
 | [],[],_,_,_,_,q=>⟨rfl,q⟩
 | i::is,v::vs,σ,H,Q,hl,q=>⟨v,vs,rfl,Zy (by simpa using hl) q⟩
 | [],_::_,_,_,_,hl,_=>by simp at hl
 | _::_,[],_,_,_,hl,_=>by simp at hl
theorem RS.setAll{K:rH}{E0 E H0 H:Hp} : ∀{is:List Nat} {ds:List D} {vs:List V} {σ:St} {γ:Ctx},RS K E0 E H0 H σ γ->Reps K H0 ds vs->RS K E0 E H0 H (setAll is vs σ) (jX is ds γ)
 | [],ds,vs,σ,γ,r,h=>by cases ds<;>cases vs<;>exact r
 | i::is,[],vs,σ,γ,r,h=>by rw [h.inv_nil];exact r
 | i::is,d::ds,vs,σ,γ,r,h=>by
  obtain⟨x,t,e,h1,h2⟩:=h.inv_cons;subst e;show RS K E0 E H0 H (DL.setAll is t (σ.set i (some x))) (jX is ds (γ.set i (.val d)));exact RS.setAll (r.setVal h1) h2
theorem RC.setAll{K:rH}{H0 H:Hp} : ∀{is:List Nat} {ds:List D} {vs:List V} {σ:St} {γ:Ctx},RC K H0 H σ γ->Reps K H0 ds vs->RC K H0 H (setAll is vs σ) (jX is ds γ)
 | [],ds,vs,σ,γ,r,h=>by cases ds<;>cases vs<;>exact r
 | i::is,[],vs,σ,γ,r,h=>by rw [h.inv_nil];exact r
 | i::is,d::ds,vs,σ,γ,r,h=>by
  obtain⟨x,t,e,h1,h2⟩:=h.inv_cons;subst e;show RC K H0 H (DL.setAll is t (σ.set i (some x))) (jX is ds (γ.set i (.val d)));exact RC.setAll (r.setVal h1) h2
theorem kP{K:rH}{H0 H:Hp}{T:Tg}{d:D}{v:V}{σ:St}{γ γ1:Ctx}{Q:St->Hp->Prop}(s:Same H0 H)(h:Rep K H0 d v)(e:jx T d γ=some γ1)
 (q : ∀z,(RC K H0 H σ γ->RC K H0 H z γ1)->(∀E0 E,RS K E0 E H0 H σ γ->RS K E0 E H0 H z γ1)->Q z H):gOf K T v σ H Q:=by
 cases T with
 | nm i=>cases e;exact q _ (λr=>r.setVal h) λE0 E r=>r.setVal h
 | tp is=>
  cases d with
  | tup ds=>
   simp only [jx]at e;by_cases I:ds.length=is.length
   ·rw [if_pos I]at e;cases e
    obtain⟨a,xs,rfl,h1,h2⟩:=(show ∃a xs,v = .ref a/\SqT K H0 a xs/\Reps K H0 ds xs from h);have J:xs.length=is.length:=by rw [h2.length,I]
    exact⟨a,xs,rfl,sameT s h1,J,Zy J (q _ (λr=>r.setAll h2) λE0 E r=>r.setAll h2)⟩
   ·rw [if_neg I]at e;cases e
  | _=>simp [jx]at e
theorem Ext.rebase{E0 E z H0 H B:Hp}(e:Ext E0 E z B)(x:Ext z E H0 H):Ext E0 E H0 H:=
 ⟨e.s0.trans x.s0,x.s1,x.sub,λa h1 h2=>x.new a (e.new a h1 h2) h2⟩
theorem Ext.base{E0 E z B:Hp}(e:Ext E0 E z B):Ext z E z B:=⟨Same.refl _,e.s1,e.sub,λa h _=>h⟩
theorem Sat.rebase{K:rH}{E0 E I B:Hp}{D:Ends}{z:Fl}(e:Ext E0 E I B)(h:Sat K E0 E D z):Sat K I E D z:=by
 cases z with
 | next γ=>exact λσ H H0 r=>h σ H H0 ⟨r.rc,e.rebase r.ext,r.fresh,r.fr2⟩
 | brk γ=>exact λσ H H0 r=>h σ H H0 ⟨r.rc,e.rebase r.ext,r.fresh,r.fr2⟩
 | cont γ=>exact λσ H H0 r=>h σ H H0 ⟨r.rc,e.rebase r.ext,r.fresh,r.fr2⟩
 | ret r=>
  cases r with
  | val d=>exact λv H H0 x q=>h v H H0 (e.rebase x) q
  | own es=>exact λa xs H H0 x h1 h2 J q=>h a xs H H0 (e.rebase x) h1 h2 J q
section
variable{X:Cx}{tg iter:Expr}{body:List Stmt}{pos:Pos}
theorem jY{src:CO (List D)}{T:Tg}{F:CO Fl}(hp:PassesOwn (model X.prog X.w) X.A X.env X.xe)(hc:X.calm=true)(hi:PIF X tg iter src)(hg:PG X tg (gOf X.K T))(hb:XW X body F)
 (hs : ∀x,foldedSetIterable iter X.env x=pure x:=by intro _;rfl):PSD X (.For tg iter body [] pos) (xY src T F):=
 qm (Jr hp hc hi hg hb hs) λD σ H hZ=>by
  obtain⟨E0,E,H0,γ,I,rs,z,O⟩:=hZ;obtain⟨ds,e1,z⟩:=bind_some z;refine⟨H0,γ,ds,rs.rc,e1,λJ H1 M x1 wk=>?_⟩;have a0:=rs.step x1;have ex:=a0.ext;refine⟨λi m σ H=>m=ds.length - i/\i<=ds.length/\∃H0 γ I,RS X.K M E H0 H σ γ/\qo T F (ds.drop i) γ=some I/\Sat X.K M E D I,⟨_,rfl,tZ _,M,γ,I,⟨a0.rc,ex.base,a0.fresh,a0.fr2⟩,z,O.rebase ex⟩,?_⟩;rintro i m σ H ⟨rfl,hi,H0,γ,I,rs,z,O⟩;have a3:Same M H:=rs.ext.s0.trans rs.ext.sub;by_cases Y:i<ds.length
  ·refine .inr ⟨wk.go i H a3 Y,λσ H=>i+1<=ds.length/\∃H0 γ I,RS X.K M E H0 H σ γ/\qo T F (ds.drop (i+1)) γ=some I/\Sat X.K M E D I,λσ' H' n=>⟨ds.length - (i+1),by omega,rfl,n.1,n.2⟩,λx H' y=>?_⟩
   obtain⟨d,hd,hx⟩:=wk.yld i H x H' a3 Y y;obtain⟨G0,xg,rg⟩:=hx H0 rs.ext.s0 rs.rc.sub;have as:ds.drop i=d::ds.drop (i+1):=by
    have ax:d=ds[i]:=by rw [rN Y]at hd;exact(sH hd).symm
    rw [ax];exact uK Y
   rw [as]at z;simp only [qo]at z;obtain⟨γ1,eb,z⟩:=bind_some z;obtain⟨f1,eF,z⟩:=bind_some z;refine kP xg.sub rg eb λσ1 _ bb=>⟨M,E,G0,γ1,f1,bb M E (rs.step xg),eF,?_⟩;cases f1 with
   | next γ2=>exact λσ2 H2 a4 r2=>⟨Y,a4,γ2,I,r2,z,O⟩
   | cont γ2=>exact λσ2 H2 a4 r2=>⟨Y,a4,γ2,I,r2,z,O⟩
   | brk γ2=>cases z;exact O
   | ret r=>cases z;cases r<;>exact O
  ·have e:i=ds.length:=by omega
   subst e;rw [AE]at z;cases z;exact .inl ⟨wk.stop H a3,O σ H H0 rs⟩
end
theorem jU{n:Nat}{fr:List Nat}{γ:Ctx}{i:Nat}{c:Cell}(h:(jn n fr γ)[i]? = some c):c = .no\/(∃d j,c = .val d/\n<=i/\fr[i - n]? = some j/\γ[j]? = some (.val d)):=by
 unfold jn at h;by_cases hi:i<n
 ·rw [sY (by simpa using hi),AM,if_pos hi]at h
  exact .inl (sH h).symm
 ·rw [tw (by simpa using hi),sk,List.length_replicate]at h
  cases e:fr[i - n]? with
  | none=>rw [e]at h;cases h
  | some j=>
   rw [e]at h;have h':j9 (γ[j]?.getD .no)=c:=by simpa using h
   cases e2:γ[j]? with
   | none=>rw [e2]at h';exact .inl h'.symm
   | some c'=>
    rw [e2]at h';cases c' with
    | no=>exact .inl h'.symm
    | own ds=>exact .inl h'.symm
    | nest rows=>exact .inl h'.symm
    | val d=>exact .inr ⟨d,j,h'.symm,by omega,rfl,e2⟩
theorem RC.pull{K:rH}{H0 H:Hp}{σ:St}{γ:Ctx}{own:List Str}{fr:List (Str×Nat)}(r:RC K H0 H σ γ):RC K H0 H (L2.pull own fr σ) (jn own.length (fr.map (·.2)) γ):=by
 refine⟨r.sub,by simp [L2.pull,jn],λi d h=>?_,λi ds h=>?_,λi j a ds es h _ _ _=>?_,NestOk.nil0 λi rows h=>?_⟩
 ·rcases jU h with z | ⟨d',j,z,hi,I,J⟩
  ·cases z
  ·cases z
   obtain⟨v,h1,h2⟩:=r.val j d J;refine⟨v,?_,h2⟩;rw [sk]at I;cases q:fr[i - own.length]? with
   | none=>rw [q]at I;cases I
   | some p=>
    rw [q]at I;have M:p.2=j:=by simpa using I
    unfold L2.pull;rw [tw (by simpa using hi),sk,sC,q];simp [M,h1]
 ·rcases jU h with z | ⟨d',j,z,_⟩<;>cases z
 ·rcases jU h with z | ⟨d',j,z,_⟩<;>cases z
 ·rcases jU h with z | ⟨d',j,z,_⟩<;>cases z
theorem RC.weak{K:rH}{H0 H:Hp}{σ:St}{γ γ':Ctx}(r:RC K H0 H σ γ)(I:γ'.length=γ.length)(J : ∀(i:Nat) d,γ'[i]? = some (.val d)->γ[i]? = some (.val d))(z : ∀(i:Nat) ds,γ'[i]? ≠ some (.own ds))(M : ∀(i:Nat) rows,γ'[i]? ≠ some (.nest rows)):RC K H0 H σ γ':=
 ⟨r.sub,by rw [I];exact r.len,λi d h=>r.val i d (J i d h),λi ds h=>absurd h (z i ds),λi j a ds es h _ _ _=>absurd h (z i ds),NestOk.nil0 M⟩
theorem RC.upd{K:rH}{H0 H:Hp}{σ:St}{γ:Ctx}{D:Addr}{o:HO}(r:RC K H0 H σ γ)(h0:H0 D=none)(I : ∀(i:Nat) ds,γ[i]? ≠ some (.own ds))(J : ∀(i:Nat) rows,γ[i]? ≠ some (.nest rows)):RC K H0 (upd H D o) σ γ:=
 ⟨λb u q=>by rw [zz (λz=>by rw [z,h0]at q;cases q)];exact r.sub b u q,r.len,r.val,λi ds h=>absurd h (I i ds),λi j a ds es h _ _ _=>absurd h (I i ds),NestOk.nil0 J⟩
theorem ve : ∀{is:List Nat} {ds:List D} {γ:Ctx},(jX is ds γ).length=γ.length
 | [],ds,γ=>by cases ds<;>rfl
 | i::is,[],γ=>rfl
 | i::is,d::ds,γ=>by show(jX is ds (γ.set i (.val d))).length=_;rw [ve];simp
theorem vf : ∀{is:List Nat} {ds:List D} {γ:Ctx} {i:Nat},i∉is->(jX is ds γ)[i]? = γ[i]?
 | [],ds,γ,i,_=>by cases ds<;>rfl
 | j::is,[],γ,i,_=>rfl
 | j::is,d::ds,γ,i,h=>by
  show(jX is ds (γ.set j (.val d)))[i]? = _;rw [vf (λz=>h (sd _ z)),rW (λz=>h (by rw [<- z];exact rX))]
theorem JW{T:Tg}{d:D}{γ γ1:Ctx}(h:jx T d γ=some γ1):γ1.length=γ.length/\∀i,i∉T.idx->γ1[i]? = γ[i]? :=by
 cases T with
 | nm j=>cases h;exact⟨by simp,λi hi=>rW (λz=>hi (by simp [Tg.idx,z]))⟩
 | tp is=>
  cases d with
  | tup ds=>
   simp only [jx]at h;by_cases I:ds.length=is.length
   ·rw [if_pos I]at h;cases h;exact⟨ve,λi hi=>vf hi⟩
   ·rw [if_neg I]at h;cases h
  | _=>simp [jx]at h
section
variable{K:rH}{own:List Str}{fr:List (Str×Nat)}{src:CO (List D)}{T:Tg}{k:CO Bool}{f:CO D}
theorem kN(hT : ∀i∈T.idx,i<own.length){tt:TT}(c4 : ∀σ H Q,tT K k σ H Q->tt σ H Q) : ∀σ H Q,tO K (zB src T own.length (fr.map (·.2)) k f) σ H Q->K5 (tIc K src) own fr (gOf K T) tt (tV K f) σ H Q:=λσ H Q hZ=>by
 obtain⟨H0,γ,ds,rc,Y,q⟩:=hZ;obtain⟨M,e1,Y⟩:=bind_some Y;by_cases hl:M.length<=lim
 ·rw [if_pos hl]at Y
  refine⟨H0,γ,M,rc,e1,λJ H1 a8 x1 wk D hD=>?_⟩;have ac : ∀(i:Nat) es,(jn own.length (fr.map (·.2)) γ)[i]? ≠ some (.own es):=λi es h=>by rcases jU h with z | ⟨d',j,z,_⟩<;>cases z
  have am : ∀(i:Nat) rows,(jn own.length (fr.map (·.2)) γ)[i]? ≠ some (.nest rows):=λi es h=>by rcases jU h with z | ⟨d',j,z,_⟩<;>cases z
  have bb:a8 D=none:=z6 x1.sub hD;have c6:H D=none:=by
   cases z:H D with
   | none=>rfl
   | some o=>rw [x1.s1 D o z]at hD;cases hD
  refine⟨λi m ys σ' H'=>m=M.length - i/\i<=M.length/\ys.length<=i/\H' D=some (.lst ys)/\∃H0' a3 a5,RC K H0' H' σ' (jn own.length (fr.map (·.2)) γ)/\H0' D=none/\Ext a8 H1 H0' H'/\Reps K H0' a3 ys/\zN T k f (jn own.length (fr.map (·.2)) γ) (M.drop i)=some a5/\ds=a3++a5,
   ⟨_,rfl,tZ _,se _,zw,a8,[],ds,((rc.ext x1).pull).upd bb ac am,bb,Ext.hide x1.sub hD _,Reps.nil,Y,rfl⟩,?_⟩
  rintro i m ys σ' H' ⟨rfl,hi,hy,a6,H0',a3,a5,an,bd,x',r',I,rfl⟩;refine⟨a6,?_⟩;by_cases a1:i<M.length
  ·refine .inr ⟨wk.go i H' x'.s1 a1,?_,λx ap y=>?_⟩
   ·have:=xi (se lim);omega
   obtain⟨d,hd,hx⟩:=wk.yld i H' x ap x'.s1 a1 y;obtain⟨G0,O,rg⟩:=hx H0' x'.s0 an.sub;have cc:M.drop i=d::M.drop (i+1):=by
    have cd:d=M[i]:=by rw [rN a1]at hd;exact(sH hd).symm
    rw [cd];exact uK a1
   rw [cc]at I;simp only [zN]at I;obtain⟨γ1,eb,I⟩:=bind_some I;obtain⟨b,ek,I⟩:=bind_some I;have cf:G0 D=none:=O.new D bd (by rw [a6];simp);have bi:ap D=some (.lst ys):=O.s1 _ _ a6;obtain⟨bl,bg⟩:=JW eb;have back : ∀{σ2:St} {G2 H2:Hp},RC K G2 H2 σ2 γ1->RC K G2 H2 σ2 (jn own.length (fr.map (·.2)) γ):=λr=>r.weak bl.symm (λj d' hj=>by
    by_cases hm:j∈T.idx
    ·rcases jU hj with z | ⟨d2,j2,_,hn,_⟩
     ·cases z
     ·exact absurd (hT j hm) ⋯
    ·rw [bg j hm];exact hj) ac am
   refine kP O.sub rg eb λσ1 bx _=>c4 σ1 ap _ ⟨G0,γ1,b,bx (an.ext O),ek,λH3 ar x3=>?_⟩;have as:=(bx (an.ext O)).ext x3;have xa:=x'.trans (O.trans x3);have c1:ar D=none:=x3.new D cf (by rw [bi];simp);have ax:H3 D=some (.lst ys):=x3.s1 _ _ bi;cases b with
   | true=>
    dsimp only;rw [if_pos rfl]at I ⊢;obtain⟨e,ee,I⟩:=bind_some I;obtain⟨jV,er,I⟩:=zt I;refine⟨ar,γ1,e,as,ee,λv H4 c2 x4 r4=>?_⟩;have b0:c2 D=none:=x4.new D c1 (by rw [ax];simp);have cr:H4 D=some (.lst ys):=x4.s1 _ _ ax;have xb:=xa.trans x4;refine⟨cr,M.length - (i+1),by omega,rfl,a1,by rw [tM,Av];omega,zw,c2,a3++[e],jV,(back (as.ext x4)).upd b0 ac am,b0,?_,(r'.mono ((O.trans (x3.trans x4)).s0)).append (Reps.cons r4 Reps.nil),er,?_⟩
    ·exact⟨xb.s0,λc o z=>by rw [zz (λw=>by rw [w,hD]at z;cases z)];exact xb.s1 c o z,λc o z=>by rw [zz (λw=>by rw [w,b0]at z;cases z)];exact xb.sub c o z,xb.new⟩
    ·rw [<- I];simp
   | false=>
    dsimp only;rw [if_neg tj]at I ⊢;exact⟨M.length - (i+1),by omega,rfl,a1,by omega,ax,ar,a3,a5,back as,c1,xa,r'.mono ((O.trans x3).s0),I,rfl⟩
  ·have e:i=M.length:=by omega
   subst e;rw [AE]at I;cases I;rw [Bj]at q;exact .inl ⟨wk.stop H' x'.s1,q D ys H' H0' (x1.trans x') c6 bd a6 r'⟩
 ·rw [if_neg hl]at Y;cases Y
end
section
variable{X:Cx}{scope:Scope}{own:List Str}{fr:List (Str×Nat)}{elt tg iter c:Expr}{pos:Pos}{src:CO (List D)}{T:Tg}{k:CO Bool}{f:CO D}
theorem zY(z:X.calm=true)(ok:CompOk X scope fr)(I : ∀i∈T.idx,i<own.length)(hi:PIC X tg iter src)(J : ∀fp s2 H2,PG (zV X scope (own++fr.map (·.1)) fp s2 H2) tg (gOf X.K T))
 (he : ∀fp s2 H2,PV (zV X scope (own++fr.map (·.1)) fp s2 H2) elt f) (M : ∀x,foldedSetIterable iter X.env x=pure x:=by intro _;rfl) :
 PO X (.ListComp elt [⟨tg,iter,[],0⟩] scope pos) (zB src T own.length (fr.map (·.2)) z7 f):=
 jO (Zq z ok hi J (λ_ _ _=>Zo) he M) (kN I λσ H Q ⟨H0,γ,b,rc,O,q⟩=>by cases O;exact q H H0 (Ext.refl rc.sub))
theorem xD(z:X.calm=true)(ok:CompOk X scope fr)(I : ∀i∈T.idx,i<own.length)(hi:PIC X tg iter src)(J : ∀fp s2 H2,PG (zV X scope (own++fr.map (·.1)) fp s2 H2) tg (gOf X.K T))
 (M : ∀fp s2 H2,PTD (zV X scope (own++fr.map (·.1)) fp s2 H2) c k) (he : ∀fp s2 H2,PV (zV X scope (own++fr.map (·.1)) fp s2 H2) elt f) (O : ∀x,foldedSetIterable iter X.env x=pure x:=by intro _;rfl) :
 PO X (.ListComp elt [⟨tg,iter,[c],0⟩] scope pos) (zB src T own.length (fr.map (·.2)) k f):=
 jO (Zq z ok hi J (λfp s2 H2=>Xe (M fp s2 H2)) he O) (kN I λσ H Q h=>h)
theorem Wv{y:Str}{z I:Pos}{i:Nat}(J:X.N.Nodup)(M:X.N[i]? = some y)(O:Loc X.env.scope y)(Y:X.fn y=true\/X.env.scope.names.lookup y=some .local)
 (hc:X.calm=true) (ok:CompOk X scope fr) (hT : ∀i∈T.idx,i<own.length) (hi:PIC X tg iter src) (hg : ∀fp s2 H2,PG (zV X scope (own++fr.map (·.1)) fp s2 H2) tg (gOf X.K T))
 (he : ∀fp s2 H2,PV (zV X scope (own++fr.map (·.1)) fp s2 H2) elt f) (hs : ∀x,foldedSetIterable iter X.env x=pure x:=by intro _;rfl) :
 PS X (.Assign [.Name y z] (.ListComp elt [⟨tg,iter,[],0⟩] scope pos) I) (ZS (tO X.K (zB src T own.length (fr.map (·.2)) z7 f)) (xt i)):=
 qm (wI J M O Y hc ok hi hg (λ_ _ _=>Zo) he hs) λD σ H h=>kN hT (λσ H Q hZ=>by obtain⟨H0,γ,b,rc,ef,q⟩:=hZ;cases ef;exact q H H0 (Ext.refl rc.sub)) σ H _ h
theorem Kn{y:Str}{z I:Pos}{i:Nat}(J:X.N.Nodup)(M:X.N[i]? = some y)(O:Loc X.env.scope y)(Y:X.fn y=true\/X.env.scope.names.lookup y=some .local)
 (hc:X.calm=true) (ok:CompOk X scope fr) (hT : ∀i∈T.idx,i<own.length) (hi:PIC X tg iter src) (hg : ∀fp s2 H2,PG (zV X scope (own++fr.map (·.1)) fp s2 H2) tg (gOf X.K T))
 (hk : ∀fp s2 H2,PTD (zV X scope (own++fr.map (·.1)) fp s2 H2) c k) (he : ∀fp s2 H2,PV (zV X scope (own++fr.map (·.1)) fp s2 H2) elt f) (hs : ∀x,foldedSetIterable iter X.env x=pure x:=by intro _;rfl) :
 PS X (.Assign [.Name y z] (.ListComp elt [⟨tg,iter,[c],0⟩] scope pos) I) (ZS (tO X.K (zB src T own.length (fr.map (·.2)) k f)) (xt i)):=
 qm (wI J M O Y hc ok hi hg (λfp s2 H2=>Xe (hk fp s2 H2)) he hs) λD σ H h=>kN hT (λσ H Q h=>h) σ H _ h
end
theorem jm{K:rH}{H:Hp}{i:Int}{v:V}(h:Rep K H (.int i) v):v = .int i:=h
theorem cA{K:rH}{g:Int->Int->D}{z:Int->Int->V}(J : ∀H i j,Rep K H (g i j) (z i j)):Snd K (rI0 z) (dI g):=λH0 H x y dx M d Q s O Y I q=>by
 cases dx<;>cases M<;>simp [dI]at I;subst I;exact⟨_,_,jm O,jm Y,q _ H H0 (Ext.refl s) (J H0 _ _)⟩
theorem Yc{K:rH}{C:Int->Int->Prop}{c:Int->Int->Bool}{g:Int->Int->D}{z:Int->Int->V}(J : ∀i j,c i j=true->C i j)(M : ∀H i j,Rep K H (g i j) (z i j)):Snd K (rI C z) (dIc c g):=λH0 H x y dx O d Q s Y ry I q=>by
 cases dx<;>cases O<;>simp [dIc]at I;obtain⟨e1,e2⟩:=I;subst e2;exact⟨_,_,jm Y,jm ry,J _ _ e1,q _ H H0 (Ext.refl s) (M H0 _ _)⟩
theorem ck{K:rH}:Snd K (rI0 λi j=> .int (i - j)) xw:=cA λ_ _ _=>rfl
theorem aq{i j:Int}(h:yw i j=true):CMul i j:=by
 unfold yw at h;rw [uo,decide_eq_true_eq,decide_eq_true_eq]at h;unfold CMul;omega
theorem cB{K:rH}:Snd K (rI pN λi j=> .int (i/j)) ko:=Yc (λi j h=>by
 unfold au at h;rw [sr,decide_eq_true_eq,decide_eq_true_eq]at h;exact⟨h.1,by omega⟩) λ_ _ _=>rfl
theorem cz{K:rH}:Snd K (rI (λ_ j=>0<j) λi j=> .int (i%j)) jA:=Yc (λi j h=>by
 unfold VN at h;exact of_decide_eq_true h) λ_ _ _=>rfl
theorem cn{K:rH}:Snd K (rI pM λi j=> .int (i ^ j.toNat)) eH:=Yc (λi j h=>by
 unfold ly at h;rw [sr,sr,decide_eq_true_eq,decide_eq_true_eq,decide_eq_true_eq]at h;exact⟨h.1.1,by omega,h.2⟩) λ_ _ _=>rfl
theorem aM{K:rH}:Snd K (rI0 λi j=> .bl (decide (i<=j))) dLe:=cA λ_ _ _=>rfl
theorem gg{K:rH}:Snd K (rI0 λi j=> .bl (decide (j<i))) dGt:=cA λ_ _ _=>rfl
section
variable{X:Cx}
def aQ(K:rH):R2:=λx y H Q=>∃a b xs ys,x = .ref a/\y = .ref b/\SqT K H a xs/\SqT K H b ys/\xs.length+ys.length<=sizeLine/\
 (xs=[]->Q (.ref b) H)/\(ys=[]->Q (.ref a) H)/\∀p,H p=none->Q (.ref p) (upd H p (.tup (xs++ys)))
theorem WI:OpR X (binaryOp .Add) (aQ X.K):=by
 intro pins s σ H x y v u Q I rx ry h;obtain⟨a,b,xs,ys,rfl,rfl,ha,hb,M,q0,q1,q2⟩:=h;cases rx;cases ry;obtain⟨J,r,O,z1⟩:=I.tuple ha;obtain⟨am,r2,Y,z2⟩:=I.tuple hb;by_cases he:xs=[]
 ·have e1:J=[]:=(r.nil_iff).mpr he
  obtain⟨⟨cls,dd,data,sl⟩,ho,hc,n,hd⟩:=id O;obtain⟨⟨as,ap,data2,ar⟩,a2,a3,n2,a4⟩:=id Y;simp only at hc hd a3 a4;subst hc hd a3 a4;exact CP ⟨_,ho,rfl⟩ ⟨_,a2,rfl⟩ CQ seq_tuple_add BF BA (Bq _ _)
   (tuple_addW0 a b J.toArray am.toArray n n2 dd ap sl ar (by simp [e1])) ⟨ho,a2,⟨.ref b,H,I,rfl,q0 he⟩⟩
 ·have e1:J ≠ []:=λz=>he ((r.nil_iff).mp z)
  refine HT.cat_tup O Y e1 (λz=>⟨.ref a,H,I,rfl,q1 ((r2.nil_iff).mp z)⟩) (λ_=>?_) (by rw [<- r.length,<- r2.length];exact M);refine⟨.ref s.heap.objs.size,_,I.laid (t':=s.toks) (o:= .tup (xs++ys)) (λc ob q=>rM _ q) (se _) ?_,rfl,q2 _ (I.hok.fresh (se _))⟩;exact⟨by rw [tM];exact M,_,r.append r2,IsTupD.new _ _⟩
def gA(K:rH):R2:=λx y H Q=>∃l b xs zs,x = .ref l/\y = .ref b/\SqL K H l xs/\SqL K H b zs/\xs.length+zs.length<=sizeLine/\∀p,H p=none->Q (.ref p) (upd H p (.lst (xs++zs)))
theorem WJ:OpR X (binaryOp .Add) (gA X.K):=by
 intro pins s σ H x y v u Q I rx ry h;obtain⟨l,b,xs,zs,rfl,rfl,hH,hB,hz,q⟩:=h;cases rx;cases ry;obtain⟨z,r,⟨o,n,e,M,O,Y⟩,z1⟩:=I.list hH;obtain⟨J,r2,⟨o2,n2,e2,d1,d2,d3⟩,z2⟩:=I.list hB;have l1:=r.length;have l2:=r2.length;obtain⟨cls,dct,dt,sl⟩:=o;obtain⟨an,ap,ar,a5⟩:=o2;simp only at M O Y d1 d2 d3;subst M O Y d1 d2 d3;have a6:EP X pins σ Q (.ref s.heap.objs.size) {s with heap:=s.heap.push {cls:= .type "list",data:= .seq (z++J).toArray}}:=
  ⟨.ref _,_,I.lnew (t':=s.toks) (r.append r2) (by rw [tM];omega),rfl,q _ I.fresh⟩
 have ea:z.toArray++J.toArray=(z++J).toArray:=by simp
 refine CP ⟨_,e,rfl⟩ ⟨_,e2,rfl⟩ noFill_list_add seq_list_add PySem.F.slot_list_add PySem.F.entry_list_add (PySem.F.args_list_add_2 _ _)
  (list_addW l b z.toArray J.toArray n n2 none none sl a5 (by rw [rZ,rZ];omega)) ⟨e,e2,?_⟩
 rw [ea];exact a6
end
def kC(scope sc:Scope):Scope:={scope with names:=scope.names.map λp=>if p.2==sO && sc.kind == .function && sc.names.lookup p.1==some .cell then (p.1,Ad)else (p.1,p.2)}
theorem Kh(scope:Scope)(env:Env):relabel scope env=kC scope env.scope:=by
 unfold relabel kC;rfl
structure SX(X:Cx)(sc:Scope)(N T:List Str)(k:Nat):Prop where
 esc:X.env.scope=sc
 eN:X.N=N
 nd:N.Nodup
 calm:X.calm=true
 room:Room k X.A
 fn : ∀x∈T,X.fn x=true\/sc.names.lookup x=some .local
def ZY(sc:Scope)(N:List Str)(i:Nat)(x:Str):Bool:=
 decide (N[i]? = some x) && (decide (sc.names.lookup x=some .local) || decide (sc.names.lookup x=some .cell) || decide (sc.names.lookup x=some .free)) && !(x==("__debug__" : Str)) && !(x==("__classdict__" : Str))
def J9(sc:Scope)(N T:List Str)(i:Nat)(x:Str):Bool:=decide (x∈T) && decide (N[i]? = some x) && (decide (sc.names.lookup x=some .local) || decide (sc.names.lookup x=some .cell))
def xu(sc:Scope)(x:Str):Bool:=decide (sc.names.lookup x=some .globalImplicit) && !(x==("__name__" : Str)) && !(x==("__debug__" : Str))
section
variable{X:Cx}{sc:Scope}{N T:List Str}{k:Nat}{i:Nat}{x:Str}{pos:Pos}
theorem SX.var(h:SX X sc N T k)(c:ZY sc N i x=true):PE X (.Name x pos) (vZ i):=by
 unfold ZY at c;simp only [sr,uo,decide_eq_true_eq,BE]at c;obtain⟨⟨⟨h1,h2⟩,z⟩,I⟩:=c;refine gZ (by rw [h.eN];exact h1) ?_ z I;unfold Vis;rw [h.esc];rcases h2 with(h2 | h2) | h2
 ·exact .inl h2
 ·exact .inr (.inl h2)
 ·exact .inr (.inr h2)
theorem SX.loc(h:SX X sc N T k)(c:J9 sc N T i x=true):X.N[i]? = some x/\L2.Loc X.env.scope x/\(X.fn x=true\/X.env.scope.names.lookup x=some .local):=by
 unfold J9 at c;simp only [sr,uo,decide_eq_true_eq]at c;refine⟨by rw [h.eN];exact c.1.2,?_,?_⟩
 ·unfold L2.Loc;rw [h.esc];exact c.2
 ·rw [h.esc];exact h.fn x c.1.1
theorem SX.ndX(h:SX X sc N T k):X.N.Nodup:=by rw [h.eN];exact h.nd
theorem SX.tgt(h:SX X sc N T k)(i:Nat)(c:J9 sc N T i x=true):PG X (.Name x pos) (xt i):=by
 obtain⟨h1,h2,z⟩:=h.loc c;exact YG h.ndX h1 h2 z
theorem SX.tgts(h:SX X sc N T k){es:List Expr}{is:List Nat}{j:Nat}(g:PGs X es (gs is))(hn:(assignEach es X.env).length=is.length:=by rfl)(z:(assignEach es X.env).findIdx? (·.1)=none:=by rfl):PG X (.Tuple es j pos) (gOf X.K (.tp is)):=
 gX h.calm g hn z
theorem SX.set(h:SX X sc N T k)(i:Nat){e:Expr}{te:TE}{pos':Pos}(c:J9 sc N T i x=true)(he:PE X e te)(z:swapsWith e (some (.Name x pos')) pos.line X.env=pure false:=by rfl):PS X (.Assign [.Name x pos'] e pos) (ZS te (xt i)):=by
 obtain⟨h1,h2,I⟩:=h.loc c;exact gS h.ndX h1 h2 he z I
theorem SX.gl(h:SX X sc N T k)(c:xu sc x=true):Gl X x/\x ≠ "__name__"/\(x==("__debug__" : Str))=false:=by
 unfold xu at c;simp only [sr,decide_eq_true_eq,BE]at c;refine⟨?_,?_,c.2⟩
 ·show X.env.scope.names.lookup x=_
  rw [h.esc];exact c.1.1
 ·intro e;rw [e]at c;simp at c
def Vl(sc scope:Scope)(N:List Str)(fr:List (Str×Nat)):Bool:=
 decide (scope.kind = .function) && decide ((scope.names.map (·.1)).Nodup) && scope.names.all (λp=> !(p.2==sO) || decide (sc.names.lookup p.1=some .cell) || decide (sc.names.lookup p.1=some .free)) &&
 fr.all λp=>decide (scope.names.lookup p.1=some .free) && decide (N[p.2]? = some p.1)
def oU(own:List Str)(scope:Scope)(fr:List (Str×Nat)):Bool:=decide ((own++fr.map (·.1)).Nodup) && own.all (λx=>decide (scope.names.lookup x=some .local) || decide (scope.names.lookup x=some .cell))
theorem SX.compOk(h:SX X sc N T k){scope:Scope}{fr:List (Str×Nat)}(c:Vl sc scope N fr=true):CompOk X scope fr:=by
 unfold Vl at c;simp only [sr,decide_eq_true_eq,sX,uo,BE]at c;obtain⟨⟨⟨I,J⟩,M⟩,c4⟩:=c;refine⟨I,J,λp z O=>?_,λp z=>⟨(c4 p z).1,by rw [h.eN];exact(c4 p z).2⟩⟩;have e:X.env.kindOf p.1=sc.names.lookup p.1:=by show X.env.scope.names.lookup p.1=_;rw [h.esc]
 rw [e];rcases M p z with(q | q) | q
 ·rw [O]at q;exact absurd q ⋯
 ·exact .inl q
 ·exact .inr q
theorem vB(scope sc:Scope)(x:Str):(kC scope sc).names.lookup x=(scope.names.lookup x).map λk=>if (k==sO && sc.kind == .function && sc.names.lookup x==some .cell)then Ad else k:=by
 unfold kC;dsimp only;generalize scope.names=l
 induction l with
 | nil=>rfl
 | cons p r I=>
  obtain⟨n,J⟩:=p;rw [sJ];cases hx:x==n with
  | true=>
   have e:x=n:=by simpa using hx
   subst e;dsimp only;split
   ·rename_i z;rw [ua,ua,beq_self_eq_true];dsimp only [Bs];rw [if_pos z]
   ·rename_i z;rw [ua,ua,beq_self_eq_true];dsimp only [Bs];rw [if_neg z]
  | false=>
   dsimp only;split
   ·rw [ua,ua,hx];exact I
   ·rw [ua,ua,hx];exact I
theorem SX.comp(h:SX X sc N T k){scope:Scope}{own:List Str}{fr:List (Str×Nat)}{fp:List Addr}{s2:Shared}{H2:Hp}(c:oU own scope fr=true) :
 SX (zV X scope (own++fr.map (·.1)) fp s2 H2) (kC scope sc) (own++fr.map (·.1)) own k:=by
 unfold oU at c;simp only [sr,decide_eq_true_eq,sX,uo]at c;refine⟨?_,rfl,c.1,h.calm,h.room,λx z=>?_⟩
 ·show relabel scope X.env=_
  rw [Kh,h.esc]
 ·rcases c.2 x z with q | q
  ·right;rw [vB,q];rfl
  ·left
   show(scope.names.lookup x==some .cell)=true;rw [q];rfl
theorem SX.cq(h:SX X sc N T k){scope:Scope}(own:List Str)(fr:List (Str×Nat))(fp:List Addr)(s2:Shared)(H2:Hp)(c:oU own scope fr=true) :
 SX (zV X scope (own++fr.map (·.1)) fp s2 H2) (kC scope sc) (own++fr.map (·.1)) own k:=h.comp c
end
mutual
def toP:D->PyData
 | .non=> .none
 | .bl b=> .bool b
 | .int i=> .int i
 | .str x=> .str x
 | .tup ds=> .tuple (toPs ds)
 | .lst ds=> .list (toPs ds)
 | .exc _ _=> .none
 | .dic _ _=> .none
 | .dct _ _=> .none
 | .ins _ _ _=> .none
def toPs:List D->List PyData
 | []=>[]
 | d::ds=>toP d::toPs ds
end
theorem okS_exc{c:Str}{n:Option Int}(h:okS (.exc c n)=true):False:=by simp [okS]at h
theorem okS_dic{ks vs:List D}(h:okS (.dic ks vs)=true):False:=by simp [okS]at h
theorem okS_ins{c:Str}{p t:D}(h:okS (.ins c p t)=true):False:=by simp [okS]at h
theorem okS_dct{ks:List (List Int)}{vs:List D}(h:okS (.dct ks vs)=true):False:=by simp [okS]at h
mutual
theorem eqv_toP : ∀x y:D,okS x=true->okS y=true->AU (toP x) (toP y)=eqD x y
 | .non,y,_,h=>by cases y<;>first | exact(okS_exc h).elim | exact(okS_dic h).elim | exact(okS_dct h).elim | exact(okS_ins h).elim | simp [toP,AU,eqD]
 | .bl a,y,_,h=>by cases y<;>first | exact(okS_exc h).elim | exact(okS_dic h).elim | exact(okS_dct h).elim | exact(okS_ins h).elim | simp [toP,AU,eqD]
 | .int a,y,_,h=>by cases y<;>first | exact(okS_exc h).elim | exact(okS_dic h).elim | exact(okS_dct h).elim | exact(okS_ins h).elim | simp [toP,AU,eqD]
 | .str a,y,_,h=>by cases y<;>first | exact(okS_exc h).elim | exact(okS_dic h).elim | exact(okS_dct h).elim | exact(okS_ins h).elim | simp [toP,AU,eqD]
 | .exc c n,y,h,_=>(okS_exc h).elim
 | .dic c n,y,h,_=>(okS_dic h).elim
 | .dct c n,y,h,_=>(okS_dct h).elim
 | .ins c p t,y,h,_=>(okS_ins h).elim
 | .tup xs,y,h1,h2=>by
  cases y with
  | tup ys=>simp only [okS]at h1 h2;simp only [toP,AU,eqD];exact eqvs_toP xs ys h1 h2
  | exc c n=>exact(okS_exc h2).elim
  | dic c n=>exact(okS_dic h2).elim
  | dct c n=>exact(okS_dct h2).elim
  | ins c p t=>exact(okS_ins h2).elim
  | _=>simp [toP,AU,eqD]
 | .lst xs,y,h1,h2=>by
  cases y with
  | lst ys=>simp only [okS]at h1 h2;simp only [toP,AU,eqD];exact eqvs_toP xs ys h1 h2
  | exc c n=>exact(okS_exc h2).elim
  | dic c n=>exact(okS_dic h2).elim
  | dct c n=>exact(okS_dct h2).elim
  | ins c p t=>exact(okS_ins h2).elim
  | _=>simp [toP,AU,eqD]
theorem eqvs_toP : ∀xs ys:List D,okSs xs=true->okSs ys=true->Cb (toPs xs) (toPs ys)=eqDs xs ys
 | [],ys,_,_=>by cases ys<;>simp [toPs,Cb,eqDs]
 | x::xs,ys,h1,h2=>by
  cases ys with
  | nil=>simp [toPs,Cb,eqDs]
  | cons y ys=>
   simp only [okSs,sr]at h1 h2;simp only [toPs,Cb,eqDs];rw [eqv_toP x y h1.1 h2.1,eqvs_toP xs ys h1.2 h2.2]
end
mutual
theorem lay_toP : ∀x:D,okS x=true->(toP x).canLay0=true
 | .non,_=>by simp [toP,AV]
 | .bl a,_=>by simp [toP,AV]
 | .int a,_=>by simp [toP,AV]
 | .str a,h=>by simpa [toP,AV,okS,PyData.strOk]using h
 | .tup xs,h=>by simp only [okS]at h;simp only [toP,AV];exact lays_toP xs h
 | .lst xs,h=>by simp only [okS]at h;simp only [toP,AV];exact lays_toP xs h
 | .exc c n,h=>(okS_exc h).elim
 | .dic c n,h=>(okS_dic h).elim
 | .dct c n,h=>(okS_dct h).elim
 | .ins c p t,h=>(okS_ins h).elim
theorem lays_toP : ∀xs:List D,okSs xs=true->Cn (toPs xs)=true
 | [],_=>by simp [toPs,Cn]
 | x::xs,h=>by
  simp only [okSs,sr]at h;simp only [toPs,Cn];rw [lay_toP x h.1,lays_toP xs h.2];rfl
end
mutual
theorem depth_toP : ∀x:D,(toP x).depth=deep x
 | .non=>by simp [toP,Ag,deep]
 | .bl a=>by simp [toP,Ag,deep]
 | .int a=>by simp [toP,Ag,deep]
 | .str a=>by simp [toP,Ag,deep]
 | .exc c n=>by simp [toP,Ag,deep]
 | .dic c n=>by simp [toP,Ag,deep]
 | .dct c n=>by simp [toP,Ag,deep]
 | .ins c p t=>by simp [toP,Ag,deep]
 | .tup xs=>by simp only [toP,Ag,deep];rw [depths_toP xs]
 | .lst xs=>by simp only [toP,Ag,deep];rw [depths_toP xs]
theorem depths_toP : ∀xs:List D,PyData.depthAll (toPs xs)=deeps xs
 | []=>by simp [toPs,PyData.depthAll,deeps]
 | x::xs=>by simp only [toPs,PyData.depthAll,deeps];rw [depth_toP x,depths_toP xs]
end
theorem xF{d:D}(h:okD d=true):okS d=true:=by
 unfold okD at h;rw [sr]at h;exact h.2
theorem kB{d:D}(h:okD d=true):SeqAt.shaped (toP d)=true:=by
 unfold okD at h;rw [sr,decide_eq_true_eq]at h;unfold SeqAt.shaped;rw [lay_toP d h.2,Bool.true_and,depth_toP];exact decide_eq_true ⋯
section
variable{X:Cx}{pins:List (Addr×Obj)}{σ:St}{H0 H:Hp}{s:Shared}
mutual
theorem reads_of(I:Inv X pins σ H s)(sub:Same H0 H) : ∀{d:D} {v:V} {u:Value},okS d=true->Rep X.K H0 d v->RelV v u->∃as,Reads s.heap u (toP d) as
 | .non,v,u,_,h,r=>by cases (show v = .non from h);cases r;exact⟨_,.none⟩
 | .bl b,v,u,_,h,r=>by cases (show v = .bl b from h);cases r;exact⟨_,.bool b⟩
 | .int i,v,u,_,h,r=>by cases (show v = .int i from h);obtain⟨t,rfl⟩:=r;exact⟨_,.int i t⟩
 | .str x,v,u,_,h,r=>by cases (show v = .str x from h);obtain⟨t,rfl⟩:=r;exact⟨_,.str x t⟩
 | .exc c n,v,u,o,_,_=>(okS_exc o).elim
 | .dic c n,v,u,o,_,_=>(okS_dic o).elim
 | .dct c n,v,u,o,_,_=>(okS_dct o).elim
 | .ins c p t,v,u,o,_,_=>(okS_ins o).elim
 | .tup ds,v,u,o,h,r=>by
  obtain⟨a,xs,rfl,h1,h2⟩:=(show ∃a xs,v = .ref a/\SqT X.K H0 a xs/\Reps X.K H0 ds xs from h);cases r;simp only [okS]at o;obtain⟨Y,z,⟨ob,J,M,n,hd⟩,hz⟩:=I.tuple (sameT sub h1);obtain⟨as,O⟩:=readsAll_of I sub o h2 z;exact⟨as,.tuple J M hd (by simpa using O)⟩
 | .lst ds,v,u,o,h,r=>by
  obtain⟨a,xs,rfl,h1,h2⟩:=(show ∃a xs,v = .ref a/\SqL X.K H0 a xs/\Reps X.K H0 ds xs from h);cases r;simp only [okS]at o;obtain⟨Y,z,p,hz⟩:=I.list (sub.seq h1);obtain⟨ob,J,M,n,hd⟩:=p.isList;obtain⟨as,O⟩:=readsAll_of I sub o h2 z;exact⟨_,.list J M hd (by simpa using O)⟩
theorem readsAll_of(I:Inv X pins σ H s)(sub:Same H0 H) : ∀{ds:List D} {xs:List V} {us:List Value},okSs ds=true->Reps X.K H0 ds xs->Vals xs us->∃as,ReadsAll s.heap us (toPs ds) as
 | [],xs,us,_,h,r=>by rw [h.inv_nil]at r;cases r;exact⟨_,.nil⟩
 | d::ds,xs,us,o,h,r=>by
  obtain⟨x,t,e,h1,h2⟩:=h.inv_cons;subst e;simp only [okSs,sr]at o;cases r with
  | cons r1 r2=>
   obtain⟨as,z⟩:=reads_of I sub o.1 h1 r1;obtain⟨bs,J⟩:=readsAll_of I sub o.2 h2 r2;exact⟨_,.cons z J⟩
end
end
def oY(K:rH):R2:=λx y H Q=>∃H0 dx z,Same H0 H/\Rep K H0 dx x/\Rep K H0 z y/\okD dx=true/\okD z=true/\Q (.bl (eqD dx z)) H
def oW(K:rH):R2:=λx y H Q=>∃H0 dx z,Same H0 H/\Rep K H0 dx x/\Rep K H0 z y/\okD dx=true/\okD z=true/\Q (.bl (!eqD dx z)) H
theorem bj{X:Cx}(M:X.A.units+64<cLine):OpR X (compareOp .Eq) (oY X.K):=by
 intro pins s σ H x y v u Q I O Y h;obtain⟨H0,dx,dy,sub,r1,r2,z,J,q⟩:=h;obtain⟨as,ra⟩:=reads_of I sub (xF z) r1 O;obtain⟨bs,rb⟩:=reads_of I sub (xF J) r2 Y;exact eq_dataH ra rb (kB z) (kB J) M ⟨.bl _,H,I,by rw [eqv_toP _ _ (xF z) (xF J)];rfl,q⟩
theorem il{X:Cx}(M:X.A.units+64<cLine):OpR X (compareOp .NotEq) (oW X.K):=by
 intro pins s σ H x y v u Q I O Y h;obtain⟨H0,dx,dy,sub,r1,r2,z,J,q⟩:=h;obtain⟨as,ra⟩:=reads_of I sub (xF z) r1 O;obtain⟨bs,rb⟩:=reads_of I sub (xF J) r2 Y;exact ne_dataH ra rb (kB z) (kB J) M ⟨.bl _,H,I,by rw [eqv_toP _ _ (xF z) (xF J)];rfl,q⟩
theorem Yd{K:rH}:Snd K (oY K) dEq:=λH0 H x y dx I d Q s J M z q=>by
 unfold dEq at z;split at z
 ·rename_i h;cases z;exact⟨H0,dx,I,s,J,M,h.1,h.2,q _ H H0 (Ext.refl s) rfl⟩
 ·cases z
theorem cp{K:rH}:Snd K (oW K) dNe:=λH0 H x y dx I d Q s J M z q=>by
 unfold dNe at z;split at z
 ·rename_i h;cases z;exact⟨H0,dx,I,s,J,M,h.1,h.2,q _ H H0 (Ext.refl s) rfl⟩
 ·cases z
theorem SX.u64{X:Cx}{sc:Scope}{N T:List Str}{k:Nat}(h:SX X sc N T k):X.A.units+64<cLine:=by have:=h.room.un;omega
section
variable{X:Cx}{sc:Scope}{N T:List Str}{k:Nat}{a b c:Expr}{pos p:Pos}{fa fb fc:CO D}
theorem qU(ha:PV X a fa)(z:PV X b fb):PV X (.BinOp a .Sub b pos) (zh xw fa fb):=wH ie ck ha z
theorem xC(ha:PV X a fa)(z:PV X b fb):PV X (.BinOp a .FloorDiv b pos) (zh ko fa fb):=wH dG cB ha z
theorem jd(ha:PV X a fa)(z:PV X b fb):PV X (.BinOp a .Mod b pos) (zh jA fa fb):=wH iq cz ha z
theorem Yl(ha:PV X a fa)(z:PV X b fb):PV X (.BinOp a .Pow b pos) (zh eH fa fb):=wH ig cn ha z
theorem cX(h:SX X sc N T k)(ha:PV X a fa)(z:PV X b fb):PV X (.Compare a [.Eq] [b] pos) (zh dEq fa fb):=gK (bj h.u64) Yd ha z (Xl b)
theorem Yp(ha:PV X a fa)(z:PV X b fb):PTD X (.Compare a [.Gt] [b] pos) (sB (zh dGt fa fb)):=Qh nz gg ha z (Xl b)
theorem qA(h:SX X sc N T k)(ha:PV X a fa)(z:PV X b fb):PTD X (.Compare a [.Eq] [b] pos) (sB (zh dEq fa fb)):=Qh (bj h.u64) Yd ha z (Xl b)
theorem yo(h:SX X sc N T k)(ha:PV X a fa)(z:PV X b fb):PTD X (.Compare a [.NotEq] [b] pos) (sB (zh dNe fa fb)):=Qh (il h.u64) cp ha z (Xl b)
theorem kj{K:rH}{H:Hp}{ds:List D}{v:V}(h:Rep K H (.tup ds) v) : ∃a xs,v = .ref a/\SqT K H a xs/\Reps K H ds xs:=h
theorem YU{K:rH}{H:Hp}{ds:List D}{v:V}(h:Rep K H (.lst ds) v) : ∃a xs,v = .ref a/\SqL K H a xs/\Reps K H ds xs:=h
theorem qx{K:rH}{H:Hp}{ds:List D}{a:Addr}{xs:List V}(h1:SqT K H a xs)(h2:Reps K H ds xs):Rep K H (.tup ds) (.ref a):=⟨a,xs,rfl,h1,h2⟩
theorem k6{K:rH}{H:Hp}{ds:List D}{a:Addr}{xs:List V}(h1:SqL K H a xs)(h2:Reps K H ds xs):Rep K H (.lst ds) (.ref a):=⟨a,xs,rfl,h1,h2⟩
theorem cC{K:rH}:Snd K (λx y H Q=>rI0 (λi j=> .int (i+j)) x y H Q\/aQ K x y H Q) j4:=λH0 H x y dx dy d Q s J M I q=>by
 cases dx<;>cases dy<;>simp [j4]at I
 ·subst I;exact .inl ⟨_,_,jm J,jm M,q _ H H0 (Ext.refl s) rfl⟩
 ·rename_i ds es
  obtain⟨hl,rfl⟩:=I;obtain⟨a,xs,rfl,h1,h2⟩:=kj J;obtain⟨b,ys,rfl,O,z⟩:=kj M;refine .inr ⟨a,b,xs,ys,rfl,rfl,sameT s h1,sameT s O,xi (by rw [h2.length,z.length];exact hl),λe=>?_,λe=>?_,λp Y=>?_⟩
  ·have e2:ds=[]:=by
    have:=h2.length;rw [e]at this;exact sS this.symm
   subst e2;exact q _ H H0 (Ext.refl s) (qx O z)
  ·have e2:es=[]:=by
    have:=z.length;rw [e]at this;exact sS this.symm
   subst e2;exact q _ H H0 (Ext.refl s) (by rw [Bj];exact qx h1 h2)
  ·exact q _ _ _ (Ext.alloc s Y _) (qx (SqT.of zw) ((h2.append z).mono (zR (z6 s Y) _)))
theorem jR(ha:PV X a fa)(z:PV X b fb):PV X (.BinOp a .Add b pos) (zh j4 fa fb):=wH (op_add.or WI) cC ha z
end
theorem w9{P:Program}{w:World}{A:Around}(M:A.handled=none)(k:Sk)(I z:Addr)(O:z≠I)(J:Array Value) :
 Walks P w A I [I,z] [I] J.size (λi v=>J[i]? = some v) (λi h=>ItAt k h I z i/\SqAt k h z J):=by
 cases k
 ·exact Walks.list M I z O J
 ·exact Walks.tuple M I z O J
theorem vo(zs:List Int) : ∀n,preSum (λi=>zs.getD i 0) n=(zs.take n).sum
 | 0=>by simp [preSum]
 | n+1=>by
  have z:=vo zs n;simp only [preSum,z];by_cases h:n<zs.length
  ·rw [List.take_succ_eq_append_getElem h,List.sum_append]
   simp [h]
  ·rw [AW ⋯,AW ⋯]
   simp [h]
section
variable{X:Cx}{pins:List (Addr×Obj)}{σ:St}{H:Hp}{s:Shared}
theorem Vp(hc:X.calm=true):yG X (.builtin "sum") (λxs H Q=>∃p k ys zs,xs=[.ref p]/\SqK k X.K H p ys/\ys=(zs:List Int).map V.int/\Q (.int zs.sum) H):=by
 intro pins s σ H vs us Q I rv h;obtain⟨p,k,ys,zs,rfl,hq,rfl,q⟩:=h;obtain⟨u,rfl,J⟩:=kY rv;cases J;obtain⟨z,r,M,hz⟩:=I.sq hq;have lt:=M.lt;have O:=r.length;rw [sC]at O;refine call_sum_walkG (JB M ⟨_,[_,p],[_],z.toArray.size,_,_,λi=>zs.getD i 0,rfl,w9 (A:=X.A.in1) (I.ok.hd hc) k _ p (sF lt) z.toArray,⟨JC k _ p,M.at λo e=>rM _ e⟩,?_,?_,?_⟩)
 ·intro b Y
  rw [uq];simp only [si,tq,or_false]at Y;rcases Y with rfl | rfl
  ·exact uC _
  ·exact tJ lt
 ·intro i v hv
  have a0:z[i]? = some v:=by simpa using hv
  have hi:i<zs.length:=by rw [O];exact(rP.mp a0).1
  obtain⟨u,e1,J⟩:=r.get (i:=i) (x:= .int zs[i]) (by simp [hi]);rw [a0]at e1;cases e1;obtain⟨t,rfl⟩:=J;exact⟨t,by simp [hi]⟩
 ·intro h' tk t' hk
  have e:preSum (λi=>zs.getD i 0) z.toArray.size=zs.sum:=by
   rw [vo,AW (by rw [rZ,O];exact se _)]
  refine⟨.int zs.sum,H,I.kept (t':=tk) (λb u e=>hk b u ?_ (rM _ e)),⟨t',by rw [e]⟩,q⟩;simp only [si,tq,or_false];exact sF (sg e)
def fU:V->Option Bool
 | .non=>some false
 | .bl b=>some b
 | .int i=>some (i != 0)
 | _=>none
theorem QR{P:Program}{w:World}{A:Around}{E:Value->Shared->Prop}{s:Shared}{Q:Bool->Shared->Prop}{x:V}{u:Value}{b:Bool}(r:RelV x u)(e:fU x=some b)(q:Q b s):wpAny (model P w) A (truthy u) Q E s:=by
 cases x with
 | non=>cases r;cases e;exact λ_ _ _=>q
 | bl c=>cases r;cases e;exact uW q
 | int i=>obtain⟨t,rfl⟩:=r;cases e;exact PyProof.Rows.truthy_int q
 | _=>cases e
def X6:List V->Option (List Bool)
 | []=>some []
 | x::r=>(fU x).bind λb=>(X6 r).map λl=>b::l
theorem y8 : ∀{xs:List V} {bs:List Bool},X6 xs=some bs->bs.length=xs.length/\∀(i:Nat) x,xs[i]? = some x->fU x=some (bs.getD i false)
 | [],bs,h=>by cases h;exact⟨rfl,λi x e=>by simp at e⟩
 | y::xs,bs,h=>by
  obtain⟨b,e1,h⟩:=bind_some h;obtain⟨l,e2,h⟩:=zt h;subst h;obtain⟨h1,h2⟩:=y8 e2;refine⟨by simp [h1],λi x e=>?_⟩;cases i with
  | zero=>simp at e;subst e;simpa using e1
  | succ i=>simpa using h2 i x (by simpa using e)
theorem VD(bs:List Bool):(rO bs.length).all (λi=>bs.getD i false)=bs.all id:=by
 rw [BO];simp only [sX,rV,id_eq];constructor
 ·intro h b z
  obtain⟨i,hi,e⟩:=BV.mp z;have:=h i hi;rw [rT,rN hi]at this;rw [<- e];exact this
 ·intro h i hi
  rw [rT,rN hi];exact h _ (Cz hi)
theorem VC(bs:List Bool):(rO bs.length).any (λi=>bs.getD i false)=bs.any id:=by
 rw [BO];simp only [List.any_eq_true,rV,id_eq];constructor
 ·rintro⟨i,hi,h⟩
  rw [rT,rN hi]at h;exact⟨_,Cz hi,h⟩
 ·rintro⟨b,z,h⟩
  obtain⟨i,hi,e⟩:=BV.mp z;refine⟨i,hi,?_⟩;rw [rT,rN hi,Option.getD_some,e];exact h
theorem Vt(hc:X.calm=true):yG X (.builtin "all") (λxs H Q=>∃p k ys bs,xs=[.ref p]/\SqK k X.K H p ys/\X6 ys=some bs/\Q (.bl (bs.all id)) H):=by
 intro pins s σ H vs us Q I rv h;obtain⟨p,k,ys,bs,rfl,hq,ht,q⟩:=h;obtain⟨u,rfl,J⟩:=kY rv;cases J;obtain⟨z,r,M,hz⟩:=I.sq hq;have lt:=M.lt;have O:=r.length;obtain⟨a4,a5⟩:=y8 ht;refine call_all_walk (JB M ⟨_,[_,p],[_],z.toArray.size,_,_,λi=>bs.getD i false,rfl,w9 (A:=X.A.in1) (I.ok.hd hc) k _ p (sF lt) z.toArray,⟨JC k _ p,M.at λo e=>rM _ e⟩,?_,?_⟩)
 ·intro i v s' Q' E' hv hQ
  have Y:z[i]? = some v:=by simpa using hv
  have hi:i<ys.length:=by rw [O];exact(rP.mp Y).1
  obtain⟨u,e1,J⟩:=r.get (i:=i) (x:=ys[i]) (by simp [hi]);rw [Y]at e1;cases e1;exact QR J (a5 i ys[i] (by simp [hi])) hQ
 ·intro h' tk hk
  have e:(rO z.toArray.size).all (λi=>bs.getD i false)=bs.all id:=by
   rw [rZ,<- O,<- a4];exact VD bs
  refine⟨.bl (bs.all id),H,I.kept (t':=tk) (λb u e=>hk b u ?_ (rM _ e)),by rw [e];rfl,q⟩;simp only [si,tq,or_false];exact sF (sg e)
theorem Vs(hc:X.calm=true):yG X (.builtin "any") (λxs H Q=>∃p k ys bs,xs=[.ref p]/\SqK k X.K H p ys/\X6 ys=some bs/\Q (.bl (bs.any id)) H):=by
 intro pins s σ H vs us Q I rv h;obtain⟨p,k,ys,bs,rfl,hq,ht,q⟩:=h;obtain⟨u,rfl,J⟩:=kY rv;cases J;obtain⟨z,r,M,hz⟩:=I.sq hq;have lt:=M.lt;have O:=r.length;obtain⟨a4,a5⟩:=y8 ht;refine call_any_walk (JB M ⟨_,[_,p],[_],z.toArray.size,_,_,λi=>bs.getD i false,rfl,w9 (A:=X.A.in1) (I.ok.hd hc) k _ p (sF lt) z.toArray,⟨JC k _ p,M.at λo e=>rM _ e⟩,?_,?_⟩)
 ·intro i v s' Q' E' hv hQ
  have Y:z[i]? = some v:=by simpa using hv
  have hi:i<ys.length:=by rw [O];exact(rP.mp Y).1
  obtain⟨u,e1,J⟩:=r.get (i:=i) (x:=ys[i]) (by simp [hi]);rw [Y]at e1;cases e1;exact QR J (a5 i ys[i] (by simp [hi])) hQ
 ·intro h' tk hk
  have e:(rO z.toArray.size).any (λi=>bs.getD i false)=bs.any id:=by
   rw [rZ,<- O,<- a4];exact VC bs
  refine⟨.bl (bs.any id),H,I.kept (t':=tk) (λb u e=>hk b u ?_ (rM _ e)),by rw [e];rfl,q⟩;simp only [si,tq,or_false];exact sF (sg e)
end
section
variable{X:Cx}{sc:Scope}{N T:List Str}{k:Nat}{e a b c:Expr}{pos p p2:Pos}{f g:CO D}{fq:CO (Sk×List D)}
theorem gd{K:rH}{H:Hp}{k:Sk}{a:Addr}{xs:List V}(h:SqK k K H a xs):SqL K H a xs\/SqT K H a xs:=by
 cases k
 ·exact .inl h
 ·exact .inr h
theorem x9(h:SX X sc N T k)(c:xu sc "len" = true)(z:X.mg "len" = none)(J:PQ X e fq)(I:starEach [e] X.env=[(false,eval e X.env)]:=by rfl):PV X (.Call (.Name "len" p) [e] [] pos) (wg fq):=
 jO (xh JS (h.gl c).1 z PySem.boot_len (zK J jw I) ⋯ ⋯ I rfl) λσ H Q M=>by
  obtain⟨H0,γ,d,rc,O,q⟩:=M;obtain⟨⟨Y,ds⟩,e1,e2⟩:=zt O;subst e2;refine⟨H0,γ,Y,ds,rc,e1,λa xs H' H0' ext h1 h2 r=>⟨a,xs,rfl,gd h1,?_⟩⟩;exact q _ H' H0' ext (show V.int xs.length = .int ds.length by rw [r.length])
theorem jG(h:SX X sc N T k)(c:xu sc "tuple" = true)(z:X.mg "tuple" = none)(O:PQ X e fq)(I:starEach [e] X.env=[(false,eval e X.env)]:=by rfl):PV X (.Call (.Name "tuple" p) [e] [] pos) (zI fq):=
 jO (vw ZH (h.gl c).1 z PyProof.Rows.boot_tuple (zK O jw I) ⋯ ⋯ I rfl) λσ H Q Y=>by
  obtain⟨H0,γ,d,rc,ef,q⟩:=Y;obtain⟨⟨J,ds⟩,e1,e2⟩:=zt ef;subst e2;refine⟨H0,γ,J,ds,rc,e1,λa xs H' H0' ext h1 h2 r=>⟨a,xs,rfl,?_⟩⟩;cases J with
  | L=>exact .inl ⟨h1,λl M=>q _ _ _ (ext.trans (Ext.alloc ext.sub M _)) (qx (SqT.of zw) (r.mono (zR (z6 ext.sub M) _)))⟩
  | T=>exact .inr ⟨h1,q _ H' H0' ext (qx (h2 rfl) r)⟩
theorem kG{H H':Hp}(s:Same H H'){a:Addr}(h:H' a=none):H a=none:=by
 cases z:H a with
 | none=>rfl
 | some o=>rw [s a o z]at h;cases h
theorem Qm(h:SX X sc N T k)(c:xu sc "list" = true)(z:X.mg "list" = none)(M:PQ X e fq)(J:starEach [e] X.env=[(false,eval e X.env)]:=by rfl):PO X (.Call (.Name "list" p) [e] [] pos) (ql fq):=
 jO (vw JQ (h.gl c).1 z Bm (zK M jw J) ⋯ ⋯ J rfl) λσ H Q O=>by
  obtain⟨H0,γ,d,rc,Y,q⟩:=O;obtain⟨⟨kk,ds⟩,e1,e2⟩:=zt Y;subst e2;refine⟨H0,γ,kk,ds,rc,e1,λa xs H' H0' ext h1 h2 r=>⟨a,xs,rfl,gd h1,λl I=>?_⟩⟩;exact q l xs _ H0' (ext.trans (Ext.hide ext.sub I _)) (kG ext.s1 I) (z6 ext.sub I) zw r
theorem Z0 : ∀{ds:List D} {n:Int},VJ ds=some n->∃zs:List Int,ds=zs.map D.int/\n=zs.sum
 | [],n,h=>by cases h;exact⟨[],rfl,rfl⟩
 | d::ds,n,h=>by
  cases d with
  | int i=>
   obtain⟨s,e,h⟩:=zt h;obtain⟨zs,rfl,rfl⟩:=Z0 e;exact⟨i::zs,rfl,by rw [<- h];simp⟩
  | _=>cases h
theorem Jk{K:rH}{H:Hp} : ∀{zs:List Int} {xs:List V},Reps K H (zs.map D.int) xs->xs=zs.map V.int
 | [],xs,h=>h.inv_nil
 | z::zs,xs,h=>by
  obtain⟨x,r,e,h1,h2⟩:=Reps.inv_cons h;rw [e,jm h1,Jk h2];rfl
theorem aU(h:SX X sc N T k)(c:xu sc "sum" = true)(z:X.mg "sum" = none)(Y:PQ X e fq)(M:starEach [e] X.env=[(false,eval e X.env)]:=by rfl):PV X (.Call (.Name "sum" p) [e] [] pos) (cG fq):=
 jO (xh (Vp h.calm) (h.gl c).1 z PyProof.Rows.boot_sum (zK Y jw M) ⋯ ⋯ M rfl) λσ H Q hZ=>by
  obtain⟨H0,γ,d,rc,I,q⟩:=hZ;obtain⟨⟨O,ds⟩,e1,I⟩:=bind_some I;obtain⟨n,e2,e3⟩:=zt I;subst e3;obtain⟨zs,J,rfl⟩:=Z0 e2;have J:ds=zs.map D.int:=J;subst J;exact⟨H0,γ,O,_,rc,e1,λa xs H' H0' ext h1 h2 r=>⟨a,O,xs,zs,rfl,h1,Jk r,q _ H' H0' ext rfl⟩⟩
theorem bY{K:rH}{H:Hp}{d:D}{x:V}{b:Bool}(h:Rep K H d x)(e:lS d=some b):fU x=some b:=by
 cases d with
 | non=>cases (show x = .non from h);exact e
 | bl c=>cases (show x = .bl c from h);exact e
 | int i=>cases (show x = .int i from h);exact e
 | _=>cases e
theorem Zc{K:rH}{H:Hp} : ∀{ds:List D} {xs:List V} {bs:List Bool},Reps K H ds xs->y7 ds=some bs->X6 xs=some bs
 | [],xs,bs,h,e=>by rw [h.inv_nil];exact e
 | d::ds,xs,bs,h,e=>by
  obtain⟨x,r,z,h1,h2⟩:=h.inv_cons;obtain⟨b,e1,e⟩:=bind_some e;obtain⟨l,e2,e⟩:=zt e;subst z e;show(fU x).bind _=_;rw [bY h1 e1];show((X6 r).map λl=>b::l)=_;rw [Zc h2 e2];rfl
theorem aY(h:SX X sc N T k)(c:xu sc "all" = true)(z:X.mg "all" = none)(O:PQ X e fq)(J:starEach [e] X.env=[(false,eval e X.env)]:=by rfl):PV X (.Call (.Name "all" p) [e] [] pos) (Wi fq):=
 jO (xh (Vt h.calm) (h.gl c).1 z PyProof.Rows.boot_all (zK O jw J) ⋯ ⋯ J rfl) λσ H Q Y=>by
  obtain⟨H0,γ,d,rc,I,q⟩:=Y;obtain⟨⟨M,ds⟩,e1,I⟩:=bind_some I;obtain⟨bs,e2,e3⟩:=zt I;subst e3;exact⟨H0,γ,M,_,rc,e1,λa xs H' H0' ext h1 h2 r=>⟨a,M,xs,bs,rfl,h1,Zc r e2,q _ H' H0' ext rfl⟩⟩
theorem gM(h:SX X sc N T k)(c:xu sc "any" = true)(z:X.mg "any" = none)(O:PQ X e fq)(J:starEach [e] X.env=[(false,eval e X.env)]:=by rfl):PV X (.Call (.Name "any" p) [e] [] pos) (lT fq):=
 jO (xh (Vs h.calm) (h.gl c).1 z PyProof.Rows.boot_any (zK O jw J) ⋯ ⋯ J rfl) λσ H Q Y=>by
  obtain⟨H0,γ,d,rc,I,q⟩:=Y;obtain⟨⟨M,ds⟩,e1,I⟩:=bind_some I;obtain⟨bs,e2,e3⟩:=zt I;subst e3;exact⟨H0,γ,M,_,rc,e1,λa xs H' H0' ext h1 h2 r=>⟨a,M,xs,bs,rfl,h1,Zc r e2,q _ H' H0' ext rfl⟩⟩
theorem cW(h:SX X sc N T k)(c:xu sc "int" = true)(z:X.mg "int" = none)(M:PV X e f)(J:starEach [e] X.env=[(false,eval e X.env)]:=by rfl):PV X (.Call (.Name "int" p) [e] [] pos) (Wf f):=
 jO (vw Vr (h.gl c).1 z PyProof.Rows.boot_int (zK M jw J) ⋯ ⋯ J rfl) λσ H Q O=>by
  obtain⟨H0,γ,d,rc,I,q⟩:=O;obtain⟨d1,e1,I⟩:=bind_some I;refine⟨H0,γ,d1,rc,e1,λv H' H0' ext r=>?_⟩;cases d1 with
  | int i=>cases I;exact .inl ⟨i,by rw [jm r],q _ H' H0' ext rfl⟩
  | bl b=>cases I;exact .inr ⟨b,by rw [show v = .bl b from r],q _ H' H0' ext rfl⟩
  | _=>cases I
end
end DL
namespace DL
open PySem PySem.Spec PySem.Calls PyProof.Rows PySem.W PySem.Builtin PySem.Builtin.ObjectAttr PySem.Builtin.Getset_descriptor
section
variable{prog:Program}{w:World}{A:Around}{E:Value->Shared->Prop}{s:Shared}{K:Frag}{x C:Addr}
theorem yT{M:Model}{h:Heap}{a C:Addr}(x:XObj h a C):Looks M h (typeOf (.ref a)) (.ref C):=by
 obtain⟨o,vs,z,I,hd⟩:=x;exact I ▸ (Looks.ld z).andThen .now
structure XGet(K:Frag)(C:Addr):Prop where
 ga:findIn K (.ref C) "__getattribute__" = some (some (.builtin "BaseException.__getattribute__"))
 gn:findIn K (.ref C) "__getattr__" = some none
 ca:findIn K (.ref C) "__class__" = some (some (.builtin "object.__class__"))
 gt:specialIn K (.builtin "object.__class__") "__get__" = some (some (.builtin "getset_descriptor.__get__"))
 tk:takesIn K (.builtin "object.__class__")=some true
 mo:mroIn K C (.type "object")=some true
 mb:mroIn K C (.type "BaseException")=some true
theorem W9{M:Model}{h:Heap}(X:K.In h)(G:XGet K C):Looks M h (find (.ref x) (.ref C) "__class__") (.bind (.builtin "getset_descriptor.__get__") (.builtin "object.__class__")):=by
 have z:=looks_findIn (M:=M) X G.ca;have I:Looks M h (getOf (some (.builtin "object.__class__"))) (some (.builtin "getset_descriptor.__get__")):=looks_specialIn X G.gt;have J:=looks_takesIn (M:=M) X G.tk;have O:Looks M h (dataDescriptor? (some (.builtin "object.__class__")) (some (.builtin "getset_descriptor.__get__"))) (some (.builtin "getset_descriptor.__get__",.builtin "object.__class__")):=J.andThen .now;exact z.andThen (I.andThen (O.andThen (Looks.tag .now)))
theorem aa{tp:Value}{R:Result->Shared->Prop}(X:K.In s.heap)(I:XObj s.heap x C)(G:XGet K C)(h:R (.ok (.ret (.ref C))) s) :
 codeAny (model prog w) A (.call (.builtin "getset_descriptor.__get__") ⟨[.builtin "object.__class__",.ref x,tp],[]⟩) R s:=by
 obtain⟨h0,g0,z,J,O⟩:=s;have Y:=yT (M:=model prog w) I;have L1:=looks_mroIn (M:=model prog w) X G.mo;refine codeAny_call_builtin KF.slot_gs.plain KF.entry_gs (KF.slot_gs.check _ _ _ _ _ _ _ _ KF.type_class (KF.args_gs _ _ _) ?_);unfold Builtin.«getset_descriptor.__get__» descrGet;rw [dga_obj];refine rK (rS ?_);unfold descrGetter descrCheckInstance descrNameAndClass isInstance;simp only [KF.owner_class]
 repeat lk
 refine And.intro (Code.quiet_builtin _ ⋯) (codeAny_builtin KF.entry_class ?_);unfold Builtin.«object.__class__» shownTypeOf
 repeat lk
 exact h
theorem Vb{z:Value}{Q:Unit->Shared->Prop}{M:Model}(X:K.In s.heap)(I:XObj s.heap x C)(G:XGet K C)(J:Q () s):wpAny M A (checkBuiltinCall "BaseException.__getattribute__" ⟨[.ref x,z],[]⟩) Q E s:=by
 obtain⟨h0,g0,d0,t0,o0⟩:=s;have O:=yT (M:=M) I;have Y:=looks_mroIn (M:=M) X G.mb;have hk:builtinKind "BaseException.__getattribute__" = some .slot:=by decide +kernel
 have a1:splitId "BaseException.__getattribute__" = some ("BaseException","__getattribute__"):=by decide +kernel
 have ha:=PySem.F.args_bexc_ga (.ref x) z;simp only [checkBuiltinCall,hk,a1];refine rK (show wpAny _ _ (isInstance (.ref x) (.type "BaseException")) _ _ _ from ?_);refine(O.andThen Y).at ?_;rw [if_neg ⋯];unfold argsOk at ha;cases hs:Manifest.signature? "BaseException.__getattribute__" with
 | none=>exact rS J
 | some a5=>
  rw [hs]at ha;exact wpAny_of_eq ha J
theorem Va{Q:Option Value->Shared->Prop}(X:K.In s.heap)(I:XObj s.heap x C)(G:XGet K C)(h:Q (some (.ref C)) {s with toks:=s.toks+1}):wpAny (model prog w) A (getAttr? (.ref x) "__class__") Q E s:=by
 obtain⟨h0,g0,z,J,O⟩:=s;have Y:=yT (M:=model prog w) I;have L1:=looks_findIn (M:=model prog w) X G.ga;have L2:=looks_findIn (M:=model prog w) X G.gn;have L3:=W9 (M:=model prog w) (x:=x) X G;have B:=PySem.F.attr_ValueError.ga.bind (.ref x);unfold getAttr? getAttrBy? getAttrBy;refine rK (wpAny_mkText (rK (Bo (uD (rK (Y.at (rK (L1.at ?_))))))));show wpAny _ _ (getAttrByItsOwn _ _ _ _ _ _) _ _ _;unfold getAttrByItsOwn;refine rK (L2.at ?_);refine rK (Bo (uD ?_));show wpAny _ _ (boundAndCalled (.builtin "BaseException.__getattribute__") (.ref x) _) _ _ _;unfold boundAndCalled;refine rK (wpAny_of_eq B ?_);refine wpAny_call (codeAny_call_builtin PySem.F.attr_ValueError.ga.plain PySem.F.entry_bexc_ga (Vb (s:=⟨h0,g0,z,J+1,O⟩) X I G ?_));refine rK (rS ?_);refine rK (rS ?_);refine rK (Y.at (rK (L3.at ?_)));show wpAny _ _ (bindTo _ _ _ _) _ _ _;unfold bindTo;refine rK (uD (wpAny_call (aa (s:=⟨h0,g0,z,J+1,O⟩) X I G ?_)));refine rS ?_;exact rS (rS h)
theorem bN(h:bQ K C=true):XGet K C:=by
 unfold bQ at h;simp only [sr,beq_iff_eq]at h;exact⟨h.1.1.1.1.1.1.1.1.2,h.1.1.1.1.1.1.1.2,h.1.1.1.1.1.1.2,h.1.1.1.2,h.1.1.2,h.1.1.1.1.1.2,h.1.1.1.1.2⟩
theorem W1(G:XGet K C)(O:(clsIn K C).isSome=true):KitX K (.ref x) (.ref C) (λh=>XObj h x C) where
 ty:=λ_ _ _ I=>yT I
 it:=λ_ _ X _=>by
  obtain⟨Y,J⟩:=Aa.mp O;unfold clsIn at J;split at J
  ·rename_i c' d' a0 a1 M
   intro A' Q' E' s' k q;unfold isType loadHead;exact rK (wpAny_loadPart (k _ _ (X _ _ M)) (rS q))
  ·cases J
 ne:=λh tp dd a7 n sl X a2=>by
  obtain⟨Y,J⟩:=Aa.mp O;refine Bool.eq_false_iff.mpr λq=>?_;have e:C=tp:=sN.inj (beq_iff_eq.mp q);subst e;unfold clsIn at J;split at J
  ·rename_i c' d' a0 a1 M
   have z:=(X _ _ M).symm.trans a2;cases z
  ·cases J
 ca:=λX I k=>Va X I G k
theorem bO(h:bQ K C=true):(clsIn K C).isSome=true:=by
 unfold bQ at h;simp only [sr]at h;have:=h.1.2;cases q:clsIn K C with
 | none=>rw [q]at this;cases this
 | some z=>rfl
end
end DL
namespace DL
open PySem PySem.Spec PyProof.Rows L2
section
variable{X:Cx}{sc:Scope}{N T:List Str}{k:Nat}{e a b c:Expr}{pos p p2:Pos}{f g:CO D}{fq:CO (Sk×List D)}
theorem wN{n:Nat}{i:Int}{j:Nat}(h:ixD n i=some j):ixN n i=some j:=by
 unfold ixD at h;unfold ixN;split at h
 ·rename_i h1;rw [if_pos h1.1,if_pos h1.2];exact h
 ·split at h
  ·rename_i h1 h2;rw [if_neg ⋯,if_pos ⋯];exact h
  ·cases h
theorem zO(ha:PQ X a fq)(Y:PV X b g)(hs:ZL b:=by intro _ _;rfl):PV X (.Subscript a b pos) (sIx fq g):=
 jO (dw (ix_list.or iI) ha Y hs) λσ H Q hZ=>by
  obtain⟨H0,γ,d,rc,z,q⟩:=hZ;obtain⟨⟨J,ds⟩,e1,z⟩:=bind_some z;obtain⟨i,e2,z⟩:=bind_some z;obtain⟨di,e3,e2⟩:=bind_some e2;obtain⟨j,e4,z⟩:=bind_some z;refine⟨H0,γ,J,ds,rc,e1,λp xs H' H0' ext h1 h2 r=>⟨H0',γ,di,rc.ext ext,e3,λv2 H2 a5 I r2=>?_⟩⟩;rw [jy e2]at r2;obtain⟨x,hx,rx⟩:=r.get z;have M:atI xs i=some x:=by
   unfold atI;rw [r.length,wN e4];exact hx
  have O:=q x H2 a5 (ext.trans I) (rx.mono I.s0);cases J with
  | L=>exact .inl ⟨p,xs,i,x,rfl,jm r2,I.s1.seq h1,M,O⟩
  | T=>exact .inr ⟨p,xs,i,x,rfl,jm r2,sameT I.s1 h1,M,O⟩
theorem ye{P:Program}{w:World}{A:Around}{E:Value->Shared->Prop}{s:Shared}{t sl:Addr}{z:Array Value}{J M:Value}{lo hi:Option Int}{Q:Value->Shared->Prop}(I:IsTup s.heap t z)(O:s.heap.IsSliceOf sl J M .none)(pl:IsPart J lo)(Y:IsPart M hi)
 (hw:HT.sIx z.size 0 lo=0/\HT.sIx z.size z.size hi=z.size) (h:Q (.ref t) s):wpAny (model P w) A (getItem (.ref t) (.ref sl)) Q E s:=by
 obtain⟨os,a0,a1,a4⟩:=id O;have a2:s.TypeIs (.ref sl) "slice":=⟨os,a0,a1⟩;unfold getItem
 try with_reducible refine uD ?_
 first | refine rK (rS ?_) | skip
 refine rK (wpAny_sequenceKey I.typeIs ⋯ ?_);refine rK (uv (name:=uB "__getitem__") I.typeIs uj
  (uA uj I.typeIs entry_tuple_getitem ?_ (args_tuple_getitem _ _)))
 show wpAny _ _ (Builtin.Tuple.tupleItemsOf (.ref t) >>= _) _ _ s;refine rK (BP I ?_);refine rK (CN a2 ?_);rw [if_pos ⋯];refine rK (HT.sliceApplied_gen O pl Y ?_);have a3:(((HT.sIx z.size 0 lo:Nat):Int)==0 && (1:Int)==1 && (HT.sIx z.size z.size hi - HT.sIx z.size 0 lo)==z.size)=true:=by
  rw [hw.1,hw.2];simp
 show wpAny _ _ (if (((HT.sIx z.size 0 lo:Nat):Int)==0 && (1:Int)==1 && (HT.sIx z.size z.size hi - HT.sIx z.size 0 lo)==z.size)=true then _ else _) _ _ s;rw [if_pos a3];refine rK (m:=An _) ?_;unfold An;refine rK (CN I.typeIs (rS ?_));rw [if_pos ⋯];exact rK (CJ (rS ⟨_,rfl,rS h⟩))
def nj(K:rH):V->Option Int->Option Int->Hp->VK->Prop:=λx lo hi H Q=>∃a xs,x = .ref a/\SqT K H a xs/\(HT.sIx xs.length 0 lo=0/\HT.sIx xs.length xs.length hi=xs.length->Q (.ref a) H)/\∀p,H p=none->Q (.ref p) (upd H p (.tup (eM xs lo hi)))
theorem cD:SlR X (nj X.K):=by
 intro pins s σ H x v vl vu lo hi sl Q I z J pl M h;obtain⟨a,xs,rfl,O,q1,q2⟩:=h;by_cases hw:HT.sIx xs.length 0 lo=0/\HT.sIx xs.length xs.length hi=xs.length
 ·cases z
  obtain⟨a4,r,Y,hz⟩:=I.tuple O;have a5:a4.toArray.size=xs.length:=by rw [rZ];exact r.length.symm
  refine⟨"tuple",_,uj.lookup,Y.typeIs,?_⟩;exact ye Y J pl M (by rw [a5];exact hw) ⟨.ref a,H,I,rfl,q1 hw⟩
 ·exact gh pins s σ H (.ref a) v vl vu lo hi sl Q I z J pl M ⟨a,xs,rfl,O,hw,q2⟩
theorem yV(n d:Nat)(o:Option Int):KG n d o=HT.sIx n d o:=by cases o<;>rfl
theorem Wk{K:rH}{H:Hp}{ds:List D}{xs:List V}(r:Reps K H ds xs)(lo hi:Option Int):Reps K H (VM ds lo hi) (eM xs lo hi):=by
 unfold VM eM;rw [<- yV,<- yV,r.length];exact(r.drop _).take _
theorem Vk{ds:List D}{lo hi:Option Int}(h:HT.sIx ds.length 0 lo=0/\HT.sIx ds.length ds.length hi=ds.length):VM ds lo hi=ds:=by
 unfold VM;rw [yV,yV,h.1,h.2];simp
def tB(K:rH)(f:CO (Option Int)):TO:=λσ H Q=>∃H0 γ o,RC K H0 H σ γ/\f γ=some o/\∀H' H0',Ext H0 H H0' H'->Q o H'
theorem YI:L2.PO X none (tB X.K fz):=λpins s σ H Q I ⟨H0,γ,o,rc,z,q⟩=>dg pins s σ H Q I (by cases z;exact q H H0 (Ext.refl rc.sub))
theorem YH(h:PV X e f):L2.PO X (some e) (tB X.K (sBd f)):=λpins s σ H Q I ⟨H0,γ,o,rc,z,q⟩=>df h pins s σ H Q I (by
 obtain⟨i,e1,e2⟩:=zt z;obtain⟨d,J,e1⟩:=bind_some e1;subst e2;refine⟨H0,γ,d,rc,J,λv H' H0' x r=>?_⟩;rw [jy e1]at r;exact⟨i,jm r,q H' H0' x⟩)
theorem aV{lo hi:Option Expr}{J M:CO (Option Int)}(ha:PV X a f)(hl:L2.PO X lo (tB X.K J))(hh:L2.PO X hi (tB X.K M)):PV X (.Subscript a (.Slice lo hi none p2) pos) (fy f J M):=
 jO (WC cD ha hl hh) λσ H Q hZ=>by
  obtain⟨H0,γ,d,rc,z,q⟩:=hZ;obtain⟨d1,e1,z⟩:=bind_some z;obtain⟨l,e2,z⟩:=bind_some z;obtain⟨u,e3,z⟩:=bind_some z;refine⟨H0,γ,d1,rc,e1,λv H' H0' x r=>⟨H0',γ,l,rc.ext x,e2,λH2 a5 I=>⟨a5,γ,u,(rc.ext x).ext I,e3,λH3 a7 x3=>?_⟩⟩⟩;have O:=x.trans (I.trans x3);cases d1 with
  | tup ds=>
   cases z;obtain⟨a1,xs,rfl,h1,h2⟩:=kj (r.mono (I.trans x3).s0);have a9:=h2.length;refine⟨a1,xs,rfl,sameT x3.sub h1,λhw=>?_,λp Y=>?_⟩
   ·rw [a9]at hw
    exact q _ H3 a7 O (by rw [Vk hw];exact qx h1 h2)
   ·exact q _ _ _ (O.trans (Ext.alloc x3.sub Y _)) (qx (SqT.of zw) ((Wk h2 _ _).mono (zR (z6 x3.sub Y) _)))
  | _=>cases z
theorem Q5{K:rH}{H:Hp}{ds:List D}{xs:List V}(r:Reps K H ds xs) : ∀n:Nat,Reps K H (rY n ds).flatten (rY n xs).flatten
 | 0=>Reps.nil
 | n+1=>by rw [uH,uH,Ae,Ae];exact r.append (Q5 r n)
theorem Yx{O:CO (Sk×List D)}(ha:PQ X a fq)(Y:PQ X b O):PO X (.BinOp a .Add b pos) (Qc fq O):=
 jO (dm WJ ha Y) λσ H Q hZ=>by
  obtain⟨H0,γ,ds,rc,z,q⟩:=hZ;obtain⟨⟨k1,d1⟩,e1,z⟩:=bind_some z;obtain⟨⟨k2,d2⟩,e2,z⟩:=bind_some z;cases k1<;>cases k2<;>try (simp at z;done)
  dsimp only at z;by_cases J:d1.length+d2.length<=lim
  ·rw [if_pos J]at z;cases z
   refine⟨H0,γ,.L,d1,rc,e1,λa1 xs H1 a6 x1 h1 h2 r1=>⟨a6,γ,.L,d2,rc.ext x1,e2,λa2 ys H2 a8 I h3 h4 r2=>⟨a1,a2,xs,ys,rfl,rfl,I.s1.seq h1,h3,xi (by rw [r1.length,r2.length];exact J),λp M=>?_⟩⟩⟩;exact q p (xs++ys) _ a8 (x1.trans (I.trans (Ext.hide I.sub M _))) (kG (x1.trans I).s1 M) (z6 I.sub M) zw ((r1.mono I.s0).append r2)
  ·rw [if_neg J]at z;cases z
theorem zS{K:rH}{t c:String}{b:Bool}(h:(if ((AF t) == .type c)=true then some true else if PySem.W.kitMeta c=true then (fastBuiltinMro t).map (·.contains (.type c))else none)=some b):uw K (.type t) (.type c)=some b:=h
def tyN:Ty->String
 | .int=>"int"
 | .bool=>"bool"
 | .str=>"str"
 | .tuple=>"tuple"
 | .list=>"list"
def nI:D->String
 | .non=>"NoneType"
 | .bl _=>"bool"
 | .int _=>"int"
 | .str _=>"str"
 | .tup _=>"tuple"
 | .lst _=>"list"
 | .exc _ _=>""
 | .dic _ _=>"dict"
 | .dct _ _=>"dict"
 | .ins _ _ _=>""
theorem JA{K:rH}(T:Ty)(d:D)(I : ∀c n,d ≠ .exc c n)(hi : ∀c p t,d ≠ .ins c p t:=by intro _ _ _ z;exact nomatch z):uw K (.type (nI d)) (.type (tyN T))=some (Y0 T d):=by
 cases d with
 | non=>
  cases T with
  | int=>exact zS (t:="NoneType") (c:="int") (b:=false) ⋯
  | bool=>exact zS (t:="NoneType") (c:="bool") (b:=false) ⋯
  | str=>exact zS (t:="NoneType") (c:="str") (b:=false) ⋯
  | tuple=>exact zS (t:="NoneType") (c:="tuple") (b:=false) ⋯
  | list=>exact zS (t:="NoneType") (c:="list") (b:=false) ⋯
 | bl y=>
  cases T with
  | int=>exact zS (t:="bool") (c:="int") (b:=true) ⋯
  | bool=>exact zS (t:="bool") (c:="bool") (b:=true) ⋯
  | str=>exact zS (t:="bool") (c:="str") (b:=false) ⋯
  | tuple=>exact zS (t:="bool") (c:="tuple") (b:=false) ⋯
  | list=>exact zS (t:="bool") (c:="list") (b:=false) ⋯
 | int y=>
  cases T with
  | int=>exact zS (t:="int") (c:="int") (b:=true) ⋯
  | bool=>exact zS (t:="int") (c:="bool") (b:=false) ⋯
  | str=>exact zS (t:="int") (c:="str") (b:=false) ⋯
  | tuple=>exact zS (t:="int") (c:="tuple") (b:=false) ⋯
  | list=>exact zS (t:="int") (c:="list") (b:=false) ⋯
 | str y=>
  cases T with
  | int=>exact zS (t:="str") (c:="int") (b:=false) ⋯
  | bool=>exact zS (t:="str") (c:="bool") (b:=false) ⋯
  | str=>exact zS (t:="str") (c:="str") (b:=true) ⋯
  | tuple=>exact zS (t:="str") (c:="tuple") (b:=false) ⋯
  | list=>exact zS (t:="str") (c:="list") (b:=false) ⋯
 | tup y=>
  cases T with
  | int=>exact zS (t:="tuple") (c:="int") (b:=false) ⋯
  | bool=>exact zS (t:="tuple") (c:="bool") (b:=false) ⋯
  | str=>exact zS (t:="tuple") (c:="str") (b:=false) ⋯
  | tuple=>exact zS (t:="tuple") (c:="tuple") (b:=true) ⋯
  | list=>exact zS (t:="tuple") (c:="list") (b:=false) ⋯
 | lst y=>
  cases T with
  | int=>exact zS (t:="list") (c:="int") (b:=false) ⋯
  | bool=>exact zS (t:="list") (c:="bool") (b:=false) ⋯
  | str=>exact zS (t:="list") (c:="str") (b:=false) ⋯
  | tuple=>exact zS (t:="list") (c:="tuple") (b:=false) ⋯
  | list=>exact zS (t:="list") (c:="list") (b:=true) ⋯
 | exc c n=>exact absurd rfl (I c n)
 | ins c p t=>exact absurd rfl (hi c p t)
 | dic c n=>
  cases T with
  | int=>exact zS (t:="dict") (c:="int") (b:=false) ⋯
  | bool=>exact zS (t:="dict") (c:="bool") (b:=false) ⋯
  | str=>exact zS (t:="dict") (c:="str") (b:=false) ⋯
  | tuple=>exact zS (t:="dict") (c:="tuple") (b:=false) ⋯
  | list=>exact zS (t:="dict") (c:="list") (b:=false) ⋯
 | dct c n=>
  cases T with
  | int=>exact zS (t:="dict") (c:="int") (b:=false) ⋯
  | bool=>exact zS (t:="dict") (c:="bool") (b:=false) ⋯
  | str=>exact zS (t:="dict") (c:="str") (b:=false) ⋯
  | tuple=>exact zS (t:="dict") (c:="tuple") (b:=false) ⋯
  | list=>exact zS (t:="dict") (c:="list") (b:=false) ⋯
theorem Y6{K:rH}{C:Addr}(b:vM K C=true):Cls K C:=by
 unfold vM at b;simp only [sr,beq_iff_eq]at b;exact⟨b.1,b.2.1,b.2.2.1,b.2.2.2.1⟩
theorem bw{K:rH}{H:Hp}{a C dx:Addr}{fs:List (Str×V)}(b:vM K C=true)(e:H a=some (.ins C dx fs)):TyOf K H (.ref a) (.ref C):=by
 have c:=Y6 b;unfold vM at b;simp only [sr,beq_iff_eq]at b;obtain⟨_,_,_,_,b5,b6,b7,b8,_⟩:=b;exact .ins e c b5 b6 b7 b8
theorem dZ{K:rH}{C:Addr}{c:Str}{p t:D}(b:vM K C=true)(T:Ty):uw K (.ref C) (.type (tyN T))=some (Y0 T (.ins c p t)):=by
 unfold vM at b;simp only [sr,beq_iff_eq,List.all_cons,List.all_nil]at b;obtain⟨_,_,_,_,_,_,_,_,b1,b2,b3,b4,b5,_⟩:=b;cases T
 ·exact b1
 ·exact b2
 ·exact b3
 ·exact b4
 ·exact b5
theorem W3{pins:List (Addr×Obj)}{σ:St}{H0 H:Hp}{s:Shared}{A:Around}{E:Value->Shared->Prop}{Q:Value->Shared->Prop}{d:D}{x:V}{u:Value}(I:Inv X pins σ H s)(sub:Same H0 H)(J:RelV x u)(r:Rep X.K H0 d x)(T:Ty)
 (h : ∀tk,Q (.bool (Y0 T d)) {s with toks:=tk}):wpAny (model X.prog X.w) A (call (.builtin "isinstance") [u,.type (tyN T)]) Q E s:=by
 cases d with
 | non=>have e:=JA (K:=X.K) T .non (λ_ _ z=>nomatch z);cases (show x = .non from r);cases (show u=tH from J);exact sZ PySem.W.kitx_none I.kIn uc e (λz=>nomatch z) h
 | bl y=>have e:=JA (K:=X.K) T (.bl y) (λ_ _ z=>nomatch z);cases (show x = .bl y from r);cases (show u=Cp y from J);exact sZ PySem.W.kitx_bool I.kIn uc e (λz=>nomatch z) h
 | int i=>have e:=JA (K:=X.K) T (.int i) (λ_ _ z=>nomatch z);cases (show x = .int i from r);obtain⟨t,q⟩:=(show ∃t,u=Ce i t from J);cases q;exact sZ PySem.W.kitx_int I.kIn uc e (λz=>nomatch z) h
 | str y=>have e:=JA (K:=X.K) T (.str y) (λ_ _ z=>nomatch z);cases (show x = .str y from r);obtain⟨t,q⟩:=(show ∃t,u=Value.str y t from J);cases q;exact sZ PySem.W.kitx_str I.kIn uc e (λz=>nomatch z) h
 | tup ds=>
  have e:=JA (K:=X.K) T (.tup ds) (λ_ _ z=>nomatch z);obtain⟨a,xs,rfl,h1,h2⟩:=kj r;cases (show u=sN a from J);obtain⟨a2,rv,⟨o,M,O,_⟩,hz⟩:=I.tuple (sameT sub h1);exact sZ PySem.W.kitx_tuple I.kIn ⟨o,M,O⟩ e (λz=>nomatch z) h
 | lst ds=>
  have e:=JA (K:=X.K) T (.lst ds) (λ_ _ z=>nomatch z);obtain⟨a,xs,rfl,h1,h2⟩:=YU r;cases (show u=sN a from J);obtain⟨a2,rv,p,hz⟩:=I.list (sub.seq h1);obtain⟨o,M,O,_⟩:=p.isList;exact sZ Ci I.kIn ⟨o,M,O⟩ e (λz=>nomatch z) h
 | exc c n=>
  obtain⟨a,rfl,Y⟩:=(show ∃a,x = .ref a/\XRep X.K H0 c n a from r);cases (show u=sN a from J);obtain⟨C,φ,g1,g2,g3,_⟩:=Y.ex;obtain⟨S,_,x1,_,_⟩:=bP Y.all Y.mem g1;obtain⟨p,_,_⟩:=(show ObjOk X.prog X.w H s.heap a (.ext φ)from I.hok a _ (sub _ _ g2));have e:uw X.K (.ref C) (.type (tyN T))=some (Y0 T (.exc c n)):=by
   unfold bQ at x1;simp only [sr,List.all_cons,List.all_nil,beq_iff_eq]at x1;have t:=x1.1.1.1.1.1.1.1.1.1.1;cases T
   ·exact t.1
   ·exact t.2.1
   ·exact t.2.2.1
   ·exact t.2.2.2.1
   ·exact t.2.2.2.2.1
  exact sZ (W1 (bN x1) (bO x1)) I.kIn (g3 _ p) e (λz=>nomatch z) h
 | dic ks vs=>
  have e:=JA (K:=X.K) T (.dic ks vs) (λ_ _ z=>nomatch z);obtain⟨a,xs,rfl,⟨kk,_,_,h1⟩,_⟩:=(show ∃a xs,x = .ref a/\DRp H0 a ks xs/\Reps X.K H0 vs xs from r);exact vH I J (.dK (sub _ _ h1)) e h
 | dct ks vs=>
  have e:=JA (K:=X.K) T (.dct ks vs) (λ_ _ z=>nomatch z);obtain⟨a,xs,rfl,⟨_,o,zs,h1,h2,_⟩,_⟩:=(show ∃a xs,x = .ref a/\DRt X.K H0 a ks xs/\Reps X.K H0 vs xs from r);cases (show u=sN a from J);obtain⟨M,_⟩:=(show ObjOk X.prog X.w H s.heap a (atO a o)from I.hok a _ (sub _ _ h1));exact sZ Cj I.kIn ⟨o,M,h2.1.1⟩ e (λz=>nomatch z) h
 | ins c p t=>
  obtain⟨a,C,dx,vp,vt,rfl,h1,h2,_,_⟩:=(show ∃a C dx vp vt,x = .ref a/\insAt X.K c=some C/\H0 a=some (.ins C dx (fs2 vp vt))/\Rep X.K H0 p vp/\Rep X.K H0 t vt from r);exact vH I J (bw (yQ h1) (sub _ _ h2)) (dZ (yQ h1) T) h
theorem Wp{ty:Str}(T:Ty)(h:SX X sc N L k)(c:xu sc "isinstance" = true)(z:X.mg "isinstance" = none)(J:xu sc ty=true)(z2:X.mg ty=none)(Y:bootBuiltins ty=some (.type (tyN T)))(ha:PV X a f)
 (O:starEach [a,.Name ty p2] X.env=[(false,eval a X.env),(false,eval (.Name ty p2) X.env)]:=by rfl):PV X (.Call (.Name "isinstance" p) [a,.Name ty p2] [] pos) (sIs T f):=by
 intro pins s σ H Q I ⟨H0,γ,d,rc,ef,q⟩;obtain⟨d1,e1,e2⟩:=zt ef;subst e2;refine Ab (xp I (h.gl c).1 z BX ?_ ⋯ ⋯);refine AJ ?_ (by rw [O];rfl) rfl;rw [O];show wpAny _ _ (spliced ((false,eval a X.env)::backTo pos [(false,eval (.Name ty p2) X.env)])) _ _ s;refine Ao (thn (ha pins s σ H _ I ⟨H0,γ,d1,rc,e1,λv H' H0' x r=>(show(λv H'=>∃H0',Ext H0 H H0' H'/\Rep X.K H0' d1 v) v H' from⟨H0',x,r⟩)⟩) λu s1 hZ=>?_);obtain⟨x,H1,M,r1,a2,x1,rr⟩:=hZ;show wpAny _ _ (spliced ((false,eval (.Name ty p2) X.env)::[])) _ _ s1;refine Ao (xp M (h.gl J).1 z2 Y ?_ (h.gl J).2.1 (h.gl J).2.2);refine BB ?_;exact W3 M x1.sub r1 rr T λtk=>⟨.bl _,H1,M.tok tk,rfl,q _ H1 a2 x1 rfl⟩
end
section
variable{X:Cx}{sc:Scope}{N L:List Str}{k:Nat}{e a b c:Expr}{pos p p2:Pos}{f g:CO D}{fq:CO (Sk×List D)}
theorem jf{tg:Expr}(h:SX X sc N L k)(c:xu sc "range" = true)(z:X.mg "range" = none)(ha:PV X a f)(I:starEach [a] X.env=[(false,eval a X.env)]:=by rfl):PIF X tg (.Call (.Name "range" p) [a] [] pos) (zJ f):=Kr (h.gl c).1 z ha I
theorem yO{tg:Expr}(h:SX X sc N L k)(c:xu sc "range" = true)(z:X.mg "range" = none)(ha:PV X a f)(I:PV X b g)(J:starEach [a,b] X.env=[(false,eval a X.env),(false,eval b X.env)]:=by rfl)(M:starEach [b] X.env=[(false,eval b X.env)]:=by rfl) :
 PIF X tg (.Call (.Name "range" p) [a,b] [] pos) (qk f g):=Kq (h.gl c).1 z ha I J M
theorem yq{elts:List Expr}{x1:Nat}{tpos:Pos}(h:SX X sc N L k)(c:xu sc "zip" = true)(z:X.mg "zip" = none)(ha:PV X a f)(I:PV X b g)(J:starEach [a,b] X.env=[(false,eval a X.env),(false,eval b X.env)]:=by rfl)(M:starEach [b] X.env=[(false,eval b X.env)]:=by rfl) :
 PIF X (.Tuple elts x1 tpos) (.Call (.Name "zip" p) [a,b] [] pos) (Z8 f g):=dj (h.gl c).1 z ha I J M
theorem Ym(h:SX X sc N L k)(c:xu sc "isinstance" = true)(z:X.mg "isinstance" = none)(I:xu sc "int" = true)(z2:X.mg "int" = none)(ha:PV X a f)
 (J:starEach [a,.Name "int" p2] X.env=[(false,eval a X.env),(false,eval (.Name "int" p2) X.env)]:=by rfl):PV X (.Call (.Name "isinstance" p) [a,.Name "int" p2] [] pos) (sIs .int f):=Wp .int h c z I z2 PyProof.Rows.boot_int ha J
theorem Kj(h:SX X sc N L k)(c:xu sc "isinstance" = true)(z:X.mg "isinstance" = none)(I:xu sc "bool" = true)(z2:X.mg "bool" = none)(ha:PV X a f)
 (J:starEach [a,.Name "bool" p2] X.env=[(false,eval a X.env),(false,eval (.Name "bool" p2) X.env)]:=by rfl):PV X (.Call (.Name "isinstance" p) [a,.Name "bool" p2] [] pos) (sIs .bool f):=Wp .bool h c z I z2 PyProof.Rows.boot_bool ha J
theorem Qf(h:SX X sc N L k)(c:xu sc "isinstance" = true)(z:X.mg "isinstance" = none)(I:xu sc "tuple" = true)(z2:X.mg "tuple" = none)(ha:PV X a f)
 (J:starEach [a,.Name "tuple" p2] X.env=[(false,eval a X.env),(false,eval (.Name "tuple" p2) X.env)]:=by rfl):PV X (.Call (.Name "isinstance" p) [a,.Name "tuple" p2] [] pos) (sIs .tuple f):=Wp .tuple h c z I z2 PyProof.Rows.boot_tuple ha J
theorem Ki(h:SX X sc N L k)(c:xu sc "isinstance" = true)(z:X.mg "isinstance" = none)(I:xu sc "list" = true)(z2:X.mg "list" = none)(ha:PV X a f)
 (J:starEach [a,.Name "list" p2] X.env=[(false,eval a X.env),(false,eval (.Name "list" p2) X.env)]:=by rfl):PV X (.Call (.Name "isinstance" p) [a,.Name "list" p2] [] pos) (sIs .list f):=Wp .list h c z I z2 Bm ha J
theorem Wq(ha:PQ X a fq)(he : ∀z,isTrue a X.env z=(do let v <- z;standAt a.pos;holding [v] (truthy v)):=by intro _;rfl):PTD X a (Wd fq):=
 Kl (Wr ha he) λσ H Q J=>by
  obtain⟨H0,γ,t,rc,M,q⟩:=J;obtain⟨⟨I,ds⟩,e1,e2⟩:=zt M;subst e2;refine⟨H0,γ,I,ds,rc,e1,λp xs H' H0' ext h1 h2 r=>⟨!ds.isEmpty,?_,q H' H0' ext⟩⟩;have e:xs.isEmpty=ds.isEmpty:=by
   have:=r.length;cases xs<;>cases ds<;>simp_all
  rw [<- e];cases I with
  | L=>exact .inl ⟨xs,h1,rfl⟩
  | T=>exact .inr (.inl ⟨xs,h1,rfl⟩)
theorem aX(ha:PV X a f):PV X (.UnaryOp .USub a pos) (fA f):=
 jO (nv fQ ha) λσ H Q z=>by
  obtain⟨H0,γ,d,rc,I,q⟩:=z;obtain⟨i,e1,e2⟩:=zt I;obtain⟨d1,J,e1⟩:=bind_some e1;subst e2;refine⟨H0,γ,d1,rc,J,λv H' H0' x r=>?_⟩;rw [jy e1]at r;exact⟨i,jm r,q _ H' H0' x rfl⟩
theorem Qj(i:Nat){x:Str}{apos cpos np:Pos}(h:SX X sc N L k)(c:ZY sc N i x=true)(ha:PV X a f)(z:starEach [a] X.env=[(false,eval a X.env)]:=by rfl)
 (I:attributeBase (.Name x np) "append" X.env (eval (.Name x np) X.env)=eval (.Name x np) X.env:=by rfl)
 (J:((backTo cpos (starEach [a] X.env)).all (λx=> !x.1) && (backToKw cpos (keywordEach [] X.env)).all (λx=>x.1.isSome)
   && decide ([a].length+([]:List Keyword).length+(if ([]:List Keyword).isEmpty then 0 else 1)<30))=true:=by rfl)
 (M:(apos.endLine==cpos.line)=true:=by rfl) (O:swapsWith (.Call (.Attribute (.Name x np) "append" apos) [a] [] cpos) none pos.line X.env=pure false:=by rfl) :
 PSD X (.Expr (.Call (.Attribute (.Name x np) "append" apos) [a] [] cpos) pos) (qH i f):=
 Km i (dC Bz PySem.F.slot_list_append PySem.F.type_list_append Jz (h.var c) (zK ha jw z) I J M z rfl) O
theorem jW(i:Nat){st:Stmt}{f:CO (List D)}(h:PS X st (ZS (tO X.K f) (xt i))):PSD X st (zW i (ja f)):=qm h λD σ H I=>by
 obtain⟨E0,E,H0,γ,Y,rs,z,J⟩:=I;obtain⟨d,e1,z⟩:=zt z;obtain⟨ds,M,e1⟩:=zt e1;subst z e1;exact⟨H0,γ,ds,rs.rc,M,λa xs H' H0' x h1 h2 O r=>J _ _ _ ((rs.step (x.show h1 h2 O rs.rc.sub)).setVal (k6 (SqL.of zw) (r.mono (zR h2 _))))⟩
theorem psc{scope:Scope}{own:List Str}{fr:List (Str×Nat)}{elt tg iter:Expr}{cpos z I:Pos}{src:CO (List D)}{T:Tg}{y:Str}(i:Nat)(h:SX X sc N L k)(c:J9 sc N L i y=true)
 (J:X.calm=true) (ok:CompOk X scope fr) (M : ∀i∈T.idx,i<own.length) (hi:PIC X tg iter src) (O : ∀fp s2 H2,PG (zV X scope (own++fr.map (·.1)) fp s2 H2) tg (gOf X.K T))
 (he : ∀fp s2 H2,PV (zV X scope (own++fr.map (·.1)) fp s2 H2) elt f) (Y : ∀x,foldedSetIterable iter X.env x=pure x:=by intro _;rfl) :
 PS X (.Assign [.Name y I] (.ListComp elt [⟨tg,iter,[],0⟩] scope cpos) z) (ZS (tO X.K (zB src T own.length (fr.map (·.2)) z7 f)) (xt i)):=by
 obtain⟨h1,h2,h3⟩:=h.loc c;exact Wv h.ndX h1 h2 h3 J ok M hi O he Y
theorem gQ{scope:Scope}{own:List Str}{fr:List (Str×Nat)}{elt tg iter z:Expr}{cpos J M:Pos}{src:CO (List D)}{T:Tg}{y:Str}{I:CO Bool}(i:Nat)(h:SX X sc N L k)(c:J9 sc N L i y=true)
 (O:X.calm=true) (ok:CompOk X scope fr) (Y : ∀i∈T.idx,i<own.length) (hi:PIC X tg iter src) (hg : ∀fp s2 H2,PG (zV X scope (own++fr.map (·.1)) fp s2 H2) tg (gOf X.K T))
 (hk : ∀fp s2 H2,PTD (zV X scope (own++fr.map (·.1)) fp s2 H2) z I) (he : ∀fp s2 H2,PV (zV X scope (own++fr.map (·.1)) fp s2 H2) elt f) (hs : ∀x,foldedSetIterable iter X.env x=pure x:=by intro _;rfl) :
 PS X (.Assign [.Name y M] (.ListComp elt [⟨tg,iter,[z],0⟩] scope cpos) J) (ZS (tO X.K (zB src T own.length (fr.map (·.2)) I f)) (xt i)):=by
 obtain⟨h1,h2,h3⟩:=h.loc c;exact Kn h.ndX h1 h2 h3 O ok Y hi hg hk he hs
theorem Xd{tg:Expr}{T:Tg}(I:PG X tg (gOf X.K T))(he:PV X e f)(J:swapsWithSole [tg] e pos.line X.env=pure false:=by rfl)(hw:swappedStores [tg] e X.env=pure none:=by rfl)
 (h1:(assignEach [tg] X.env).map (·.2)=[assign tg X.env]:=by rfl):PSD X (.Assign [tg] e pos) (Jb T f):=
 qm (wJ he I J hw h1) λD σ H M=>by
  obtain⟨E0,E,H0,γ,fl,rs,z,O⟩:=M;obtain⟨d,e1,z⟩:=bind_some z;obtain⟨γ1,e2,z⟩:=zt z;subst z;refine⟨H0,γ,d,rs.rc,e1,λv H' H0' x r=>?_⟩;exact kP x.sub r e2 λY _ a0=>O Y H' H0' (a0 E0 E (rs.step x))
end
structure FnD(P:Program)(w:World)(K:rH)(mg:Str->Option Value)(base:Heap)(k:Nat)(x:Str)(n:Nat)(F:List D->Option Res):Prop where
 ex : ∃(f:Addr) (fd:FuncData) (ps:List Str),ps.length=n/\FnOk P w K mg base CX0 k f fd ps (spF K ps.length F)/\mg x=some (.ref f)/\sQ K (.ref f)=true/\Binds K fd ps []
structure DefAt(K:rH)(mg:Str->Option Value)(x:Str)(st:Stmt)(ps:List Str):Prop where
 ex : ∃(f:Addr) (fd:FuncData),L2.Fun K x x st f fd/\(∀us:List Value,us.length=ps.length->bindArgs fd ⟨us,[]⟩=pure (ps.zip us))/\mg x=some (.ref f)
def PAn(X:Cx)(es:List Expr)(n:Nat)(g:CO (List D)):Prop:=PAD X es g/\∀γ ds,g γ=some ds->ds.length=n
section
variable{X:Cx}{sc:Scope}{N L:List Str}{k:Nat}{e:Expr}{es:List Expr}{f:CO D}{g:CO (List D)}{n:Nat}{pos p:Pos}{x:Str}
theorem zl:PAn X [] 0 zy:=⟨YK,λγ ds h=>by cases h;rfl⟩
theorem zc(ha:PV X e f)(z:PAn X es n g)(I:starEach (e::es) X.env=(false,eval e X.env)::starEach es X.env:=by rfl):PAn X (e::es) (n+1) (za f g):=
 ⟨kF ha z.1 I,λγ ds h=>by
  obtain⟨y,e1,h⟩:=bind_some h;obtain⟨r,e2,h⟩:=zt h;subst h;rw [sP,z.2 γ r e2]⟩
variable{j:Nat}{F:List D->Option Res}
theorem jF(z:FnD X.prog X.w X.K X.mg X.base j x n F)(I:j<=k)(h:SX X sc N L k)(c:xu sc x=true)(ha:PAn X (e::es) n g)
 (he:starEach (e::es) X.env=(false,eval e X.env)::starEach es X.env:=by rfl) (J:(backTo pos (starEach es X.env)).any (·.1)=false:=by rfl):PV X (.Call (.Name x p) (e::es) [] pos) (zx F g):=by
 obtain⟨fa,fd,ps,hn,G,hm,M,O⟩:=z.ex;subst hn;exact cZ (A0:=[]) G ha.1 ha.2 λ{t} Y=>xE G (h.room.mono I) (h.gl c).1 hm M O .nil wj Y (h.gl c).2.2 he J
theorem km(z:FnD X.prog X.w X.K X.mg X.base j x n F)(I:j<=k)(h:SX X sc N L k)(c:xu sc x=true)(ha:PAn X (e::es) n g)
 (he:starEach (e::es) X.env=(false,eval e X.env)::starEach es X.env:=by rfl) (J:(backTo pos (starEach es X.env)).any (·.1)=false:=by rfl):PO X (.Call (.Name x p) (e::es) [] pos) (zP F g):=by
 obtain⟨fa,fd,ps,hn,G,hm,M,O⟩:=z.ex;subst hn;exact dh G ha.1 ha.2 λ{t} Y=>xE G (h.room.mono I) (h.gl c).1 hm M O .nil wj Y (h.gl c).2.2 he J
end
section
variable{P:Program}{w:World}{K:rH}{mg:Str->Option Value}{base:Heap}
def JN(N ps:List Str)(st:Stmt):Bool:=
 decide ((defScope st).kind = .function) && decide ((defScope st).isCoroutine=false) && decide ((defScope st).isGenerator=false) && decide N.Nodup && decide (N.take ps.length=ps) &&
 ps.all (λx=>decide ((defScope st).names.lookup x=some .local) || decide ((defScope st).names.lookup x=some .cell)) && (defScope st).names.all (λy=> !(y.2==sO))
theorem xQ{N ps:List Str}{st:Stmt}(h:JN N ps st=true):FnScope N ps (defScope st):=by
 unfold JN at h;simp only [sr,decide_eq_true_eq,sX,uo,BE]at h;obtain⟨⟨⟨⟨⟨⟨h1,h2⟩,z⟩,I⟩,J⟩,M⟩,O⟩:=h;exact⟨h1,h2,z,I,J,M,λy Y e=>by have:=O y Y;rw [e]at this;exact absurd this ⋯⟩
theorem jL{X:Cx}(z:X.xe=λ_ _=>False):PassesOwn (model X.prog X.w) X.A X.env X.xe:=by rw [z];exact PassesOwn.never
theorem ky{x:Str}{st:Stmt}{N ps:List Str}{k:Nat}{F:CO Fl}(A:DefAt K mg x st ps)(hd:JN N ps st=true)
 (I : ∀X:Cx,X.prog=P->X.w=w->X.K=K->X.mg=mg->X.base=base->SX X (defScope st) N N k->X.xe=(λ_ _=>False)->XW X (defBody st) F) :
 FnD P w K mg base (k+1) x ps.length (jv N.length F):=by
 obtain⟨f,fd,z,J,hm⟩:=A.ex;have S:=xQ hd;refine⟨f,fd,ps,rfl,lg z S λcdv A outer s H E M=>?_,hm,z.kp,.all J⟩;exact I _ rfl rfl rfl rfl rfl ⟨rfl,rfl,S.nd,rfl,M,λ_ _=> .inl rfl⟩ rfl
theorem def_mk{h:Heap}{x:Str}{st:Stmt}{ps:List Str}{f:Addr}{oc:Value}{od an:Option Addr}{osl:Array (Option Value)}{kV doc pm cdv ct:Value}(z:K.In h)(G:h.Ns mainGlobals mg)
 (a:Ap K mainGlobals x=some (some (.ref f))) (l:K.lookup f=some ⟨oc,od,.func (ue x x (defArgs st) (defBody st) (defScope st) .none kV doc pm an cdv ct),osl⟩)
 (c:uY K cdv x=true) (kp:sQ K (.ref f)=true)
 (b : ∀(kV doc pm:Value) (an:Option Addr) (cdv ct:Value) (us:List Value),us.length=ps.length->bindArgs (ue x x (defArgs st) (defBody st) (defScope st) .none kV doc pm an cdv ct) ⟨us,[]⟩=pure (ps.zip us)):DefAt K mg x st ps:=
 ⟨f,_,wR l c kp,b kV doc pm an cdv ct,By z G a⟩
theorem nW{x:Str}{st:Stmt}{f:Addr}{fd:FuncData}{N ps:List Str}{k:Nat}{F:CO Fl}(z:L2.Fun K x x st f fd)(hd:JN N ps st=true)
 (I : ∀X:Cx,X.prog=P->X.w=w->X.K=K->X.mg=mg->X.base=base->SX X (defScope st) N N k->X.xe=(λ_ _=>False)->XW X (defBody st) F) :
 FnOk P w K mg base CX0 (k+1) f fd ps (spF K ps.length (jv N.length F)):=by
 have S:=xQ hd;exact lg z S λcdv A outer s H E J=>I _ rfl rfl rfl rfl rfl ⟨rfl,rfl,S.nd,rfl,J,λ_ _=> .inl rfl⟩ rfl
theorem law_true{F:List D->Option Res}{H:Hp}{a:Addr}{ns:List Int}(z:SqL K H a (ns.map V.int))(I:F [.lst (ns.map D.int)]=some (.val (.bl true))) :
 spF K 1 F [.ref a] H (λv _=>v = .bl true) λ_ _ _=>False:=by
 refine⟨H,[.lst (ns.map D.int)],.val (.bl true),Same.refl _,Reps.cons (k6 z ?_) Reps.nil,rfl,I,λv H' H0' _ r=>r⟩;clear I z
 induction ns with
 | nil=>exact Reps.nil
 | cons n ns J=>exact Reps.cons rfl J
end
end DL
namespace DL
open PySem PySem.Spec PyProof.Rows L2
open PySem.W (KasT kas_sort kas_ask kat_run kat_snds kat_lt kat_cons kat_no kat_kind KatTups KatGo)
def lO(h:Heap)(v:Value)(k:Int):Prop:=∃x o xs m t,v = .ref x/\h.get? x=some o/\o.cls = .type "tuple"/\o.data = .seq xs m/\xs[0]? = some (.int k t)
theorem bt{h:Heap} : ∀{vs:List Value} {ks:Nat->Int},(∀i (hi:i<vs.length),lO h vs[i] (ks i))->∃fs,KatTups h vs fs/\fs.length=vs.length/\∀f∈fs,∃k t,f=Ce k t
 | [],ks,_=>⟨[],KatTups.nil,rfl,λf z=>by cases z⟩
 | v::vs,ks,H=>by
  obtain⟨fs,h1,h2,I⟩:=bt (vs:=vs) (ks:=λi=>ks (i+1)) λi hi=>H (i+1) (by simpa using hi);obtain⟨x,o,xs,m,t,e1,e2,J,M,O⟩:=H 0 ⋯;have e1:v = .ref x:=e1;subst e1;exact⟨.int (ks 0) t::fs,KatTups.cons e2 J M O h1,by simp [h2],λf z=>by
   rcases si.mp z with rfl | z
   ·exact⟨_,_,rfl⟩
   ·exact I f z⟩
end DL
namespace DL
open PySem PySem.Spec PyProof.Rows L2
open AutoSeq1 (wpAny_loadPart')
theorem yD:fillsNumberSlot (.type "tuple") "mul" = pure false:=
 PySem.fillsNumberSlot_seq (id:="tuple.__mul__") (r:=some (.builtin "tuple.__rmul__")) Bg.lookup ⋯ F.slot_tuple_rmul.lookup ⋯
theorem Jl:seqRepeat? (.type "tuple")=pure (some (.builtin "tuple.__mul__")):=by
 unfold seqRepeat?;rw [PySem.seqSlot_of (T:="tuple") (name:="__mul__") (id:="tuple.__mul__") Bg.lookup ⋯,PySem.seqSlot_of (T:="tuple") (name:="__rmul__") (id:="tuple.__rmul__") F.slot_tuple_rmul.lookup ⋯];rfl
theorem wo(a:Int)(t:Tok)(l:Addr)(z:Array Value)(n:Nat)(I:Option Addr)(sl:Array (Option Value)) :
 Meets (Builtin.«int.__rmul__» ⟨[.int a t,.ref l],[]⟩) (λ_ R s=>s.heap.get? l=some {cls:= .type "tuple",dict:=I,data:= .seq z n,slots:=sl}/\R (.ok (.ret Value.notImplemented)) s):=
 .of_wp λprog w A R s h=>by obtain⟨J,g,d,tk,os⟩:=s;obtain⟨M,h⟩:=h;wp_walk;exact⟨_,rfl,h⟩
theorem Zb(a:Int)(t:Tok)(l:Addr)(z:Array Value)(n:Nat)(J:Option Addr)(sl:Array (Option Value))(h1 : ¬(decide (a < -(2 ^ 63)) || decide (a>=2 ^ 63))=true)(h2 : ¬(z.isEmpty || a==1)=true)
 (M : ¬(decide (a<=0) || z.isEmpty)=true) (O : ¬((z.size:Int)*a>(2 ^ 63 - 1)/8)) (Y : ¬Builtin.Tuple.tupleTooMany ((z.size:Int)*a)=true) (hz:((rY a.toNat z).foldl (· ++ ·) #[]).size<=sizeLine) :
 Meets (Builtin.«tuple.__mul__» ⟨[.ref l,.int a t],[]⟩) (λ_ R s=>s.heap.get? l=some {cls:= .type "tuple",dict:=J,data:= .seq z n,slots:=sl}/\
  R (.ok (.ret (.ref s.heap.objs.size))) {s with heap:=s.heap.push {cls:= .type "tuple",data:= .seq ((rY a.toNat z).foldl (· ++ ·) #[])}}):=
 .of_wp λprog w A R s h=>by
  obtain⟨hp,g,d,tk,os⟩:=s;obtain⟨I,h⟩:=h
  wp_walk using Ba I
  rw [if_neg h1];refine rK (BP (s:=⟨hp,g,d,tk,os⟩) ⟨_,I,rfl,n,rfl⟩ ?_);dsimp only;rw [if_neg h2,if_neg M,if_neg O,if_neg Y];refine rK (m:=uF _) (ui ?_ hz);exact rS ⟨_,rfl,h⟩
theorem we(a:Int)(t:Tok)(l:Addr)(z:Array Value)(n:Nat)(J:Option Addr)(sl:Array (Option Value))(h1 : ¬(decide (a < -(2 ^ 63)) || decide (a>=2 ^ 63))=true)(h2 : ¬(z.isEmpty || a==1)=true)
 (M:(decide (a<=0) || z.isEmpty)=true) :
 Meets (Builtin.«tuple.__mul__» ⟨[.ref l,.int a t],[]⟩) (λ_ R s=>s.heap.get? l=some {cls:= .type "tuple",dict:=J,data:= .seq z n,slots:=sl}/\
  R (.ok (.ret (.ref s.heap.objs.size))) {s with heap:=s.heap.push {cls:= .type "tuple",data:= .seq #[]}}):=
 .of_wp λprog w A R s h=>by
  obtain⟨O,g,d,tk,os⟩:=s;obtain⟨I,h⟩:=h
  wp_walk using Ba I
  rw [if_neg h1];refine rK (BP (s:=⟨O,g,d,tk,os⟩) ⟨_,I,rfl,n,rfl⟩ ?_);dsimp only;rw [if_neg h2,if_pos M];refine rK (m:=uF _) (ui ?_ (tZ _));exact rS ⟨_,rfl,h⟩
theorem wc(a:Int)(t:Tok)(l:Addr)(I:Array Value)(n:Nat)(J:Option Addr)(sl:Array (Option Value))(h1 : ¬(decide (a < -(2 ^ 63)) || decide (a>=2 ^ 63))=true)(h2:(I.isEmpty || a==1)=true) :
 Meets (Builtin.«tuple.__mul__» ⟨[.ref l,.int a t],[]⟩) (λ_ R s=>s.heap.get? l=some {cls:= .type "tuple",dict:=J,data:= .seq I n,slots:=sl}/\R (.ok (.ret (.ref l))) s):=
 .of_wp λprog w A R s h=>by
  obtain⟨M,g,d,tk,os⟩:=s;obtain⟨z,h⟩:=h
  wp_walk using Ba z
  rw [if_neg h1];refine rK (BP (s:=⟨M,g,d,tk,os⟩) ⟨_,z,rfl,n,rfl⟩ ?_);dsimp only;rw [if_pos h2];refine rK (m:=An _) ?_;unfold An;refine rK (CN (T:="tuple") ⟨_,z,rfl⟩ (rS ?_));rw [if_pos ⋯];exact rK (CJ (rS ⟨_,rfl,h⟩))
section
variable{X:Cx}
def gz(K:rH):R2:=λx y H Q=>∃l k xs,x = .ref l/\y = .int k/\SqT K H l xs/\ -(2 ^ 62)<=k/\k<2 ^ 62/\xs.length*k.toNat<=sizeLine/\(xs=[]\/k=1->Q (.ref l) H)/\
 ∀p,H p=none->Q (.ref p) (upd H p (.tup (rY k.toNat xs).flatten))
theorem dF:OpR X (binaryOp .Mult) (gz X.K):=by
 intro pins s σ H x y v u Q I rx ry h;obtain⟨l,k,xs,rfl,rfl,hq,h1,h2,hz,q1,q2⟩:=h;cases rx;obtain⟨t,rfl⟩:=ry;obtain⟨z,r,ht,z1⟩:=I.tuple hq;obtain⟨⟨cls,O,data,sl⟩,J,hc,n,hd⟩:=id ht;simp only at hc hd;subst hc hd;have an:=r.length;have Y : ¬(decide (k < -(2 ^ 63)) || decide (k>=2 ^ 63))=true:=by simp;omega
 refine wpAny_binaryOp_repeat_ref (T:="tuple") (U:="int") ⋯ ⟨_,J,rfl⟩ (λs'=>typeIs_int s' k t) yD F.fills_int_mul F.slot_int_rmul Jl F.slot_int_index.lookup
  (BJ F.slot_int_rmul (typeIs_int s k t) F.entry_int_rmul (F.args_int_rmul_2 _ _) (wo k t l z.toArray n O sl) ⟨J,rfl,⟨_,J,rfl⟩,?_⟩)
 have f0 : ∀m:Nat,List.foldl (λx1 x2=>x1++x2) #[] (rY m z.toArray)=(rY m z).flatten.toArray:=λm=>by
  have:=JJ z m [];rw [List.nil_append]at this;exact this
 by_cases g2:(z.toArray.isEmpty || k==1)=true
 ·refine BJ Bg ⟨_,J,rfl⟩ CH (Cw _ _) (wc k t l z.toArray n O sl Y g2) ⟨J,⟨.ref l,H,I,rfl,q1 ?_⟩⟩
  rw [uo]at g2;rcases g2 with g | g
  ·left
   have:z=[]:=by simpa using g
   exact(r.nil_iff).mp this
  ·right;simpa using g
 ·have a1:=g2
  simp only [uo,not_or]at a1;have ap:z ≠ []:=by intro e;exact a1.1 (by rw [e];rfl)
  have ax:0<z.length:=List.length_pos_iff.mpr ap;by_cases M:(decide (k<=0) || z.toArray.isEmpty)=true
  ·have hk:k.toNat=0:=by
    rw [uo]at M;rcases M with g | g
    ·have:=of_decide_eq_true g;omega
    ·exact absurd g a1.1
   refine BJ Bg ⟨_,J,rfl⟩ CH (Cw _ _) (we k t l z.toArray n O sl Y g2 M) ⟨J,?_⟩;refine⟨.ref s.heap.objs.size,_,I.laid (t':=s.toks) (o:= .tup (rY k.toNat xs).flatten) (λc ob q=>rM _ q) (se _) ?_,rfl,q2 _ (I.hok.fresh (se _))⟩;rw [hk];exact⟨tZ _,[],.nil,IsTupD.new _ _⟩
  ·have hk : ¬k<=0:=by intro g;exact M (by rw [uo];exact .inl (decide_eq_true g))
   have hsz:z.length*k.toNat<=sizeLine:=by rw [<- an];exact hz
   have b0:((z.toArray.size:Nat):Int)*k<=(sizeLine:Int):=by
    rw [rZ];have e:((z.length*k.toNat:Nat):Int)=(z.length:Int)*k:=by
     rw [Int.natCast_mul,Int.toNat_of_nonneg ⋯]
    omega
   have b9:sizeLine=16777216:=BQ;have as:(List.foldl (λx1 x2=>x1++x2) #[] (rY k.toNat z.toArray)).size<=sizeLine:=by
    rw [f0,rZ,YW,Cy];exact hsz
   refine BJ Bg ⟨_,J,rfl⟩ CH (Cw _ _) (Zb k t l z.toArray n O sl Y g2 M ⋯ (by unfold Builtin.Tuple.tupleTooMany;simp only [decide_eq_true_eq];omega) as) ⟨J,?_⟩;rw [f0];refine⟨.ref s.heap.objs.size,_,I.laid (t':=s.toks) (o:= .tup (rY k.toNat xs).flatten) (λc ob q=>rM _ q) (se _) ?_,rfl,q2 _ (I.hok.fresh (se _))⟩;exact⟨by rw [YW,Cy];exact hz,_,r.rep k.toNat,IsTupD.new _ _⟩
theorem cu{K:rH}:Snd K (λx y H Q=>rI CMul (λi j=> .int (i*j)) x y H Q\/gz K x y H Q) qg:=λH0 H x y dx O d Q s I J z q=>by
 cases dx<;>cases O<;>simp [qg]at z
 ·obtain⟨e1,e2⟩:=z
  subst e2;exact .inl ⟨_,_,jm I,jm J,aq e1,q _ H H0 (Ext.refl s) rfl⟩
 ·rename_i ds j
  obtain⟨⟨Y,hj⟩,rfl⟩:=z;obtain⟨a,xs,rfl,h1,h2⟩:=kj I;obtain⟨q1,q2⟩:=yc hj;refine .inr ⟨a,j,xs,rfl,jm J,sameT s h1,q1,q2,xi (by rw [h2.length];exact Y),λe=>?_,λp M=>?_⟩
  ·refine q _ H H0 (Ext.refl s) ?_
   rcases e with e | e
   ·have e2:ds=[]:=by
     have:=h2.length;rw [e]at this;exact sS this.symm
    subst e2;rw [show(rY j.toNat ([]:List D)).flatten=[]by simp];exact qx h1 h2
   ·subst e
    rw [show(rY (1:Int).toNat ds).flatten=ds by simp];exact qx h1 h2
  ·exact q _ _ _ (Ext.alloc s M _) (qx (SqT.of zw) ((Q5 h2 _).mono (zR (z6 s M) _)))
theorem jJ{a b:Expr}{pos:Pos}{fa fb:CO D}(ha:PV X a fa)(z:PV X b fb):PV X (.BinOp a .Mult b pos) (zh qg fa fb):=wH (op_mul.or dF) cu ha z
end
end DL
namespace DL
open PySem PySem.Spec PyProof.Rows L2
theorem RC.lendAt{K:rH}{H0 H:Hp}{σ:St}{γ:Ctx}{i:Nat}{ds:List D}{a:Addr}{xs:List V}(r:RC K H0 H σ γ)(e:γ[i]? = some (.own ds))(h1:σ[i]? = some (some (.ref a)))(h2:H0 a=none)(h3:H a=some (.lst xs))(h4:Reps K H0 ds xs):RC K (L2.upd H0 a (.lst xs)) H σ (γ.set i (.val (.lst ds))):=by
 refine⟨λb o q=>?_,by simp [r.len],λj d g=>?_,λj es g=>?_,λj k b es fs e1 e2 e3 e4=>?_,⟨λj rows g=>?_,λj k r1 r2 e1 e2=>?_⟩⟩
 ·by_cases z:b=a
  ·subst z;rw [zw]at q;rw [h3];exact q
  ·rw [zz z]at q;exact r.sub b o q
 ·rcases zE g with⟨rfl,z,hl⟩ | ⟨I,z⟩
  ·cases z;exact⟨_,h1,k6 (SqL.of zw) (h4.mono (zR h2 _))⟩
  ·obtain⟨v,J,g2⟩:=r.val j d z
   exact⟨v,J,g2.mono (zR h2 _)⟩
 ·rcases zE g with⟨_,z,_⟩ | ⟨I,z⟩
  ·cases z
  ·obtain⟨b,ys,J,g2,g3,g4⟩:=r.own j es z
   refine⟨b,ys,J,?_,g3,g4.mono (zR h2 _)⟩;rw [zz (λq=>I (r.ne j i a es ds z e (by rw [J,q]) h1))];exact g2
 ·rcases zE e1 with⟨_,z,_⟩ | ⟨I,z1⟩
  ·cases z
  ·rcases zE e2 with⟨_,z,_⟩ | ⟨hk,z2⟩
   ·cases z
   ·exact r.ne j k b es fs z1 z2 e3 e4
 ·rcases zE g with⟨_,z,_⟩ | ⟨I,z⟩
  ·cases z
  ·obtain⟨b,bs,f1,O,Y⟩:=r.nst.1 j rows z
   have a7:=Y i ds a e h1;refine⟨b,bs,f1,O.move (zR h2 _) (λc M=>by rw [zz (λq=>a7 (by rw [<- q];exact M))];exact(O.at M).1) (λc M=>rfl),λk fs c e1 e2=>?_⟩;rcases zE e1 with⟨_,z,_⟩ | ⟨_,z1⟩
   ·cases z
   ·exact Y k fs c z1 e2
 ·rcases zE e1 with⟨_,z,_⟩ | ⟨_,z1⟩
  ·cases z
  ·rcases zE e2 with⟨_,z,_⟩ | ⟨_,z2⟩
   ·cases z
   ·exact r.nst.2 j k r1 r2 z1 z2
end DL
namespace L2
open PySem PySem.Spec PyProof.Rows
open AutoSeq1 (wpAny_loadPart')
theorem kJ{prog:Program}{w:World}{A:Around}{E:Value->Shared->Prop}{s:Shared}{z it:Addr}{n:Int}{M:Value}{Q:Value->Shared->Prop}(O:IsEnum s.heap z it n M)(h:Q (.ref z) s):wpAny (model prog w) A (pyIter (.ref z)) Q E s:=by
 have I:s.TypeIs (.ref z) "enumerate":=⟨_,O,rfl⟩;refine wpAny_pyIter_slot I F.slot_enumerate_iter (uA F.slot_enumerate_iter I F.entry_enumerate_iter ?_ (F.args_enumerate_iter_1 _));have J:wpAny (model prog w) A.in1 (ret (.ref z)) (λJ s'=>∃v,J = .done (.ret v)/\∃T m,s'.TypeIs v T/\typeLookup (.type T) "__next__" = pure (some m)/\Q v s') E s:=rS ⟨_,rfl,"enumerate",_,I,F.slot_enumerate_next.lookup,h⟩;exact J
end L2
namespace DL
open PySem PySem.Spec PyProof.Rows L2
theorem kA : ∀{l:List Int} {us:List Value},Vals (l.map V.int) us->∀i,i<us.toArray.size->∃z u,us.toArray[i]? = some (.int z u)/\l[i]? = some z
 | [],us,r,i,hi=>by cases r;exact absurd hi (sv _)
 | z::l,u::us,.cons r t,i,hi=>by
  cases i with
  | zero=>
   obtain⟨tk,rfl⟩:=r;exact⟨z,tk,by simp,by simp⟩
  | succ i=>
   obtain⟨I,u',e1,e2⟩:=kA t i (by simpa using hi);exact⟨I,u',by simpa using e1,by simpa using e2⟩
def tN(K:rH)(f:CO (List (List D))):TE:=λσ H Q=>∃H0 γ rows,RC K H0 H σ γ/\f γ=some rows/\
 ∀a bs H' H0',Ext H0 H H0' H'->(∀b∈a::bs,H b=none)->Nest K H0' H' rows a bs->Q (.ref a) H'
def Rws(K:rH)(H0 H:Hp)(rows:List (List D))(bs:List Addr):Prop:=bs.length=rows.length/\∀(k:Nat) b row,bs[k]? = some b->rows[k]? = some row->H0 b=none/\∃xs,H b=some (.lst xs)/\Reps K H0 row xs
theorem Rws.at{K:rH}{H0 H:Hp}{rows:List (List D)}{bs:List Addr}(n:Rws K H0 H rows bs){b:Addr}(J:b∈bs):H0 b=none/\∃xs,H b=some (.lst xs):=by
 obtain⟨k,z⟩:=Be J;have I:=(rP.mp z).1;rw [n.1]at I;obtain⟨h1,xs,h2,_⟩:=n.2 k b _ z (rN I);exact⟨h1,xs,h2⟩
theorem Rws.ext{K:rH}{H0 H H0' H':Hp}{rows:List (List D)}{bs:List Addr}(n:Rws K H0 H rows bs)(e:Ext H0 H H0' H'):Rws K H0' H' rows bs:=
 ⟨n.1,λk b row h1 h2=>by
  obtain⟨z,xs,g2,I⟩:=n.2 k b row h1 h2;exact⟨e.new b z (by rw [g2];simp),xs,e.s1 _ _ g2,I.mono e.s0⟩⟩
theorem Rws.add{K:rH}{H0 H:Hp}{rows:List (List D)}{bs:List Addr}{b:Addr}{row:List D}{xs:List V}(n:Rws K H0 H rows bs)(h1:H0 b=none)(h2:H b=some (.lst xs))(J:Reps K H0 row xs):Rws K H0 H (rows++[row]) (bs++[b]):=
 ⟨by simp [n.1],λk c r e1 e2=>by
  rcases ud k bs.length with z | z
  ·rw [sY z]at e1
   rw [sY (by rw [<- n.1];exact z)]at e2;exact n.2 k c r e1 e2
  ·rw [tw z]at e1
   rw [tw (by rw [<- n.1];exact z)]at e2;have I:k - bs.length=0:=by
    have:=(rP.mp e1).1;simp at this;omega
   rw [I]at e1;rw [<- n.1,I]at e2;cases e1;cases e2;exact⟨h1,xs,h2,J⟩⟩
theorem Rws.hide{K:rH}{H0 H:Hp}{rows:List (List D)}{bs:List Addr}{z:Addr}{o:HO}(n:Rws K H0 H rows bs)(h:z∉bs):Rws K H0 (upd H z o) rows bs:=
 ⟨n.1,λk b row h1 h2=>by
  obtain⟨I,xs,g2,J⟩:=n.2 k b row h1 h2;exact⟨I,xs,by rw [zz (λq=>h (by rw [<- q];exact sy h1))];exact g2,J⟩⟩
section
variable{K:rH}{own:List Str}{fr:List (Str×Nat)}{src:CO (List D)}{T:Tg}{f:CO (List D)}
theorem KH(hT : ∀i∈T.idx,i<own.length){tt:TT}(ce : ∀σ H Q,tT K z7 σ H Q->tt σ H Q) : ∀σ H Q,tN K (Je src T own.length (fr.map (·.2)) f) σ H Q->K5 (tIc K src) own fr (gOf K T) tt (tO K f) σ H Q:=λσ H Q hZ=>by
 obtain⟨H0,γ,rows,rc,ef,q⟩:=hZ;obtain⟨I,e1,ef⟩:=bind_some ef;by_cases hl:I.length<=lim
 ·rw [if_pos hl]at ef
  refine⟨H0,γ,I,rc,e1,λJ H1 an x1 wk D hD=>?_⟩;have ar : ∀(i:Nat) es,(jn own.length (fr.map (·.2)) γ)[i]? ≠ some (.own es):=λi es h=>by rcases jU h with z | ⟨d',j,z,_⟩<;>cases z
  have as : ∀(i:Nat) es,(jn own.length (fr.map (·.2)) γ)[i]? ≠ some (.nest es):=λi es h=>by rcases jU h with z | ⟨d',j,z,_⟩<;>cases z
  have be:an D=none:=z6 x1.sub hD;have bi : ∀c,H1 c=none->H c=none:=λc hc=>by
   cases z:H c with
   | none=>rfl
   | some o=>rw [x1.s1 c o z]at hc;cases hc
  refine⟨λi m ys σ' H'=>m=I.length - i/\i<=I.length/\ys.length<=i/\H' D=some (.lst ys)/\∃H0' bs r1 r2,ys=bs.map V.ref/\RC K H0' H' σ' (jn own.length (fr.map (·.2)) γ)/\H0' D=none/\Ext an H1 H0' H'/\Rws K H0' H' r1 bs/\(D::bs).Nodup/\(∀b∈bs,H1 b=none)/\kr T f (jn own.length (fr.map (·.2)) γ) (I.drop i)=some r2/\rows=r1++r2,
   ⟨_,rfl,tZ _,se _,zw,an,[],[],rows,rfl,((rc.ext x1).pull).upd be ar as,be,Ext.hide x1.sub hD _,⟨rfl,λk b row h=>by simp at h⟩,by simp,λb Y=>by simp at Y,ef,rfl⟩,?_⟩
  rintro i m ys σ' H' ⟨rfl,hi,hy,a9,H0',bs,r1,r2,ch,ax,bm,x',ac,nd,bn,M,rfl⟩;subst ch;refine⟨a9,?_⟩;by_cases a3:i<I.length
  ·refine .inr ⟨wk.go i H' x'.s1 a3,?_,λx b0 y=>?_⟩
   ·have:=xi (se lim);omega
   obtain⟨d,hd,hx⟩:=wk.yld i H' x b0 x'.s1 a3 y;obtain⟨G0,O,rg⟩:=hx H0' x'.s0 ax.sub;have cm:I.drop i=d::I.drop (i+1):=by
    have co:d=I[i]:=by rw [rN a3]at hd;exact(sH hd).symm
    rw [co];exact uK a3
   rw [cm]at M;simp only [kr]at M;obtain⟨γ1,eb,M⟩:=bind_some M;obtain⟨e,ee,M⟩:=bind_some M;obtain⟨jV,er,M⟩:=zt M;have cs:G0 D=none:=O.new D bm (by rw [a9];simp);have bx:b0 D=some (.lst (bs.map V.ref)):=O.s1 _ _ a9;obtain⟨bl,bg⟩:=JW eb;have back : ∀{σ2:St} {G2 H2:Hp},RC K G2 H2 σ2 γ1->RC K G2 H2 σ2 (jn own.length (fr.map (·.2)) γ):=λr=>r.weak bl.symm (λj d' hj=>by
    by_cases hm:j∈T.idx
    ·rcases jU hj with z | ⟨d2,j2,_,hn,_⟩
     ·cases z
     ·exact absurd (hT j hm) ⋯
    ·rw [bg j hm];exact hj) ar as
   refine kP O.sub rg eb λσ1 c3 _=>ce σ1 b0 _ ⟨G0,γ1,true,c3 (ax.ext O),rfl,λH3 c4 x3=>?_⟩;have c5:=(c3 (ax.ext O)).ext x3;have xa:=x'.trans (O.trans x3);have cx:c4 D=none:=x3.new D cs (by rw [bx];simp);have b9:H3 D=some (.lst (bs.map V.ref)):=x3.s1 _ _ bx;dsimp only;rw [if_pos rfl];refine⟨c4,γ1,e,c5,ee,λa4 dn H4 c7 x4 g1 g2 g3 g4=>?_⟩;have bb:c7 D=none:=x4.new D cx (by rw [b9];simp);have d6:H4 D=some (.lst (bs.map V.ref)):=x4.s1 _ _ b9;have xb:=xa.trans x4;have d7:=((ac.ext O).ext x3).ext x4;have d8:=(ac.ext O).ext x3;have ca:D∉bs:=(ux.mp nd).1;have cc:D≠a4:=λz=>by rw [<- z,b9]at g1;cases g1
   have d9:a4∉bs:=λhm=>by
    obtain⟨_,dp,z⟩:=d8.at hm;rw [g1]at z;cases z
   have db:H1 a4=none:=by
    cases z:H1 a4 with
    | none=>rfl
    | some o=>rw [xa.s1 _ _ z]at g1;cases g1
   refine⟨d6,I.length - (i+1),by omega,rfl,a3,by rw [tM,Av];omega,zw,c7,bs++[a4],r1++[e],jV,by simp,(back (c5.ext x4)).upd bb ar as,bb,?_,?_,?_,?_,er,?_⟩
   ·exact⟨xb.s0,λc o z=>by rw [zz (λw=>by rw [w,hD]at z;cases z)];exact xb.s1 c o z,λc o z=>by rw [zz (λw=>by rw [w,bb]at z;cases z)];exact xb.sub c o z,xb.new⟩
   ·exact(d7.add g2 g3 g4).hide (by simp [ca,cc])
   ·refine ux.mpr ⟨by simp [ca,cc],List.nodup_append.mpr ⟨(ux.mp nd).2,by simp,λc hc c' dd=>?_⟩⟩
    have:c'=a4:=by simpa using dd
    subst this;exact λz=>d9 (by rw [<- z];exact hc)
   ·intro b Y
    rcases Au.mp Y with z | z
    ·exact bn b z
    ·have:b=a4:=by simpa using z
     subst this;exact db
   ·rw [<- M];simp
  ·have e:i=I.length:=by omega
   subst e;rw [AE]at M;cases M;rw [Bj]at q;refine .inl ⟨wk.stop H' x'.s1,q D bs H' H0' (x1.trans x') (λb Y=>?_) ⟨bm,a9,nd,ac.1,ac.2⟩⟩;rcases si.mp Y with rfl | Y
   ·exact bi _ hD
   ·exact bi b (bn b Y)
 ·rw [if_neg hl]at ef;cases ef
end
section
variable{K:rH}{E0 E H0 H:Hp}{σ:St}{γ:Ctx}
theorem RS.forget{i:Nat}{v:Option V}(r:RS K E0 E H0 H σ γ):RS K E0 E H0 H (σ.set i v) (γ.set i .no):=by
 have J : ∀{j:Nat} {ds:List D} {b:Addr},(γ.set i .no)[j]? = some (.own ds)->γ[j]? = some (.own ds)/\(σ.set i v)[j]? = σ[j]? :=λ{j ds b} g=>by
  rcases zE g with⟨_,z,_⟩ | ⟨M,z⟩
  ·cases z
  ·exact⟨z,rW (uu M)⟩
 have O : ∀{j:Nat} {rows:List (List D)},(γ.set i .no)[j]? = some (.nest rows)->γ[j]? = some (.nest rows)/\(σ.set i v)[j]? = σ[j]? :=λ{j rows} g=>by
  rcases zE g with⟨_,z,_⟩ | ⟨M,z⟩
  ·cases z
  ·exact⟨z,rW (uu M)⟩
 refine⟨⟨r.rc.sub,by simp [r.rc.len],λj d' g=>?_,λj ds g=>?_,λj k b ds fs e1 e2 Y e4=>?_,⟨λj rows g=>?_,λj k r1 r2 I g2=>r.rc.nst.2 j k r1 r2 (O I).1 (O g2).1⟩⟩,r.ext,λj ds b I g2=>?_,λj rows b xs I g2 g3=>?_⟩
 ·rcases zE g with⟨_,z,_⟩ | ⟨M,z⟩
  ·cases z
  ·obtain⟨v',I,g2⟩:=r.rc.val j d' z
   exact⟨v',by rw [rW (uu M)];exact I,g2⟩
 ·obtain⟨z1,z2⟩:=J (b:=0) g
  rw [z2];exact r.rc.own j ds z1
 ·obtain⟨z1,z2⟩:=J (b:=0) e1
  obtain⟨z3,z4⟩:=J (b:=0) e2;rw [z2]at Y;rw [z4]at e4;exact r.rc.ne j k b ds fs z1 z3 Y e4
 ·obtain⟨z1,z2⟩:=O g
  obtain⟨a,bs,h1,h2,h3⟩:=r.rc.nst.1 j rows z1;refine⟨a,bs,by rw [z2];exact h1,h2,λk ds c e1 e2=>?_⟩;obtain⟨z3,z4⟩:=J (b:=0) e1;rw [z4]at e2;exact h3 k ds c z3 e2
 ·obtain⟨z1,z2⟩:=J (b:=0) I
  rw [z2]at g2;exact r.fresh j ds b z1 g2
 ·obtain⟨z1,z2⟩:=O I
  rw [z2]at g2;exact r.fr2 j rows b xs z1 g2 g3
theorem Jv : ∀{l:List Addr} {m t:Nat} {b:Addr},l.Nodup->l[m]? = some b->l[t]? = some b->m=t
 | [],m,t,b,_,h,_=>by simp at h
 | c::l,m,t,b,nd,h1,h2=>by
  obtain⟨n1,n2⟩:=ux.mp nd;cases m with
  | zero=>
   cases t with
   | zero=>rfl
   | succ t=>
    have e1:c=b:=by simpa using h1
    have e2:l[t]? = some b:=by simpa using h2
    exact absurd (sy e2) (e1 ▸ n1)
  | succ m=>
   cases t with
   | zero=>
    have e1:c=b:=by simpa using h2
    have e2:l[m]? = some b:=by simpa using h1
    exact absurd (sy e2) (e1 ▸ n1)
   | succ t=>exact congrArg (· + 1) (Jv (b:=b) n2 (by simpa using h1) (by simpa using h2))
end
section
variable{K:rH}{E0 E H0 H:Hp}{σ:St}{γ:Ctx}
theorem RS.freeze{i:Nat}{ds:List D}(r:RS K E0 E H0 H σ γ)(e:γ[i]? = some (.own ds)) : ∃H0',RS K E0 E H0' H σ (γ.set i (.val (.lst ds))):=by
 obtain⟨a,xs,h1,h2,O,Y⟩:=r.rc.own i ds e;have ea:=r.fresh i ds a e h1;obtain⟨H0',s0,M⟩ : ∃H0',H0'=upd H0 a (.lst xs)/\RC K H0' H σ (γ.set i (.val (.lst ds))):=by
  refine⟨_,rfl,?_⟩;exact RC.lendAt r.rc e h1 h2 O Y
 subst s0;refine⟨_,M,⟨r.ext.s0.trans (zR h2 _),r.ext.s1,M.sub,λc q1 I=>?_⟩,λj es b J g2=>?_,λj rows b ys J g2 g3=>?_⟩
 ·rw [zz (λz=>by rw [z,ea]at I;exact I rfl)];exact r.ext.new c q1 I
 ·rcases zE J with⟨_,z,_⟩ | ⟨_,z⟩
  ·cases z
  ·exact r.fresh j es b z g2
 ·rcases zE J with⟨_,z,_⟩ | ⟨_,z⟩
  ·cases z
  ·exact r.fr2 j rows b ys z g2 g3
end
section
variable{X:Cx}{st:Stmt}{F:CO Fl}
theorem Qi(i:Nat)(h:PSD X st F):PSD X st (aO i F):=qm h λD σ H I=>by
 obtain⟨E0,E,H0,γ,J,rs,z,M⟩:=I;obtain⟨ds,e1,z⟩:=bind_some z;obtain⟨H0',O⟩:=rs.freeze (xH e1);exact⟨E0,E,H0',_,J,O,z,M⟩
end
section
variable{X:Cx}{sc:Scope}{N L:List Str}{k:Nat}{o e a b:Expr}{apos cpos pos p:Pos}{f g:CO D}{q:CO (Sk×List D)}
theorem Zf{x:Str}(h:jg x=true):x.length<=1000:=of_decide_eq_true h
theorem wF{x:Str}(h:jg x=true):x.length<=sizeLine:=tP (Zf h) ⋯
theorem Wo(ha:PV X a f)(M:PV X b g)(O:ZL b:=by intro _ _;rfl):PV X (.Subscript a b pos) (Z9 f g):=
 jO (dw iJ ha M O) λσ H Q Y=>by
  obtain⟨H0,γ,d,rc,I,q⟩:=Y;obtain⟨d1,e1,I⟩:=bind_some I;obtain⟨i,e2,I⟩:=bind_some I;obtain⟨di,e3,e2⟩:=bind_some e2;cases d1 with
  | str z=>
   by_cases J:jg z=true
   ·have I:(if jg z=true then (ixD z.cps.toList.length i).bind λk=>z.cps.toList[k]?.map λc=>D.str ⟨#[c]⟩else none)=some d:=I
    rw [if_pos J]at I;obtain⟨j,e4,I⟩:=bind_some I;obtain⟨c,e5,rfl⟩:=zt I;refine⟨H0,γ,_,rc,e1,λv H' H0' x r=>⟨H0',γ,di,rc.ext x,e3,λv2 H2 a4 x2 r2=>?_⟩⟩;rw [jy e2]at r2;refine⟨z,i,c,r,jm r2,wF J,?_,q _ H2 a4 (x.trans x2) rfl⟩;unfold atI;rw [wN e4];exact e5
   ·have I:(if jg z=true then (ixD z.cps.toList.length i).bind λk=>z.cps.toList[k]?.map λc=>D.str ⟨#[c]⟩else none)=some d:=I
    rw [if_neg J]at I;cases I
  | _=>cases I
theorem cV(h:SX X sc N L k)(c:xu sc "len" = true)(z:X.mg "len" = none)(ha:PV X e f)(M:starEach [e] X.env=[(false,eval e X.env)]:=by rfl):PV X (.Call (.Name "len" p) [e] [] pos) (Kf f):=
 jO (xh JR (h.gl c).1 z PySem.boot_len (zK ha jw M) ⋯ ⋯ M rfl) λσ H Q O=>by
  obtain⟨H0,γ,d,rc,I,q⟩:=O;obtain⟨d1,e1,I⟩:=bind_some I;cases d1 with
  | str z=>
   by_cases J:jg z=true
   ·have I:(if jg z=true then some (D.int z.length)else none)=some d:=I
    rw [if_pos J]at I;cases I;refine⟨H0,γ,_,rc,e1,λv H' H0' x r=>⟨z,by rw [show v = .str z from r],wF J,q _ H' H0' x rfl⟩⟩
   ·have I:(if jg z=true then some (D.int z.length)else none)=some d:=I
    rw [if_neg J]at I;cases I
  | _=>cases I
end
section
variable{X:Cx}{sc:Scope}{N L:List Str}{k:Nat}{b:Expr}{f:CO D}
theorem gJ{a:Expr}{g:CO D}{p pos:Pos}(h:SX X sc N L k)(c:xu sc "min" = true)(z:X.mg "min" = none)(ha:PV X a f)(Y:PV X b g)(O:starEach [a,b] X.env=[(false,eval a X.env),(false,eval b X.env)]:=by rfl)(J:starEach [b] X.env=[(false,eval b X.env)]:=by rfl) :
 PV X (.Call (.Name "min" p) [a,b] [] pos) (cJ f g):=
 jO (xh (Vq h.calm) (h.gl c).1 z PyProof.Rows.boot_min (zK ha (zK Y jw J) (by rw [O,J])) ⋯ ⋯ (by rw [O,J]) (by rw [J];rfl)) λσ H Q hZ=>by
  obtain⟨H0,γ,d,rc,I,q⟩:=hZ;obtain⟨i,e1,I⟩:=bind_some I;obtain⟨d1,e0,e1⟩:=bind_some e1;obtain⟨j,M,I⟩:=zt I;obtain⟨d2,e2,M⟩:=bind_some M;subst I;refine⟨H0,γ,d1,rc,e0,λv H' H0' x r=>⟨H0',γ,d2,rc.ext x,e2,λv2 H2 a2 x2 r2=>⟨i,j,?_,q _ H2 a2 (x.trans x2) rfl⟩⟩⟩;rw [jy e1]at r;rw [jy M]at r2;rw [jm r,jm r2]
end
section ap
variable(γ:Ctx)
@[simp] theorem qN(f):zC f γ=(f γ).bind jE:=rfl
@[simp] theorem wW(f):ja f γ=(f γ).map D.lst:=rfl
@[simp] theorem yk(f):jb f γ=(f γ).map λds=>(Sk.L,ds):=rfl
@[simp] theorem zT(i):zd i γ=QC γ[i]? :=rfl
@[simp] theorem qp(i):zf i γ=ku γ[i]? :=rfl
@[simp] theorem xq(d):zk d γ=some d:=rfl
@[simp] theorem vW(F a b):zh F a b γ=(a γ).bind λx=>(b γ).bind λy=>F x y:=rfl
@[simp] theorem pF(f):sB f γ=(f γ).bind asB:=rfl
@[simp] theorem oF(f g):vi f g γ=(f γ).bind λb=>if b=true then g γ else some false:=rfl
@[simp] theorem lG(f g):Jc f g γ=(f γ).bind λb=>if b=true then some true else g γ:=rfl
@[simp] theorem ou(f):qd f γ=(f γ).map λb=> !b:=rfl
@[simp] theorem pE(f g):cM f g γ=((f γ).bind asB).bind λb=>if b=true then g γ else some (.bl false):=rfl
@[simp] theorem pz(f):cH f γ=((f γ).bind asB).map λb=> .bl (!b):=rfl
@[simp] theorem pC(c f g):cK c f g γ=(c γ).bind λb=>if b=true then f γ else g γ:=rfl
@[simp] theorem kW:zy γ=some []:=rfl
@[simp] theorem xK(f g):za f g γ=(f γ).bind λx=>(g γ).map λr=>x::r:=rfl
@[simp] theorem lF(f):yK f γ=(f γ).bind λds=>if ds.length<=lim then some (.tup ds)else none:=rfl
@[simp] theorem fi(f):jI f γ=(f γ).bind λds=>if ds.length<=lim then some ds else none:=rfl
@[simp] theorem oz:jS γ=some (.next γ):=rfl
@[simp] theorem bH(f):qB f γ=(f γ).map λd=> .ret (.val d):=rfl
@[simp] theorem Vz(f):xc f γ=(f γ).map λd=> .ret (.own d):=rfl
@[simp] theorem ot(i):qZ i γ=ZF γ[i]? :=rfl
@[simp] theorem oC:Wg γ=some (.cont γ):=rfl
@[simp] theorem fo(k F G):sIf k F G γ=(k γ).bind λb=>if b=true then F γ else G γ:=rfl
@[simp] theorem XQ(i f):zW i f γ=(f γ).map λd=> .next (γ.set i (.val d)):=rfl
@[simp] theorem fg(i f):qQ i f γ=(f γ).map λds=> .next (γ.set i (.own ds)):=rfl
@[simp] theorem J1(i f):qH i f γ=(xn γ[i]?).bind λds=>(f γ).bind λd=>if ds.length<lim then some (.next (γ.set i (.own (ds++[d]))))else none:=rfl
@[simp] theorem vV(F g):zx F g γ=(g γ).bind λds=>(F ds).map gw:=rfl
@[simp] theorem ZJ(F g):zP F g γ=(g γ).bind λds=>(F ds).bind fB:=rfl
@[simp] theorem xX(f):zA f γ=(f γ).map (·.2):=rfl
@[simp] theorem qa(f):zJ f γ=((f γ).bind asI).bind λn=>if inR n=true then some (qf 0 n.toNat)else none:=rfl
@[simp] theorem VA(f g):qk f g γ=((f γ).bind asI).bind λm=>((g γ).bind asI).bind λn=>if inR m=true/\inR n=true then some (qf m (n - m).toNat)else none:=rfl
@[simp] theorem bG(f g):Z8 f g γ=((f γ).bind jE).bind λm=>((g γ).bind jE).map λn=>XX m.2 n.2:=rfl
@[simp] theorem XS(src T F):xY src T F γ=(src γ).bind λds=>qo T F ds γ:=rfl
@[simp] theorem qb(src T n fr k f):zB src T n fr k f γ=(src γ).bind λds=>if ds.length<=lim then zN T k f (jn n fr γ) ds else none:=rfl
@[simp] theorem pv:z7 γ=some true:=rfl
@[simp] theorem oE(f g):Qc f g γ=(f γ).bind λa=>(g γ).bind λb=>match a.1,b.1 with
 | .L,.L=>if a.2.length+b.2.length<=lim then some (a.2++b.2)else none
 | _,_=>none:=rfl
@[simp] theorem yE(f g):sIx f g γ=(f γ).bind λa=>((g γ).bind asI).bind λi=>(ixD a.2.length i).bind λk=>a.2[k]? :=rfl
@[simp] theorem pA:fz γ=some none:=rfl
@[simp] theorem rC(f):sBd f γ=((f γ).bind asI).map some:=rfl
@[simp] theorem px(f l h):fy f l h γ=(f γ).bind λd=>(l γ).bind λlo=>(h γ).bind λhi=>match d with
 | .tup xs=>some (.tup (VM xs lo hi))
 | _=>none:=rfl
@[simp] theorem lJ(f):wg f γ=(f γ).map λa=> .int a.2.length:=rfl
@[simp] theorem rB(T f):sIs T f γ=(f γ).map λd=> .bl (Y0 T d):=rfl
@[simp] theorem xW(f):zI f γ=(f γ).map λa=> .tup a.2:=rfl
@[simp] theorem lH(f):ql f γ=(f γ).map λa=>a.2:=rfl
@[simp] theorem pw(f):cG f γ=(f γ).bind λa=>(VJ a.2).map D.int:=rfl
@[simp] theorem lM(f):Wi f γ=(f γ).bind λa=>(y7 a.2).map λs=> .bl (s.all id):=rfl
@[simp] theorem pD(f):lT f γ=(f γ).bind λa=>(y7 a.2).map λs=> .bl (s.any id):=rfl
@[simp] theorem oB(f):Wf f γ=(f γ).bind λd=>match d with
 | .int i=>some (.int i)
 | .bl b=>some (.int (if b then 1 else 0))
 | _=>none:=rfl
@[simp] theorem oq(f):Wd f γ=(f γ).map λa=> !a.2.isEmpty:=rfl
theorem jh(F G):zM F G γ=(F γ).bind λz=>match z with
 | .next γ'=>G γ'
 | f=>some f:=rfl
end ap
@[simp] theorem lC(ds):jE (.tup ds)=some (.T,ds):=rfl
@[simp] theorem xI(ds):jE (.lst ds)=some (.L,ds):=rfl
@[simp] theorem zo(d):QC (some (.val d))=some d:=rfl
@[simp] theorem zU(d):ku (some (.val d))=jE d:=rfl
@[simp] theorem eU(d):ku (some (.own d))=some (.L,d):=rfl
@[simp] theorem xm(d):xn (some (.own d))=some d:=rfl
@[simp] theorem eV(d):ZF (some (.val d))=some (.ret (.val d)):=rfl
@[simp] theorem eX(d):ZF (some (.own d))=some (.ret (.own d)):=rfl
@[simp] theorem pq(b):asB (.bl b)=some b:=rfl
@[simp] theorem z9(b):asI (.int b)=some b:=rfl
@[simp] theorem yM(d):gw (.val d)=d:=rfl
@[simp] theorem lU(d):gw (.own d) = .lst d:=rfl
@[simp] theorem Q4(d):fB (.own d)=some d:=rfl
@[simp] theorem af(i j):xw (.int i) (.int j)=some (.int (i - j)):=rfl
@[simp] theorem XG(i j):j4 (.int i) (.int j)=some (.int (i+j)):=rfl
@[simp] theorem mz(i j):jA (.int i) (.int j)=if 0<j then some (.int (i%j))else none:=by
 show(if VN i j=true then _ else _)=_;simp [VN]
@[simp] theorem ag(i j):ko (.int i) (.int j)=if 0<j/\j<1073741824 then some (.int (i/j))else none:=by
 show(if au i j=true then _ else _)=_;have e:(au i j=true)=(0<j/\j<1073741824):=by
  unfold au;rw [sr,decide_eq_true_eq,decide_eq_true_eq];apply propext;constructor<;>intro h<;>exact⟨h.1,by omega⟩
 simp only [e]
@[simp] theorem XE(i j):qg (.int i) (.int j)=if yw i j=true then some (.int (i*j))else none:=rfl
@[simp] theorem my(i j):eH (.int i) (.int j)=if ly i j=true then some (.int (i ^ j.toNat))else none:=rfl
@[simp] theorem og(i j):dLt (.int i) (.int j)=some (.bl (decide (i<j))):=rfl
@[simp] theorem oh(i j):dLe (.int i) (.int j)=some (.bl (decide (i<=j))):=rfl
@[simp] theorem oi(i j):dGt (.int i) (.int j)=some (.bl (decide (j<i))):=rfl
@[simp] theorem oj(i j):dGe (.int i) (.int j)=some (.bl (decide (j<=i))):=rfl
@[simp] theorem om(i j):dEq (.int i) (.int j)=some (.bl (decide (i=j))):=by
 unfold dEq;rw [if_pos ⟨rfl,rfl⟩];exact congrArg (λb=>some (D.bl b)) (by rw [BO];simp [eqD])
@[simp] theorem oa(i j):dNe (.int i) (.int j)=some (.bl (!decide (i=j))):=by
 unfold dNe;rw [if_pos ⟨rfl,rfl⟩];exact congrArg (λb=>some (D.bl !b)) (by rw [BO];simp [eqD])
@[simp] theorem gj(i is d ds γ):jX (i::is) (d::ds) γ=jX is ds (γ.set i (.val d)):=rfl
@[simp] theorem gi(ds γ):jX [] ds γ=γ:=by cases ds<;>rfl
@[simp] theorem xo(i d γ):jx (.nm i) d γ=some (γ.set i (.val d)):=rfl
@[simp] theorem vS(i j a b γ):jx (.tp [i,j]) (.tup [a,b]) γ=some ((γ.set i (.val a)).set j (.val b)):=rfl
@[simp] theorem Wc(γ:Ctx)(G:CO Fl):(some (Fl.next γ)).bind (λz=>match z with
 | .next γ'=>G γ'
 | f=>some f)=G γ:=rfl
theorem Vu(i j:Int)(h1 : -(2 ^ 64)<j)(h2:j<2 ^ 64):yw i j=true:=by
 unfold yw;rw [uo];right;exact decide_eq_true ⋯
theorem qi(i j:Int)(h1 : -(2 ^ 64)<i)(h2:i<2 ^ 64):yw i j=true:=by
 unfold yw;rw [uo];left;exact decide_eq_true ⋯
theorem yv{i:Int}(h1 : -(2 ^ 62)<i)(h2:i<2 ^ 62):inR i=true:=by
 unfold inR;exact decide_eq_true ⋯
@[simp] theorem jq(n k:Nat):ixD n (k:Int)=if k<n then some k else none:=by
 unfold ixD;by_cases h:k<n
 ·rw [if_pos ⟨Int.natCast_nonneg k,by omega⟩,if_pos h];simp
 ·rw [if_neg ⋯,if_neg ⋯,if_neg h]
theorem jt:lim=2500:=rfl
@[simp] theorem WT:0<=lim:=tZ _
@[simp] theorem mr:1<=lim:=by decide
@[simp] theorem mq:2<=lim:=by decide
@[simp] theorem mn:3<=lim:=by decide
@[simp] theorem mj:4<=lim:=by decide
@[simp] theorem mi:5<=lim:=by decide
@[simp] theorem mh:6<=lim:=by decide
@[simp] theorem mf:7<=lim:=by decide
@[simp] theorem me:8<=lim:=by decide
@[simp] theorem lZ:0<lim:=by decide
@[simp] theorem qR{n:Nat}(h:n<=lim):inR (n:Int)=true:=yv ⋯ (by have:=jt;omega)
@[simp] theorem ix0(n:Nat):ixD (n+1) 0=some 0:=jq (n+1) 0 ▸ rfl
@[simp] theorem ix1(n:Nat):ixD (n+2) 1=some 1:=by
 have:=jq (n+2) 1;simpa using this
@[simp] theorem ix2(n:Nat):ixD (n+3) 2=some 2:=by
 have:=jq (n+3) 2;simpa using this
theorem zu{α:Type}{T:Tg}{k:CO Bool}{f:CO D}{γ:Ctx}{g:α->D}(r:α->D) : ∀(l:List α),(∀x∈l,zN T k f γ [g x]=some [r x])->zN T k f γ (l.map g)=some (l.map r)
 | [],_=>rfl
 | x::l,h=>by
  have h1:=h x rX;have h2:=zu r l λy z=>h y (sd _ z);simp only [sJ,zN]at h1 ⊢;cases e1:jx T (g x) γ with
  | none=>rw [e1]at h1;simp at h1
  | some γ1=>
   rw [e1]at h1;simp only [rL]at h1 ⊢;cases e2:k γ1 with
   | none=>rw [e2]at h1;simp at h1
   | some b=>
    rw [e2]at h1;simp only [rL]at h1 ⊢;cases b with
    | false=>simp at h1
    | true=>
     simp only [if_pos]at h1 ⊢;cases e3:f γ1 with
     | none=>rw [e3]at h1;simp at h1
     | some e=>
      rw [e3]at h1;simp at h1;rw [h2];simp [h1]
theorem zv{k:CO Bool}{f:CO D}{γ γ1:Ctx}{T:Tg}{d e:D}(h1:jx T d γ=some γ1)(h2:k γ1=some true)(z:f γ1=some e):zN T k f γ [d]=some [e]:=by
 simp [zN,h1,h2,z]
theorem jj(T F d ds γ):qo T F (d::ds) γ=(jx T d γ).bind λγ1=>(F γ1).bind λI=>match I with
 | .next z=>qo T F ds z
 | .cont z=>qo T F ds z
 | .brk z=>some (.next z)
 | .ret r=>some (.ret r):=rfl
theorem vN{T:Tg}{F:CO Fl}(P:Nat->Ctx->Prop) : ∀(ds:List D) (k:Nat) (γ:Ctx),P k γ->(∀i d γ,ds[i]? = some d->P (k+i) γ->∃γ',((jx T d γ).bind F=some (.next γ')\/(jx T d γ).bind F=some (.cont γ'))/\P (k+i+1) γ')->
 ∃γ',qo T F ds γ=some (.next γ')/\P (k+ds.length) γ'
 | [],k,γ,h,_=>⟨γ,rfl,h⟩
 | d::ds,k,γ,h,step=>by
  obtain⟨γ1,e,h1⟩:=step 0 d γ rfl h;obtain⟨γ',e2,h2⟩:=vN P ds (k+1) γ1 (by simpa using h1) (λi d' z hd I=>by
   have:=step (i+1) d' z (by simpa using hd) (by rw [show k+(i+1)=k+1+i by omega];exact I);rw [show k+(i+1)+1=k+1+i+1 by omega]at this;exact this)
  refine⟨γ',?_,by rw [show k+(d::ds).length=k+1+ds.length by simp;omega];exact h2⟩;rw [jj];cases eb:jx T d γ with
  | none=>rw [eb]at e;simp at e
  | some J=>
   rw [eb]at e;simp only [rL]at e ⊢;rcases e with e | e<;>rw [e]<;>exact e2
def zD(n:Nat)(f:Nat->Int):List D:=(rO n).map λi=>D.int (f i)
theorem zF(n f):zD n f=(rO n).map λi=>D.int (f i):=rfl
def zG(h w:Nat)(f:Nat->Nat->Int):List D:=(rO h).map λi=>D.tup (zD w (f i))
def xU(h w:Nat)(f:Nat->Nat->Int):D:= .tup [.int h,.int w,.tup (zG h w f)]
@[simp] theorem qr(n f):(zD n f).length=n:=by simp [zD]
@[simp] theorem mx(h w f):(zG h w f).length=h:=by simp [zG]
@[simp] theorem nX{n i:Nat}(f)(h:i<(zD n f).length):(zD n f)[i] = .int (f i):=by simp [zD]
theorem yU{n i:Nat}(f)(h:i<n):(zD n f)[i]? = some (.int (f i)):=by simp [zD,h]
@[simp] theorem nZ{h w i:Nat}(f)(hi:i<(zG h w f).length):(zG h w f)[i] = .tup (zD w (f i)):=by simp [zG]
theorem Xy{n:Nat}{f g:Nat->Int}(h : ∀i,i<n->f i=g i):zD n f=zD n g:=by
 unfold zD;apply sf;intro i hi;rw [h i (rV.mp hi)]
theorem Xz{h w:Nat}{f g:Nat->Nat->Int}(e : ∀i j,i<h->j<w->f i j=g i j):zG h w f=zG h w g:=by
 unfold zG;apply sf;intro i hi;rw [Xy λj z=>e i j (rV.mp hi) z]
theorem je(n:Nat):qf 0 n=zD n λi=>(i:Int):=by simp [qf,zD]
theorem xN(n:Nat)(f g:Nat->Int):XX (zD n f) (zD n g)=(rO n).map λi=>D.tup [.int (f i),.int (g i)]:=by
 unfold XX zD;rw [List.zip_map'];simp
def sumTo(f:Nat->Int):Nat->Int
 | 0=>0
 | n+1=>sumTo f n+f n
theorem va : ∀(xs:List Int) (y:Int),VJ (xs.map D.int++[.int y])=(VJ (xs.map D.int)).map λs=>s+y
 | [],y=>by simp [VJ]
 | x::xs,y=>by
  simp only [sJ,List.cons_append,VJ];rw [va xs y];cases e:VJ (xs.map D.int)<;>simp [Int.add_assoc]
theorem y9(f:Nat->Int) : ∀n,VJ (zD n f)=some (sumTo f n)
 | 0=>rfl
 | n+1=>by
  have z:=y9 f n;have e : ∀m,zD m f=((rO m).map f).map D.int:=λm=>by simp [zD]
  rw [e]at z ⊢;rw [uN,uf,uf,List.map_singleton,List.map_singleton,va,z];simp [sumTo]
def F_rests:List D->Option Res:=jv 2 (qB (zI (jb (zB (zA (zf 1)) (.nm 0) 1 [0] z7 (zh jA (zd 0) (zd 1))))))
def F_led:List D->Option Res:=jv 3 (qB (zx F_rests (za (zd 0) (za (ja (zB (zA (zC (sIx (zf 1) (zk (.int 2))))) (.nm 0) 1 [2] z7 (cG (jb (zB (Z8 (zd 0) (zd 1)) (.tp [0,1]) 2 [] z7 (zh qg (zd 0) (zd 1))))))) zy))))
def F_turned_over:List D->Option Res:=jv 2 (zM (zW 1 (ja (zB (zJ (sIx (zf 0) (zk (.int 1)))) (.nm 0) 1 [0] z7 (zI (jb (zB (zA (zC (sIx (zf 1) (zk (.int 2))))) (.nm 0) 1 [0] z7 (sIx (zf 0) (zd 1)))))))) (qB (yK (za (sIx (zf 0) (zk (.int 1))) (za (sIx (zf 0) (zk (.int 0))) (za (zI (zf 1)) zy))))))
def F_same_table:List D->Option Res:=jv 2 (zM (zW 1 (ja (zB (zJ (zd 0)) (.nm 0) 1 [0] z7 (zI (jb (zB (zJ (zd 1)) (.nm 0) 1 [0] z7 (cK (sB (zh dEq (zd 1) (zd 0))) (zk (.int 1)) (zk (.int 0))))))))) (qB (yK (za (zd 0) (za (zd 0) (za (zI (zf 1)) zy))))))
def F_law_whole:List D->Option Res:=jv 1 (qB (cM (sIs .int (zd 0)) (cH (sIs .bool (zd 0)))))
def F_inverse:List D->Option Res:=jv 3 (zM (xY (qk (zk (.int 1)) (zd 0)) (.nm 2) (sIf (sB (zh dEq (zh jA (zh qg (zd 1) (zd 2)) (zd 0)) (zk (.int 1)))) (qZ 2) jS)) Jd)
def F_cleared:List D->Option Res:=jv 5 (zM (zW 4 (sIx (zf 1) (zd 3))) (zM (sIf (sB (zh dEq (zd 4) (zk (.int 0)))) (qZ 1) jS) (qB (zx F_rests (za (zd 0) (za (ja (zB (Z8 (zd 1) (zd 2)) (.tp [0,1]) 2 [4] z7 (zh xw (zd 0) (zh qg (zd 2) (zd 1))))) zy))))))
def F_base_of:List D->Option Res:=jv 9 (zM (zW 3 (ja (zB (zA (zf 2)) (.nm 0) 1 [0] z7 (zx F_rests (za (zd 1) (za (zd 0) zy)))))) (zM (qQ 4 (jI zy)) (zM (xY (zJ (zd 1)) (.nm 5) (zM (zW 6 (ja (zB (zA (zf 3)) (.nm 0) 1 [5] (sB (zh dNe (sIx (zf 0) (zd 1)) (zk (.int 0)))) (zd 0)))) (zM (sIf (qd (Wd (zf 6))) Wg jS) (zM (zW 7 (zx F_inverse (za (zd 0) (za (sIx (zC (sIx (zf 6) (zk (.int 0)))) (zd 5)) zy)))) (zM (zW 8 (zx F_rests (za (zd 0) (za (ja (zB (zA (zC (sIx (zf 6) (zk (.int 0))))) (.nm 0) 1 [7] z7 (zh qg (zd 1) (zd 0)))) zy)))) (zM (zW 3 (ja (zB (zA (zf 3)) (.nm 0) 1 [0,5,8] z7 (zx F_cleared (za (zd 1) (za (zd 0) (za (zd 3) (za (zd 2) zy)))))))) (qQ 4 (Qc (jb (zB (zA (zf 4)) (.nm 0) 1 [0,5,8] z7 (zx F_cleared (za (zd 1) (za (zd 0) (za (zd 3) (za (zd 2) zy))))))) (jb (jI (za (zd 8) zy))))))))))) (qZ 4))))
def F_behind_noughts:List D->Option Res:=jv 2 (xc (zB (zA (zf 1)) (.nm 0) 1 [0] (qd (sB (lT (zC (fy (zd 0) fz (sBd (zd 1))))))) (fy (zd 0) (sBd (zd 1)) fz)))
def F_led_into:List D->Option Res:=jv 5 (zM (zW 3 (ja (zB (Z8 (sIx (zC (zx F_turned_over (za (zd 1) zy))) (zk (.int 2))) (sIx (zC (zx F_same_table (za (sIx (zf 1) (zk (.int 1))) zy))) (zk (.int 2)))) (.tp [0,1]) 2 [] z7 (zh j4 (zd 0) (zd 1))))) (zM (zW 4 (ja (zB (zA (zf 2)) (.nm 0) 1 [1] z7 (zh j4 (zd 0) (zh qg (yK (za (zk (.int 0)) zy)) (sIx (zf 1) (zk (.int 1)))))))) (xc (zP F_behind_noughts (za (sIx (zf 1) (zk (.int 0))) (za (ja (zP F_base_of (za (zd 0) (za (zh j4 (sIx (zf 1) (zk (.int 0))) (sIx (zf 1) (zk (.int 1)))) (za (ja (Qc (zf 3) (zf 4))) zy))))) zy))))))
section
variable(γ:Ctx)
@[simp] theorem mG(F G a b c):ym F G a b c γ=(a γ).bind λx=>(b γ).bind λy=>((F x y).bind asB).bind λk=>if k=true then (c γ).bind λz=>G y z else some (.bl false):=rfl
@[simp] theorem ff(T f):Jb T f γ=(f γ).bind λd=>(jx T d γ).map .next:=rfl
end
section
variable(γ:Ctx)
@[simp] theorem mF(src T n fr f):Je src T n fr f γ=(src γ).bind λds=>if ds.length<=lim then kr T f (jn n fr γ) ds else none:=rfl
@[simp] theorem lK(i F):aO i F γ=(xn γ[i]?).bind λds=>F (γ.set i (.val (.lst ds))):=rfl
end
section
variable(γ:Ctx)
@[simp] theorem az(f g):Z9 f g γ=(f γ).bind λd=>((g γ).bind asI).bind λi=>match d with
 | .str z=>if jg z=true then (ixD z.cps.toList.length i).bind λk=>z.cps.toList[k]?.map λc=> .str ⟨#[c]⟩else none
 | _=>none:=rfl
@[simp] theorem fj(f):Kf f γ=(f γ).bind λd=>match d with
 | .str z=>if jg z=true then some (.int z.length)else none
 | _=>none:=rfl
end
def wA:List D->Option Res:=jv 2 (qB (cK (sB (zh dEq (zd 1) (zk (.str "r")))) (zd 0) (zh j4 (zd 0) (zk (.int 1)))))
def aE:List D->Option Res:=jv 2 (qB (cK (sB (zh dEq (zd 1) (zk (.str "r")))) (zh j4 (zd 0) (zk (.int 1))) (zd 0)))
def ng(f:CO D):CO D:=λγ=>(f γ).map λd=> .bl (Y0 .list d || Y0 .tuple d)
def KN:List D->Option Res:=jv 1 (qB (cM (sIs .int (zd 0)) (cH (sIs .bool (zd 0)))))
def J3:List D->Option Res:=jv 2 (qB (cM (zx KN (za (zd 1) zy)) (ym dLe dLt (zk (.int 0)) (zd 1) (zd 0))))
def QJ:List D->Option Res:=jv 2 (qB (cM (ng (zd 0)) (zh dEq (wg (zf 0)) (zd 1))))
theorem yP{X:Cx}{es:List Expr}{n:Nat}{g:CO (List D)}(h:PAn X es n g):PAD X es g:=h.1
section
variable{K:rH}{E0 E H0 H:Hp}{σ:St}{γ:Ctx}
theorem Reps.dropLast : ∀{ds:List D} {xs:List V},Reps K H ds xs->Reps K H ds.dropLast xs.dropLast
 | [],xs,r=>by rw [r.inv_nil];exact Reps.nil
 | [d],xs,r=>by
  obtain⟨x,r',e,_,r2⟩:=r.inv_cons;rw [e,r2.inv_nil];exact Reps.nil
 | d::d2::ds,xs,r=>by
  obtain⟨x,r',e,r1,r2⟩:=r.inv_cons;obtain⟨z,r3,e2,_,_⟩:=r2.inv_cons;subst e e2;exact Reps.cons r1 (Reps.dropLast r2)
end
end DL
namespace L2
open PySem PySem.Spec PyProof.Rows
theorem nK(z:Str):strIterType z = "str_ascii_iterator"\/strIterType z = "str_iterator":=by unfold strIterType;split<;>simp
theorem Xx{X:Cx}{pins:List (Addr×Obj)}{σ:St}{H:Hp}{s:Shared}{E:Value->Shared->Prop}{z it:Addr}{i tk:Nat}{x:Value}{v:V}{g:Heap}{elts:List Expr}{x1:Nat}{tpos:Pos}{Q:Unit->Shared->Prop}
 (I:Inv X pins σ H s) (Y : ∀b ∈ [z,it],FpOk X pins H b) (hz:z<s.heap.objs.size) (hi:it<s.heap.objs.size) (a1:IsEnumOut g z it ((i:Int)+1) x s.heap.objs.size)
 (a3:IsPair g s.heap.objs.size (.int i tk) x) (a5 : ∀b o,b≠z->b≠it->s.heap.get? b=some o->g.get? b=some o) (rx:RelV v x)
 (a8 : ∀g2,IsEnum g2 z it ((i+1:Nat):Int) x->Ah z g g2->Inv X pins σ (upd H s.heap.objs.size (.tup [.int i,v])) {s with heap:=g2,toks:=tk+1}->H s.heap.objs.size=none->
   (∀b ∈ [z,it],upd H s.heap.objs.size (.tup [.int i,v]) b=none)->Q () {s with heap:=g2,toks:=tk+1}) :
 wpAny (model X.prog X.w) X.A (letOwnedTupleGo (.Tuple elts x1 tpos) (.ref z) (.ref s.heap.objs.size)) Q E {s with heap:=g,toks:=tk+1}:=by
 refine wpAny_letOwnedTupleGo_enum a1 λg2 a9 O=>?_;have ac:IsPair g2 s.heap.objs.size (.int i tk) x:=O.extBut _ _ (Ai hz) a3;have kk : ∀J u,J ∉ [z,it]->s.heap.get? J=some u->g2.get? J=some u:=λJ u M e=>by
  simp only [si,tq,or_false,not_or]at M;exact O.extBut _ _ M.1 (a5 J u M.1 M.2 e)
 refine a8 g2 (by have:=a9;rwa [show((i:Int)+1)=((i+1:Nat):Int)by omega]at this) O (I.turnLaid (fp:=[z,it]) kk Y (se _) ⟨by show 2<=sizeLine;decide,[.int i tk,x],.cons ⟨_,rfl⟩ (.cons rx .nil),⟨_,ac,rfl,_,rfl⟩⟩) I.fresh λJ M=>?_;have an:J≠s.heap.objs.size:=by
  simp only [si,tq,or_false]at M;rcases M with rfl | rfl
  ·exact sF hz
  ·exact sF hi
 rw [zz an];exact(Y J M).1
def oK(K:rH)(a:Addr):It:=
 ⟨λi H=>∃xs,SqL K H a xs/\i<xs.length,
  λi H x H'=>∃p u,x = .ref p/\H p=none/\H'=upd H p (.tup [.int i,u])/\(∀xs,SqL K H a xs->xs[i]? = some u),
  λi H=>∃xs,SqL K H a xs/\xs.length=i⟩
theorem X5{P:Program}{w:World}{K:rH}{elts:List Expr}{x1:Nat}{tpos:Pos}{z it a:Addr}(a9:z≠it) :
 Turn P w K (.Tuple elts x1 tpos) (oK K a) [z,it] z (λi h=>(∃O,IsEnum h z it i O)/\h.IsListIter it a i) where
 mem:=by simp
 obj:=λi h ⟨⟨O,J⟩,h1⟩ y hy=>by
  simp only [si,tq,or_false]at hy;rcases hy with rfl | rfl
  ·exact⟨_,J,λv q=>by cases q⟩
  ·obtain⟨o,e,c,d⟩:=h1
   exact⟨o,e,λv q=>by rw [d]at q;cases q⟩
 keep:=λi h h' ⟨⟨O,J⟩,h1⟩ k=>⟨⟨O,k z ⋯ _ J⟩,h1.at λo e=>k it ⋯ o e⟩
 item:=by
  rintro X rfl rfl rfl hc i pins s σ H E I hf ⟨⟨O,J⟩,h1⟩ ⟨xs,a0,bd⟩;obtain⟨a6,a7,p1,z1⟩:=I.list a0;have Y:=p1.isList;have hx:xs[i]? = some xs[i]:=rN bd;have l1:=a7.length;have ap:a≠it:=λe=>by
   obtain⟨o,e1,M,_⟩:=Y;obtain⟨o2,e2,c2,_⟩:=h1;rw [e,e2]at e1;cases e1;rw [c2]at M;exact absurd M ⋯
  have bg:z≠a:=λe=>by
   obtain⟨o,e1,M,_⟩:=Y;have b9:s.heap.get? z=some _:=J;rw [e,e1]at b9;cases b9;exact absurd M ⋯
  have bi:it<s.heap.objs.size:=by obtain⟨o2,e2,_⟩:=h1;exact sg e2
  have Dr:=Draws.list (prog:=X.prog) (w:=X.w) (A:=X.A.in1) (show X.A.in1.handled=none from I.ok.hd hc) it a ap a6.toArray;refine wpAny_pyNext_enum_itemD Dr J ⟨h1,Y⟩ (by simp;omega) a9 (by simp;exact⟨a9,bg⟩) λx g tk hP a1 a2 a3 a4 a5=>⟨_,rfl,?_⟩;obtain⟨u1,c0,c3⟩:=a7.get hx;obtain rfl:u1=x:=by have:=hP;simp [c0]at this;exact this
  refine Xx I hf (sg J) bi a1 a3 a5 c3 λg2 b1 b2 I1 c5 hn=>⟨.ref s.heap.objs.size,_,I1,rfl,⟨_,_,rfl,c5,rfl,λce c6=>by rw [I.list_inj c6 a0];exact hx⟩,⟨⟨_,b1⟩,a2.1.at λo e=>b2.extBut _ _ a9.symm e⟩,hn⟩
 done:=by
  rintro X rfl rfl rfl hc i pins s σ H E I hf ⟨⟨O,J⟩,h1⟩ ⟨xs,a0,hi⟩;obtain⟨a6,a7,p1,z1⟩:=I.list a0;have Y:=p1.isList;have l1:=a7.length;have ap:a≠it:=λe=>by
   obtain⟨o,e1,M,_⟩:=Y;obtain⟨o2,e2,c2,_⟩:=h1;rw [e,e2]at e1;cases e1;rw [c2]at M;exact absurd M ⋯
  have Dr:=Draws.list (prog:=X.prog) (w:=X.w) (A:=X.A.in1) (show X.A.in1.handled=none from I.ok.hd hc) it a ap a6.toArray;have en:a6.toArray.size=i:=by simp;omega
  rw [en]at Dr;refine wpAny_pyNext_enum_endD Dr J ⟨h1,Y⟩ λg hk=>⟨rfl,?_⟩;refine I.turnedL (t':=s.toks) (fp:=[z,it]) (λb' u hb e=>?_) hf;simp only [si,tq,or_false,not_or]at hb;exact hk b' u hb.2 e
 self:=λ_ _ _ _ _ st h=>kJ st.1.choose_spec h
def oJ(z:Str):It:=
 ⟨λi _=>i<z.cps.size,λi H x H'=>∃p c,x = .ref p/\H p=none/\H'=upd H p (.tup [.int i,.str ⟨#[c]⟩])/\z.cps[i]? = some c,λi _=>i=z.cps.size⟩
theorem JL{prog:Program}{w:World}{A:Around}(z:A.handled=none)(it:Addr)(x:Str)(t:Tok) :
 Draws prog w A it [it] x.cps.size (λi v=>∃c u,x.cps[i]? = some c/\v = .str ⟨#[c]⟩ u) (λi h=>h.IsStrIter it (strIterType x) x t i):=by
 rcases nK x with q | q
 ·rw [q];exact Draws.strAscii z it x t
 ·rw [q];exact Draws.strWide z it x t
theorem X4{P:Program}{w:World}{K:rH}{elts:List Expr}{x1:Nat}{tpos:Pos}{z it:Addr}(x:Str)(t:Tok)(O:z≠it) :
 Turn P w K (.Tuple elts x1 tpos) (oJ x) [z,it] z (λi h=>(∃M,IsEnum h z it i M)/\h.IsStrIter it (strIterType x) x t i) where
 mem:=by simp
 obj:=λi h ⟨⟨M,J⟩,h1⟩ y hy=>by
  simp only [si,tq,or_false]at hy;rcases hy with rfl | rfl
  ·exact⟨_,J,λv q=>by cases q⟩
  ·obtain⟨o,e,c,d⟩:=h1
   exact⟨o,e,λv q=>by rw [d]at q;cases q⟩
 keep:=λi h h' ⟨⟨M,J⟩,h1⟩ k=>⟨⟨M,k z ⋯ _ J⟩,by obtain⟨o,e,r⟩:=h1;exact⟨o,k it ⋯ o e,r⟩⟩
 item:=by
  rintro X rfl rfl rfl Y i pins s σ H E I hf ⟨⟨M,J⟩,h1⟩ a9;have ac:it<s.heap.objs.size:=by obtain⟨o2,e2,_⟩:=h1;exact sg e2
  have Dr:=JL (prog:=X.prog) (w:=X.w) (A:=X.A.in1) (show X.A.in1.handled=none from I.ok.hd Y) it x t;refine wpAny_pyNext_enum_itemD Dr J h1 a9 O (by simp;exact O) λu g tk hP a1 a2 a3 a4 a5=>⟨_,rfl,?_⟩;obtain⟨c,tu,ax,rfl⟩:=hP;refine Xx (v:= .str ⟨#[c]⟩) I hf (sg J) ac a1 a3 a5 ⟨_,rfl⟩ λg2 b1 b2 I1 b9 hn=>⟨.ref s.heap.objs.size,_,I1,rfl,⟨_,_,rfl,b9,rfl,ax⟩,⟨⟨_,b1⟩,?_⟩,hn⟩;obtain⟨o,e,r⟩:=a2;exact⟨o,b2.extBut _ _ O.symm e,r⟩
 done:=by
  rintro X rfl rfl rfl Y i pins s σ H E I hf ⟨⟨M,J⟩,h1⟩ hi;have hi:i=x.cps.size:=hi;subst hi;have Dr:=JL (prog:=X.prog) (w:=X.w) (A:=X.A.in1) (show X.A.in1.handled=none from I.ok.hd Y) it x t;refine wpAny_pyNext_enum_endD Dr J h1 λg hk=>⟨rfl,?_⟩;refine I.turnedL (t':=s.toks) (fp:=[z,it]) (λb' u hb e=>?_) hf;simp only [si,tq,or_false,not_or]at hb;exact hk b' u hb.2 e
 self:=λ_ _ _ _ _ st h=>kJ st.1.choose_spec h
def iT(K:rH)(ta:TA):TI:=λσ H R=>ta σ H λvs H1=>∃a,vs=[.ref a]/\(∃xs,SqL K H1 a xs)/\R (oK K a) H1
def iS(ta:TA):TI:=λσ H R=>ta σ H λvs H1=>∃z,vs=[.str z]/\R (oJ z) H1
section
variable{X:Cx}{e1:Expr}{ta:TA}{p pos:Pos}{elts:List Expr}{x1:Nat}{tpos:Pos}
theorem WB(O:Gl X "enumerate")(hm:X.mg "enumerate" = none)(ha:PA X [e1] ta)
 (Y:bootBuiltins "enumerate" = some (.type "enumerate")) (hs:starEach [e1] X.env=[(false,eval e1 X.env)]:=by rfl) :
 PI X (.Tuple elts x1 tpos) (.Call (.Name "enumerate" p) [e1] [] pos) (iT X.K ta):=by
 intro pins s σ H R I h;refine Call_ (xp I O hm Y (tX (thn (ha pos pins s σ H _ I h) λus s1 hZ=>?_) (by rw [hs];rfl) rfl));obtain⟨vs,H1,z,r1,q1⟩:=hZ;obtain⟨a,rfl,⟨xs,a3⟩,q⟩:=q1;obtain⟨w1,rfl,a4⟩:=kY r1;cases a4;obtain⟨a6,a7,p1,z1⟩:=z.list a3;refine call_enumerate_list p1.isList λg b1 b2 b3 b4=>kJ (s:={s1 with heap:=g}) b1 ?_;refine⟨_,[s1.heap.objs.size+1,s1.heap.objs.size],_,_,H1,rfl,z.kept (t':=s1.toks) b4,X5 (Ai (uC _)),⟨⟨_,b1⟩,b2⟩,λc J=>?_,q⟩;have M:s1.heap.objs.size<=c:=by
  simp only [si,tq,or_false]at J;rcases J with rfl | rfl
  ·exact ug _ _
  ·exact se _
 exact z.fpOk M (z.hok.fresh M)
theorem WA(Y:Gl X "enumerate")(hm:X.mg "enumerate" = none)(ha:PA X [e1] ta)
 (hv:bootBuiltins "enumerate" = some (.type "enumerate")) (hs:starEach [e1] X.env=[(false,eval e1 X.env)]:=by rfl) :
 PI X (.Tuple elts x1 tpos) (.Call (.Name "enumerate" p) [e1] [] pos) (iS ta):=by
 intro pins s σ H R I h;refine Call_ (xp I Y hm hv (tX (thn (ha pos pins s σ H _ I h) λus s1 hZ=>?_) (by rw [hs];rfl) rfl));obtain⟨vs,H1,J,r1,q1⟩:=hZ;obtain⟨z,rfl,q⟩:=q1;obtain⟨w1,rfl,a4⟩:=kY r1;obtain⟨t,rfl⟩:=a4;refine call_enumerate_str λg b1 b2 b3 b4=>kJ (s:={s1 with heap:=g}) b1 ?_;refine⟨_,[s1.heap.objs.size+1,s1.heap.objs.size],_,_,H1,rfl,J.kept (t':=s1.toks) b4,X4 z t (Ai (uC _)),⟨⟨_,b1⟩,b2⟩,λc M=>?_,q⟩;have O:s1.heap.objs.size<=c:=by
  simp only [si,tq,or_false]at M;rcases M with rfl | rfl
  ·exact ug _ _
  ·exact se _
 exact J.fpOk O (J.hok.fresh O)
end
end L2
namespace DL
open PySem PySem.Spec PyProof.Rows L2
theorem Z6(z:Str):(qz z).length=z.cps.size:=by simp [qz]
theorem Wa(z:Str){i c:Nat}(h:z.cps[i]? = some c):(qz z)[i]? = some (.str ⟨#[c]⟩):=by simp [qz,h]
theorem XY{K:rH}{H0 Hs:Hp}(z:Str):Walk K H0 Hs (oJ z) (xl (qz z)):=by
 have I:(xl (qz z)).length=z.cps.size:=by simp [xl,Z6]
 refine⟨λi H1 s hi=>?_,λH1 s=>?_,λi H1 x H1' s hi y=>?_⟩
 ·rw [I]at hi;exact hi
 ·rw [I];exact rfl
 ·obtain⟨p,c,rfl,J,rfl,M⟩:=y
  refine⟨.tup [.int i,.str ⟨#[c]⟩],?_,λG0 s1 s2=>⟨upd G0 p (.tup [.int i,.str ⟨#[c]⟩]),Ext.alloc s2 J _,?_⟩⟩
  ·rw [I]at hi
   unfold xl;rw [sk,Aj (by rw [Z6];exact hi),sj,Wa z M];rfl
  ·exact qx (SqT.of zw) (Reps.cons (show V.int i = .int i from rfl) (Reps.cons (show V.str ⟨#[c]⟩ = .str ⟨#[c]⟩from rfl) Reps.nil))
theorem XZ{K:rH}{H0 Hs:Hp}{a:Addr}{xs:List V}{ds:List D}(h:SqL K Hs a xs)(r:Reps K H0 ds xs):Walk K H0 Hs (oK K a) (xl ds):=by
 have M:=r.length;have O:(xl ds).length=ds.length:=by simp [xl]
 refine⟨λi H1 s hi=>?_,λH1 s=>?_,λi H1 x H1' s hi y=>?_⟩
 ·exact⟨xs,s.seq h,by omega⟩
 ·exact⟨xs,s.seq h,by omega⟩
 ·obtain⟨p,u,rfl,z,rfl,I⟩:=y
  obtain⟨d,hd,J⟩:=r.getV (I xs (s.seq h));refine⟨.tup [.int i,d],?_,λG0 s1 s2=>⟨upd G0 p (.tup [.int i,u]),Ext.alloc s2 z _,?_⟩⟩
  ·unfold xl
   rw [sk,Aj ⋯,sj,hd];rfl
  ·exact qx (SqT.of zw) (Reps.cons (show V.int i = .int i from rfl) (Reps.cons ((J.mono s1).mono (zR (z6 s2 z) _)) Reps.nil))
section
variable{X:Cx}{sc:Scope}{N L:List Str}{k:Nat}{a b e:Expr}{pos p p2:Pos}{f fa fb:CO D}
theorem Qn{elts:List Expr}{x1:Nat}{tpos:Pos}(h:SX X sc N L k)(c:xu sc "enumerate" = true)(z:X.mg "enumerate" = none)(ha:PV X a f)(J:starEach [a] X.env=[(false,eval a X.env)]:=by rfl) :
 PIF X (.Tuple elts x1 tpos) (.Call (.Name "enumerate" p) [a] [] pos) (qG f):=
 Zp (WA (h.gl c).1 z (zK ha jw J) boot_enumerate J) λσ H R O=>by
  obtain⟨H0,γ,ds,rc,I,q⟩:=O;obtain⟨d,Y,I⟩:=bind_some I;cases d with
  | str z=>
   by_cases M:jg z=true
   ·have I:(if jg z=true then some (xl (qz z))else none)=some ds:=I
    rw [if_pos M]at I;cases I;exact⟨H0,γ,_,rc,Y,λv H' H0' x r=>⟨z,by rw [show v = .str z from r],q _ H' H0' x (XY z)⟩⟩
   ·have I:(if jg z=true then some (xl (qz z))else none)=some ds:=I
    rw [if_neg M]at I;cases I
  | _=>cases I
theorem dk{elts:List Expr}{x1:Nat}{tpos:Pos}(h:SX X sc N L k)(c:xu sc "enumerate" = true)(z:X.mg "enumerate" = none)(ha:PV X a f)(J:starEach [a] X.env=[(false,eval a X.env)]:=by rfl) :
 PIF X (.Tuple elts x1 tpos) (.Call (.Name "enumerate" p) [a] [] pos) (vh f):=
 Zp (WB (h.gl c).1 z (zK ha jw J) boot_enumerate J) λσ H R O=>by
  obtain⟨H0,γ,ds,rc,I,q⟩:=O;obtain⟨d,Y,I⟩:=bind_some I;cases d with
  | lst es=>
   cases I;refine⟨H0,γ,_,rc,Y,λv H' H0' x r=>?_⟩;obtain⟨a1,xs,rfl,M,g2⟩:=YU r;exact⟨a1,rfl,⟨xs,x.sub.seq M⟩,q _ H' H0' x (XZ M g2)⟩
  | _=>cases I
theorem cY(ha:PV X a fa)(J:PV X b fb):PV X (.BinOp a .Add b pos) (Wh fa fb):=
 jO (dm Ks ha J) λσ H Q M=>by
  obtain⟨H0,γ,d,rc,z,q⟩:=M;obtain⟨x,e1,z⟩:=bind_some z;obtain⟨y,e2,z⟩:=bind_some z;cases x with
  | str u=>
   cases y with
   | str w=>
    by_cases I:jg u=true/\jg w=true
    ·have z:(if jg u=true/\jg w=true then some (D.str (u++w))else none)=some d:=z
     rw [if_pos I]at z;cases z;refine⟨H0,γ,_,rc,e1,λv1 H1 O x1 r1=>⟨O,γ,_,rc.ext x1,e2,λv2 H2 Y x2 r2=>⟨u,w,r1,r2,?_,q _ H2 Y (x1.trans x2) rfl⟩⟩⟩;have h1:=Zf I.1;have h2:=Zf I.2;have:2000<=sizeLine:=by decide
     omega
    ·have z:(if jg u=true/\jg w=true then some (D.str (u++w))else none)=some d:=z
     rw [if_neg I]at z;cases z
   | _=>cases z
  | _=>cases z
end
end DL
namespace DL
open PySem L2 PyProof.Rows
open PySem.W (KasT kas_sort kas_asc kas_desc kas_tail3 kas_descPart kas_count kas_place kas_bin kas_rev)
def Good{α:Type}(n:Nat)(P:α->Prop):KasT α->Prop
 | .ret a=>P a
 | .ask i j k=>i<n/\j<n/\∀b,Good n P (k b)
theorem Good.mono{α:Type}{n:Nat}{P z:α->Prop}(h : ∀a,P a->z a) : ∀{t:KasT α},Good n P t->Good n z t
 | .ret a,g=>h a g
 | .ask i j k,g=>⟨g.1,g.2.1,λb=>(g.2.2 b).mono h⟩
theorem Good.bind{α β:Type}{n:Nat}{P:α->Prop}{z:β->Prop}{f:α->KasT β}(I : ∀a,P a->Good n z (f a)) : ∀{t:KasT α},Good n P t->Good n z (t.bind f)
 | .ret a,g=>I a g
 | .ask i j k,g=>⟨g.1,g.2.1,λb=>(g.2.2 b).bind I⟩
theorem Good.run{α:Type}{n:Nat}{P:α->Prop}{lt:Nat->Nat->Bool} : ∀{t:KasT α},Good n P t->P (gp lt t)
 | .ret a,g=>g
 | .ask i j k,g=>(g.2.2 _).run
def Pm(n:Nat)(p:Array Nat):Prop:=p.toList.Perm (rO n)
theorem Pm.lt{n:Nat}{p:Array Nat}(h:Pm n p)(hn:0<n)(i:Nat):p.getD i 0<n:=by
 by_cases hi:i<p.size
 ·have e:p.getD i 0=p[i]:=by simp [Array.getD,hi]
  rw [e];exact rV.mp (h.mem_iff.mp ⋯)
 ·have e:p.getD i 0=0:=by simp [Array.getD,hi]
  rw [e];exact hn
theorem Pm.rev{n:Nat}{p:Array Nat}(h:Pm n p)(i j:Nat):Pm n (kas_rev p i j):=(Array.perm_iff_toList_perm.mp (mirror_perm p i j _)).trans h
theorem Pm.bub{n:Nat}{p:Array Nat}(h:Pm n p)(i j:Nat):Pm n (bubble p i j):=(Array.perm_iff_toList_perm.mp (bubble_perm p i j)).trans h
theorem Zz{n:Nat}{p:Array Nat}(h:Pm n p)(hn:0<n) : ∀f m,Good n (λ_=>True) (kas_asc p f m)
 | 0,m=>trivial
 | f+1,m=>⟨h.lt hn _,h.lt hn _,λb=>by
  cases b with
  | true=>exact trivial
  | false=>exact Zz h hn f (m+1)⟩
theorem kM{n:Nat}(hn:0<n) : ∀f p m q,Pm n p->Good n (λr=>Pm n r.1) (kas_desc f p m q)
 | 0,p,m,q,h=>h
 | f+1,p,m,q,h=>⟨h.lt hn _,h.lt hn _,λb=>by
  cases b with
  | true=>
   show Good n _ (if q>0 then _ else _);split
   ·exact kM hn f _ _ _ (h.rev _ _)
   ·exact kM hn f _ _ _ h
  | false=>exact⟨h.lt hn _,h.lt hn _,λd=>by
   cases d with
   | true=>exact h
   | false=>exact kM hn f _ _ _ h⟩⟩
theorem JE{n:Nat}(hn:0<n)(m r:Nat){p:Array Nat}(h:Pm n p):Good n (λr=>Pm n r.2) (kas_tail3 m r p):=by
 unfold kas_tail3;refine Good.bind (P:=λ_=>True) (λa _=>?_) (Zz (h.rev _ _) hn _ _);exact(show Pm n (kas_rev p 0 m)from h.rev _ _)
theorem JG{n:Nat}(hn:0<n)(m r:Nat){p:Array Nat}(h:Pm n p):Good n (λr=>Pm n r.2) (kas_descPart m r p):=
 (kM hn _ _ _ _ h).bind λa ha=>by
   show Good n _ (if a.2.2>0 then _ else _);split
   ·exact JE hn _ _ (Pm.rev ha _ _)
   ·exact JE hn _ _ ha
theorem Kz{n:Nat}(hn:0<n)(r:Nat){p:Array Nat}(h:Pm n p):Good n (λr=>Pm n r.2) (kas_count r p):=
 (Zz h hn _ _).bind λm _=>by
   show Good n _ (if (m==r)=true then _ else if m>1 then _ else _);split
   ·exact h
   ·split
    ·exact⟨h.lt hn _,h.lt hn _,λc=>by
      cases c with
      | true=>exact h
      | false=>exact JG hn _ _ (h.rev _ _)⟩
    ·exact JG hn _ _ h
theorem yd{n:Nat}(hn:0<n){p:Array Nat}(h:Pm n p)(k:Nat) : ∀f l r,Good n (λ_=>True) (kas_place p k f l r)
 | 0,l,r=>trivial
 | f+1,l,r=>by
  show Good n _ (if l>=r then _ else _);split
  ·exact trivial
  ·exact⟨h.lt hn _,h.lt hn _,λc=>by
    cases c with
    | true=>exact yd hn h k f _ _
    | false=>exact yd hn h k f _ _⟩
theorem Xw{n:Nat}(hn:0<n) : ∀f p k,Pm n p->Good n (Pm n) (kas_bin f p k)
 | 0,p,k,h=>h
 | f+1,p,k,h=>(yd hn h k k 0 k).bind λl _=>Xw hn f _ _ (h.bub _ _)
theorem JF{n:Nat}(hn:0<n):Good n (Pm n) (kas_sort n):=
 (Kz hn n (show Pm n (Cv (rO n))from List.Perm.refl _)).bind λr z=>by
   show Good n _ (if r.1<n then _ else _);split
   ·exact Xw hn _ _ _ z
   ·exact z
theorem qF(ps:List (Int×Int)):(qL ps).Perm (rO ps.length):=by
 unfold qL;split
 ·exact List.Perm.refl _
 ·exact(JF ⋯).run
theorem Ju : ∀{ds:List D} {ps:List (Int×Int)},yu ds=some ps->ps.length=ds.length
 | [],ps,h=>by cases h;rfl
 | d::ds,ps,h=>by
  unfold yu at h;cases e1:WG d with
  | none=>rw [e1]at h;cases h
  | some x=>
   cases e2:yu ds with
   | none=>rw [e1,e2]at h;cases h
   | some l=>rw [e1,e2]at h;cases h;simp [Ju e2]
theorem ka{α:Type}(d:α) : ∀ds:List α,(rO ds.length).map (λi=>ds.getD i d)=ds:=λds=>by
 apply Af;intro i;by_cases hi:i<ds.length
 ·simp [hi]
 ·simp [hi,Nat.not_lt.mp hi]
end DL
namespace DL
open PySem PySem.Spec PyProof.Rows L2
open PySem.W (KasT kas_sort kas_ask kat_run kat_snds kat_lt kat_cons kat_no kat_yes kat_nil kat_go kat_one kat_kind KatTups KatGo)
theorem Y9{α:Type}{n:Nat}{P:α->Prop}{lt:Nat->Nat->Bool}{z:Nat->Nat->(Bool->Shared->Prop)->Shared->Prop}{s:Shared}(I : ∀i j C,i<n->j<n->C (lt i j) s->z i j C s){Q:α->Shared->Prop} :
 ∀{t:KasT α},Good n P t->Q (gp lt t) s->t.kasWp z Q s
 | .ret _,_,q=>q
 | .ask i j k,g,q=>I i j _ g.1 g.2.1 (Y9 I (g.2.2 _) q)
def TupAt2(h:Heap)(v:Value)(k l:Int):Prop:=∃x o xs m t u,v = .ref x/\h.get? x=some o/\o.cls = .type "tuple"/\o.data = .seq xs m/\xs.toList=[.int k t,.int l u]
theorem TupAt2.keep{h h':Heap}{v:Value}{k l:Int}(a:TupAt2 h v k l)(e : ∀b o,h.get? b=some o->o.cls = .type "tuple"->h'.get? b=some o):TupAt2 h' v k l:=by
 obtain⟨x,o,xs,m,t,u,h1,h2,z,I,J⟩:=a;exact⟨x,o,xs,m,t,u,h1,e x o h2 z,z,I,J⟩
theorem TupAt2.one{h:Heap}{v:Value}{k l:Int}(a:TupAt2 h v k l):lO h v k:=by
 obtain⟨x,o,xs,m,t,u,h1,h2,z,I,J⟩:=a;exact⟨x,o,xs,m,t,h1,h2,z,I,by rw [<- BK,J];rfl⟩
section
variable{prog:Program}{w:World}{A:Around}{E:Value->Shared->Prop}{s:Shared}
theorem vD{a:Addr}{vs:List Value}{ps:List (Int×Int)}{n:Nat}{P:PySem.Fin->Shared->Prop}(Y:s.heap.get? a=some (seqObj "list" vs.toArray n))(a7:ps.length=vs.length)(as:vs.length<64)
 (hT : ∀i (hi:i<vs.length),TupAt2 s.heap vs[i] (ps.getD i (0,0)).1 (ps.getD i (0,0)).2)
 (h:P (.done (.ret .none)) {s with heap:=sortedHeap s.heap a vs (Cv ((qL ps).map λi=>vs.getD i tH))}) :
 wpAny (model prog w) A (Builtin.«list.sort» ⟨[.ref a],[]⟩) P E s:=by
 rw [list_sort_plain];have ha:a<s.heap.objs.size:=sg Y;have hz:vs.length<=sizeLine:=by rw [BQ];omega
 refine rK (listItems_at Y rfl ?_);refine rK (listUpdate_at Y rfl ?_ (by rw [rZ];exact hz) (tZ _));obtain⟨e1,a9⟩ : ∃e1,(s.heap.update a (uJ λ_=>#[])).get? a=some (seqObj "list" #[] e1):=⟨_,get?_update_seq Y (λ_=>#[])⟩;refine rK (seqEpoch_at a9 rfl ?_);refine rK (wpAny_newTuple ?_ (by show vs.length<=_;exact hz));refine rK (wpAny_newList ?_ (tZ _));refine uD ?_;have a0:(((s.heap.update a (uJ λ_=>#[])).push (seqObj "tuple" vs.toArray 0)).push (seqObj "list" #[] 0)).get? a=some (seqObj "list" #[] e1):=by
  rw [BD _ _ _ (by rw [size_push',CD];exact sF (tJ ha)),BD _ _ _ (by rw [CD];exact sF ha)];exact a9
 show wpAny (model prog w) A _ P E {s with heap:=((s.heap.update a (uJ λ_=>#[])).push (seqObj "tuple" vs.toArray 0)).push (seqObj "list" #[] 0)};dsimp only;have hsz:vs.toArray.size=vs.length:=by simp
 by_cases h2:vs.toArray.size<2
 ·rw [if_pos h2,if_pos h2]
  refine rK (rS ?_);rw [StateT.run_pure];refine rK (rS ?_);dsimp only;refine rK (seqEpoch_at a0 rfl ?_);have e7:Array.map (λx=>x.snd) (arrOf (SortSt.mk' general' (vs.toArray.zip vs.toArray) #[] 7 none))=vs.toArray:=by
   show Array.map (λx=>x.snd) (vs.toArray.zip vs.toArray)=_;apply Array.ext';simp [Array.toList_map,Array.toList_zip];rw [List.map_snd_zip (se _)]
  have ev:(qL ps).map (λi=>vs.getD i tH)=vs:=by
   unfold qL;rw [if_pos ⋯,a7];exact ka _ _
  rw [ev]at h;refine rK (listUpdate_at a0 rfl ?_ (tZ _) (by rw [e7,hsz];exact Cu hz));simp only [bne_self_eq_false,AN,if_false];have e8:({s with heap:=(((s.heap.update a (uJ λx=>#[])).push (seqObj "tuple" vs.toArray 0)).push (seqObj "list" #[] 0)).update a (uJ λx=>Array.map (λx=>x.snd) (arrOf (SortSt.mk' general' (vs.toArray.zip vs.toArray) #[] 7 none)))}:Shared) = {s with heap:=sortedHeap s.heap a vs vs.toArray}:=by
   rw [e7];rfl
  refine rS ?_;rw [<- e8]at h;exact h
 ·rw [if_neg h2,if_neg h2]
  have n2:2<=vs.length:=by rw [<- hsz];omega
  have keep : ∀b o,s.heap.get? b=some o->o.cls = .type "tuple"->(((s.heap.update a (uJ λ_=>#[])).push (seqObj "tuple" vs.toArray 0)).push (seqObj "list" #[] 0)).get? b=some o:=λb o e hc=>by
   have bd:b≠a:=λz=>by rw [z,Y]at e;cases e;exact absurd hc (by show ¬(AF "list" = AF "tuple");decide)
   exact rM _ (rM _ ((Heap.get?_update_ne _ _ _ _ bd).trans e))
  generalize hg:((s.heap.update a (uJ λ_=>#[])).push (seqObj "tuple" vs.toArray 0)).push (seqObj "list" #[] 0)=g at a0 keep ⊢;have a8 : ∀i (hi:i<vs.length),TupAt2 g vs[i] (ps.getD i (0,0)).1 (ps.getD i (0,0)).2:=λi hi=>(hT i hi).keep keep;obtain⟨fs,f1,f2,f3⟩:=bt (ks:=λi=>(ps.getD i (0,0)).1) λi hi=>(a8 i hi).one;refine rK (kat_kind (T:=AF "int") (s:={s with heap:=g}) f1 ⋯ (λv hv=>?_) ⋯ ?_)
  ·obtain⟨k,t,rfl⟩:=f3 v hv
   exact PySem.W.Looks.of_pure rfl
  have ep:(gp (λi j=>ma (ps.getD i (0,0)) (ps.getD j (0,0))) (kas_sort vs.length)).toList=qL ps:=by
   unfold qL;rw [if_neg ⋯,a7]
  refine rK (AS (kat_run (E:=E) (ks:=vs) (Q:=λa6 s'=>∃p:Array Nat,arrOf a6=p.map (PySem.W.kas_item (vs.toArray.zip vs.toArray))/\failedOf a6=none/\p.toList=qL ps/\s' = {s with heap:=g})
   (G:=λp s'=>p.toList=qL ps/\s' = {s with heap:=g})
   rfl n2 as (λp a6 s' a1 a2 a3 a4=>⟨p,a2,a3,a4.1,a4.2⟩) (Y9 (lt:=λi j=>ma (ps.getD i (0,0)) (ps.getD j (0,0))) (λi j C hi hj I=>?_) (JF ⋯) ⟨ep,rfl⟩)) ?_ λ_ _ e=>e)
  ·show wpAny _ _ (keyLt' _ (vs.getD i tH) (vs.getD j tH)) C _ _
   rw [show vs.getD i tH=vs[i]by simp [hi],show vs.getD j tH=vs[j]by simp [hj]];obtain⟨x,ox,xs,m,t,u,e1,e2,e3,e4,e5⟩:=a8 i hi;obtain⟨y,oy,ys,m',t',u',d1,d2,d3,d4,d5⟩:=a8 j hj;rw [e1,d1];refine kat_lt e2 e4 d2 d4 ?_;have bx:xs.size=2:=by rw [<- uG,e5];rfl
   have c0:ys.size=2:=by rw [<- uG,d5];rfl
   rw [e5,d5,bx,c0,List.zip_cons_cons,List.zip_cons_cons];unfold ma at I;generalize ps.getD i (0,0)=M at I ⊢;generalize ps.getD j (0,0)=O at I ⊢;refine kat_cons (SeqAt.EqAt.int_int M.1 t O.1 t' _ _ _ _ ?_);refine kat_go (λJ=>?_) λJ=>?_
   ·have J:M.1=O.1:=by simpa using J
    rw [if_pos J]at I;refine kat_yes (kat_cons (SeqAt.EqAt.int_int M.2 u O.2 u' _ _ _ _ (kat_go (λhd=>?_) λhd=>?_)))
    ·have hd:M.2=O.2:=by simpa using hd
     refine kat_yes (kat_nil ?_);rw [show decide (M.2<O.2)=false by rw [hd];simp]at I;exact I
    ·exact kat_no (kat_one _ _ (lt_int I))
   ·have J:M.1≠O.1:=by simpa using J
    rw [if_neg J]at I;exact kat_no (oneLt_int I)
  rintro⟨⟨⟩,a6⟩ s' ⟨p,c1,hf,hp,rfl⟩;dsimp only;have c4:=kat_snds rfl c1;have c5:((qL ps).map λi=>vs.getD i tH).length=vs.length:=by
   rw [sC,(qF ps).length_eq,tf,a7]
  rw [c4,hp];refine rK (seqEpoch_at a0 rfl ?_);refine rK (listUpdate_at a0 rfl ?_ (tZ _) (by rw [rZ];show((qL ps).map λi=>vs.getD i tH).length<=_;rw [c5];exact Cu hz));rw [hf];simp only [bne_self_eq_false,AN,if_false];subst hg;exact rS h
theorem Z4{l:Addr}{vs:List Value}{ps:List (Int×Int)}{Q:Value->Shared->Prop}(M:s.heap.IsList l vs.toArray)(O:ps.length=vs.length)(Y:vs.length<64)
 (hT : ∀i (hi:i<vs.length),TupAt2 s.heap vs[i] (ps.getD i (0,0)).1 (ps.getD i (0,0)).2)
 (h:Q (.ref (s.heap.objs.size+1)) {s with heap:=sortedAll s.heap vs (Cv ((qL ps).map λi=>vs.getD i tH))}) :
 wpAny (model prog w) A (call (.builtin "sorted") [.ref l]) Q E s:=by
 have I:vs.length<=sizeLine:=by rw [BQ];omega
 refine Calls.call_function_entry kind_sorted plain_sorted entry_sorted (args_sorted1 _) ?_;unfold Builtin.«sorted»;refine rK (m:=checkCount "sorted" 1 1 _) (rS ?_);refine rK (collect_list M ?_ I);refine rK (wpAny_newList ?_ I);have hsz:((s.heap.push (seqObj "list" #[] 0)).update s.heap.objs.size (uJ (· ++ vs.toArray))).objs.size=s.heap.objs.size+1:=by
  rw [CD,size_push']
 have J:(((s.heap.push (seqObj "list" #[] 0)).update s.heap.objs.size (uJ (· ++ vs.toArray))).push (seqObj "list" vs.toArray 0)).get? (s.heap.objs.size+1)=some (seqObj "list" vs.toArray 0):=by
  rw [<- hsz];exact sh _ rfl
 have keep : ∀b o,s.heap.get? b=some o->(((s.heap.push (seqObj "list" #[] 0)).update s.heap.objs.size (uJ (· ++ vs.toArray))).push (seqObj "list" vs.toArray 0)).get? b=some o:=λb o q=>by
  have z:b<s.heap.objs.size:=sg q;rw [BD _ _ _ (by rw [hsz];exact sF (tJ z)),Heap.get?_update_ne _ _ _ _ (sF z),BD _ _ _ (sF z)];exact q
 show wpAny _ _ _ _ _ {s with heap:=((s.heap.push (seqObj "list" #[] 0)).update s.heap.objs.size (uJ (· ++ vs.toArray))).push (seqObj "list" vs.toArray 0)};rw [hsz];refine rK (uD (uA slot_list_sort ⟨_,J,rfl⟩ entry_list_sort (vD (s:={s with heap:=((s.heap.push (seqObj "list" #[] 0)).update s.heap.objs.size (uJ (· ++ vs.toArray))).push (seqObj "list" vs.toArray 0)}) J O Y (λi hi=>(hT i hi).keep λb o e _=>keep b o e) ⟨_,rfl,?_⟩) (args_list_sort _)));exact rS ⟨_,rfl,h⟩
end
section
variable{X:Cx}
def gy(K:rH):List V->Hp->VK->Prop:=λxs H Q=>∃l ys ps,xs=[.ref l]/\SqL K H l ys/\ps.length=ys.length/\ys.length<64/\
 (∀i (hi:i<ys.length),∃a,ys[i]=V.ref a/\SqT K H a [.int ((ps:List (Int×Int)).getD i (0,0)).1,.int (ps.getD i (0,0)).2])/\∀p,H p=none->Q (.ref p) (upd H p (.lst ((qL ps).map λi=>ys.getD i .non)))
theorem JP:yG X (.builtin "sorted") (gy X.K):=by
 intro pins s σ H vs us Q I rv h;obtain⟨l,ys,ps,rfl,hq,a1,ax,hT,a6⟩:=h;obtain⟨u,rfl,ru⟩:=kY rv;cases ru;obtain⟨z,r,pl,hz⟩:=I.list hq;have b0:=r.length;refine Z4 (ps:=ps) pl.isList ⋯ ⋯ (λi hi=>?_) ?_
 ·obtain⟨a,e1,e2⟩:=hT i ⋯
  obtain⟨v,J,g2⟩:=r.get (i:=i) (x:=V.ref a) (by rw [rN ⋯,e1]);have hv:z[i]=v:=by rw [rN hi]at J;exact sH J
  rw [hv];cases g2;obtain⟨ac,r2,⟨o,ho,hc,n,hd⟩,_⟩:=I.tuple e2;obtain⟨M,r3,rfl,O,Y⟩ : ∃M r3,ac=M::r3/\RelV (.int (ps.getD i (0,0)).1) M/\Vals [.int (ps.getD i (0,0)).2] r3:=by
   cases r2 with
   | cons O Y=>exact⟨_,_,rfl,O,Y⟩
  obtain⟨v2,rfl,q3⟩:=kY Y;obtain⟨t,rfl⟩:=O;obtain⟨u,rfl⟩:=q3;exact⟨a,o,_,n,t,u,rfl,ho,hc,hd,rfl⟩
 ·obtain⟨e,he⟩:=sortedAll_at s.heap z (Cv ((qL ps).map λi=>z.getD i tH))
  have a2:((qL ps).map λi=>ys.getD i V.non).length=ys.length:=by rw [sC,(qF ps).length_eq,tf,a1]
  refine⟨.ref (s.heap.objs.size+1),_,I.laid (t':=s.toks) (o:= .lst ((qL ps).map λi=>ys.getD i .non)) (λb o q=>sortedAll_old q) (Nat.le_succ _) ?_,rfl,a6 _ (I.hok.fresh (Nat.le_succ _))⟩;refine⟨by rw [a2];exact hz,(qL ps).map λi=>z.getD i tH,e,?_,he⟩;have a0 : ∀i∈qL ps,i<ys.length:=λi hi=>by
   have:=(qF ps).mem_iff.mp hi;rw [a1]at this;exact rV.mp this
  generalize qL ps=o at a0;clear a2 he
  induction o with
  | nil=>exact .nil
  | cons i o ih=>
   have hi:=a0 i rX;refine .cons ?_ (ih λj hj=>a0 j (sd _ hj));obtain⟨v,J,g2⟩:=r.get (i:=i) (x:=ys[i]) (rN hi);show RelV (ys.getD i V.non) (z.getD i tH);rw [rT,rT,rN hi,J];exact g2
theorem Xi : ∀{ds:List D} {ps:List (Int×Int)},yu ds=some ps->∀(i:Nat) d,ds[i]? = some d->d = .tup [.int (ps.getD i (0,0)).1,.int (ps.getD i (0,0)).2]
 | [],ps,h,i,d,hd=>by simp at hd
 | c::ds,ps,h,i,d,hd=>by
  obtain⟨k,e1,h⟩:=bind_some h;obtain⟨l,e2,h⟩:=zt h;subst h;cases i with
  | zero=>
   simp at hd;subst hd;unfold WG at e1;split at e1
   ·cases e1;rfl
   ·cases e1
  | succ i=>simpa using Xi e2 i d (by simpa using hd)
theorem Jh{K:rH}{H:Hp}{ds:List D}{xs:List V}(r:Reps K H ds xs) : ∀(o:List Nat),(∀i∈o,i<xs.length)->Reps K H (o.map λi=>ds.getD i .non) (o.map λi=>xs.getD i .non)
 | [],_=>Reps.nil
 | i::o,h=>by
  have hi:=h i rX;obtain⟨d,hd,z⟩:=r.getV (rN hi);refine Reps.cons ?_ (Jh r o λj I=>h j (sd _ I));show Rep K H (ds.getD i .non) (xs.getD i .non);rw [rT,rT,rN hi,hd];exact z
theorem Ww{sc:Scope}{N L:List Str}{k:Nat}{e:Expr}{pos p:Pos}{fq:CO (Sk×List D)}(h:SX X sc N L k)(c:xu sc "sorted" = true)(z:X.mg "sorted" = none)(hq:PQ X e fq)(M:starEach [e] X.env=[(false,eval e X.env)]:=by rfl) :
 PO X (.Call (.Name "sorted" p) [e] [] pos) (Ja fq):=
 jO (xh JP (h.gl c).1 z ⋯ (zK hq jw M) ⋯ ⋯ M rfl) λσ H Q hZ=>by
  obtain⟨H0,γ,ds,rc,I,q⟩:=hZ;obtain⟨⟨kk,es⟩,e1,I⟩:=bind_some I;cases kk with
  | T=>cases I
  | L=>
   have I:Kb es=some ds:=I;unfold Kb at I;obtain⟨ps,e2,I⟩:=bind_some I;by_cases O:es.length<64
   ·rw [if_pos O]at I
    cases I;have ap:=Ju e2;refine⟨H0,γ,.L,es,rc,e1,λa xs H' H0' ext h1 h2 r=>?_⟩;have ar:=r.length;refine⟨a,xs,ps,rfl,h1,by omega,by omega,λi hi=>?_,λl J=>?_⟩
    ·obtain⟨d,hd,rd⟩:=r.getV (rN hi)
     have ed:=Xi e2 i d hd;subst ed;obtain⟨b,zs,eb,Y,h4⟩:=kj rd;refine⟨b,eb,?_⟩;obtain⟨y,yr,e5,h5,h6⟩:=h4.inv_cons;obtain⟨y2,ax,e6,h7,h8⟩:=h6.inv_cons;rw [h8.inv_nil]at e6;rw [e5,e6,jm h5,jm h7]at Y;exact sameT ext.sub Y
    ·refine q l _ _ H0' (ext.trans (Ext.hide ext.sub J _)) (kG ext.s1 J) (z6 ext.sub J) zw ?_
     refine Jh r _ λi hi=>?_;have:=(qF ps).mem_iff.mp hi;have:=rV.mp this;omega
   ·rw [if_neg O]at I;cases I
end
section
variable{X:Cx}{a b c:Expr}{pos:Pos}{fa fb fc:CO D}
theorem Yq{M O:CmpOp}{r r':R2}{F G:D->D->Option D}(ho:OpR X (compareOp M) r)(a6:OpR X (compareOp O) r')(s1:Snd X.K r F)(s2:Snd X.K r' G)(ha:PV X a fa)(hb:PV X b fb)(hc:PV X c fc)
 (hm:lastMarks [M,O] [b,c]=false:=by with_unfolding_all rfl):PTD X (.Compare a [M,O] [b,c] pos) (sB (ym F G fa fb fc)):=
 Kl (Ws ho a6 ha hb hc hm) λσ H Q hZ=>by
  obtain⟨H0,γ,kq,rc,am,q0⟩:=hZ;obtain⟨d,I,e9⟩:=bind_some am;have q : ∀v H' H0',Ext H0 H H0' H'->Rep X.K H0' d v->∃k,v = .bl k/\Q k H':=λv H' H0' x rr=>by
   rw [yX e9]at rr;exact⟨kq,rr,q0 H' H0' x⟩
  obtain⟨x,e1,I⟩:=bind_some I;obtain⟨y,e2,I⟩:=bind_some I;obtain⟨k,e3,I⟩:=bind_some I;obtain⟨bb,e4,e5⟩:=bind_some e3;refine⟨H0,γ,x,rc,e1,λv1 H1 b0 x1 r1=>⟨b0,γ,y,rc.ext x1,e2,λv2 H2 b9 J r2=>s1 b9 H2 v1 v2 x y bb _ J.sub (r1.mono J.s0) r2 e4 λv3 H3 a4 x3 r3=>?_⟩⟩;cases bb with
  | bl k'=>
   cases e5;refine⟨k,show v3 = .bl k from r3,?_⟩;cases k with
   | true=>
    rw [if_pos rfl];rw [if_pos rfl]at I;obtain⟨z,e6,e7⟩:=bind_some I;exact⟨a4,γ,z,((rc.ext x1).ext J).ext x3,e6,λv4 H4 bv Y r4=>s2 bv H4 v2 v4 y z d _ Y.sub ((r2.mono x3.s0).mono Y.s0) r4 e7 λv5 H5 c1 x5 r5=>q v5 H5 c1 (((x1.trans J).trans x3).trans (Y.trans x5)) r5⟩
   | false=>
    rw [if_neg ⋯];rw [if_neg ⋯]at I;cases I;exact q _ H3 a4 ((x1.trans J).trans x3) rfl
  | _=>cases e5
end
end DL
namespace DL
open PySem PySem.Spec PyProof.Rows L2
theorem J8{H:Hp}{x:Addr}{o o':HO}:upd (upd H x o) x o'=upd H x o':=by
 funext b;by_cases h:b=x
 ·subst h;rw [zw,zw]
 ·rw [zz h,zz h,zz h]
structure ClsA(K:rH)(C:Addr):Prop where
 cls:Cls K C
 np:NoAttr K C "p"
 nt:NoAttr K C "table"
def spInit(C:Addr):Sp:=λvs H Q _=>∃x dx z I,vs=[.ref x,z,I]/\H x=some (.ins C dx [])/\Q .non (upd H x (.ins C dx (fs2 z I)))
def spForth(K:rH)(C:Addr)(F:List D->Option Res):Sp:=λvs H Q _=>∃x dx z I J H0 p t b ds,vs=[.ref x,J]/\H x=some (.ins C dx (fs2 z I))/\Same H0 H/\Rep K H0 p z/\Rep K H0 t I/\Rep K H0 b J/\F [p,t,b]=some (.own ds)/\pH K H0 H Q (.own ds)
section
variable{P:Program}{w:World}{K:rH}{mg:Str->Option Value}{base:Heap}{k:Nat}
theorem ez{q:Str}{st:Stmt}{f C:Addr}{fd:FuncData}(J:L2.Fun K "__init__" q st f fd)(hd:JN ["self","p","table"] ["self","p","table"] st=true)(c:ClsA K C)
 (M : ∀X:Cx,X.prog=P->X.w=w->X.K=K->X.mg=mg->X.base=base->SX X (defScope st) ["self","p","table"] ["self","p","table"] k->PSs X (defBody st) (oQ (nh X.K (vZ 0) (vZ 1) "p") (nh X.K (vZ 0) (vZ 2) "table"))) :
 FnOk P w K mg base CX0 (k+1) f fd ["self","p","table"] (spInit C):=by
 have S:=xQ hd;refine J.ok S (λvs H Q E h=>by obtain⟨x,dx,z,I,rfl,_⟩:=h;rfl) λcdv A outer s H vs Q E O Y=>⟨_,M _ rfl rfl rfl rfl rfl ⟨rfl,rfl,S.nd,rfl,O,λ_ _=> .inl rfl⟩,?_⟩;obtain⟨x,dx,z,I,rfl,hx,q⟩:=Y;refine⟨z,rfl,.ref x,rfl,x,C,dx,[],rfl,hx,c.cls,c.np,by decide,?_⟩;refine⟨I,rfl,.ref x,rfl,x,C,dx,Zl "p" z [],rfl,zw,c.cls,c.nt,by show 1<1000;decide,?_⟩;rw [J8];exact q
theorem yS{mm q:Str}{st:Stmt}{f C:Addr}{fd:FuncData}{F:List D->Option Res}(O:L2.Fun K mm q st f fd)(hd:JN ["self","base"] ["self","base"] st=true)(c:ClsA K C)
 (Y : ∀X:Cx,X.prog=P->X.w=w->X.K=K->X.mg=mg->X.base=base->SX X (defScope st) ["self","base"] ["self","base"] k->
   PSs X (defBody st) (oS (V4 (spF X.K 3 F) [] E0 (X8 (mV X.K (vZ 0) "p") (X8 (mV X.K (vZ 0) "table") (X8 (vZ 1) fX)))))) :
 FnOk P w K mg base CX0 (k+1) f fd ["self","base"] (spForth K C F):=by
 have S:=xQ hd;refine O.ok S (λvs H Q E h=>by obtain⟨x,dx,z,I,J,H0,p,t,b,ds,rfl,_⟩:=h;rfl) λcdv A outer s H vs Q E hr a1=>⟨_,Y _ rfl rfl rfl rfl rfl ⟨rfl,rfl,S.nd,rfl,hr,λ_ _=> .inl rfl⟩,?_⟩;obtain⟨x,dx,z,I,J,H0,p,t,b,ds,rfl,M,h0,r1,r2,r3,hF,a3⟩:=a1;refine⟨.ref x,rfl,x,C,dx,_,z,rfl,M,c.cls,c.np,nT z I,.ref x,rfl,x,C,dx,_,I,rfl,M,c.cls,c.nt,nS z I,J,rfl,?_⟩;exact⟨H0,[p,t,b],.own ds,h0,Reps.cons r1 (Reps.cons r2 (Reps.cons r3 Reps.nil)),rfl,hF,a3⟩
end
section
variable{X:Cx}{sc:Scope}{N L:List Str}{k:Nat}{a:Expr}{pos:Pos}{f:CO (List D)}
theorem dc(i:Nat){x:Str}{apos cpos np:Pos}(h:SX X sc N L k)(c:ZY sc N i x=true)(ha:PO X a f)(I:starEach [a] X.env=[(false,eval a X.env)]:=by rfl)
 (a0:attributeBase (.Name x np) "extend" X.env (eval (.Name x np) X.env)=eval (.Name x np) X.env:=by rfl)
 (a1:((backTo cpos (starEach [a] X.env)).all (λx=> !x.1) && (backToKw cpos (keywordEach [] X.env)).all (λx=>x.1.isSome)
   && decide ([a].length+([]:List Keyword).length+(if ([]:List Keyword).isEmpty then 0 else 1)<30))=true:=by rfl)
 (a2:(apos.endLine==cpos.line)=true:=by rfl) (a3:swapsWith (.Call (.Attribute (.Name x np) "extend" apos) [a] [] cpos) none pos.line X.env=pure false:=by rfl) :
 PSD X (.Expr (.Call (.Attribute (.Name x np) "extend" apos) [a] [] cpos) pos) (Zg i f):=
 qm (Zn (dC Bz PySem.F.slot_list_extend PySem.F.type_list_extend YT (h.var c) (zK ha jw I) a0 a1 a2 I rfl) a3) λD σ H hZ=>by
  obtain⟨E0,E,H0,γ,fl,rs,z,a5⟩:=hZ;obtain⟨ds,e1,z⟩:=bind_some z;obtain⟨es,e2,z⟩:=bind_some z;have e1:=xH e1;by_cases J:ds.length+es.length<=lim
  ·rw [if_pos J]at z;cases z
   obtain⟨l,xs,h1,h2,M,O⟩:=rs.rc.own i ds e1;refine⟨_,h1,.inl ⟨rfl,_,SqL.of M⟩,H0,γ,es,rs.rc,e2,λb zs H' H0' x g1 g2 g3 Y=>?_⟩;have hl:xs.length+zs.length<=sizeLine:=by
    rw [O.length,Y.length];have:lim<=sizeLine:=by decide
    omega
   refine⟨l,b,xs,zs,rfl,rfl,x.s1 _ _ M,g3,hl,?_⟩;have a8:=rs.step x;exact a5 _ _ _ (a8.rewrite (xs:=xs) e1 h1 ((O.mono x.s0).append Y))
  ·rw [if_neg J]at z;cases z
end
def ao(K:rH)(C:Addr):Bool:=BH K C && sQ K (.ref C) && Az K C Str.empty && AQ K C && Bp K C &&
 sD K (.ref C) "__setattr__" == some (some (.builtin "object.__setattr__")) && sD K (.ref C) "p" == some none && sD K (.ref C) "table" == some none
section
variable{K:rH}{mg:Str->Option Value}{h:Heap}
theorem Vm{C:Addr}(b:ao K C=true):ClsA K C/\BH K C=true/\sQ K (.ref C)=true:=by
 unfold ao at b;simp only [sr,beq_iff_eq]at b;obtain⟨⟨⟨⟨⟨⟨⟨b1,b2⟩,b3⟩,b4⟩,b5⟩,b6⟩,b7⟩,b8⟩:=b;exact⟨⟨⟨b3,b4,b5,b6⟩,b7,b8⟩,b1,b2⟩
end
def eP:Stmt->List Stmt
 | .ClassDef _ _ _ b _ _ _ _ _ _ _=>b
 | _=>[]
def inCls(st:Stmt)(j:Nat):Stmt:=(eP st).getD j (.Pass ⟨0,0,0,0⟩)
theorem ya{K:rH}{H:Hp} : ∀{ds:List D} {ns:List Int} {xs:List V},kn ds=some ns->Reps K H ds xs->xs=(ns.map Cf).map kV
 | [],ns,xs,e,r=>by cases e;exact r.inv_nil
 | d::ds,ns,xs,e,r=>by
  cases d with
  | int i=>
   obtain⟨l,e1,e2⟩:=zt e;subst e2;obtain⟨x,t,rfl,h1,h2⟩:=r.inv_cons;rw [ya e1 h2,show x = .int i from h1];rfl
  | _=>cases e
def W2:D->Option (List Int)
 | .tup ds=>kn ds
 | _=>none
theorem wO{P:Program}{w:World} : ∀{k:List Int} {us:List Value},Vals (k.map V.int) us->PySem.ItemsAre (intKind P w) k us
 | [],us,h=>by cases h;exact .nil
 | i::k,us,h=>by
  cases h with
  | cons h1 h2=>
   obtain⟨t,rfl⟩:=h1;exact .cons (by show Value.isInt i (.int i t)=true;simp [Value.isInt]) (wO h2)
section
variable{X:Cx}{pins:List (Addr×Obj)}{σ:St}{H:Hp}{s:Shared}
theorem Zu{b:Addr}{k:List Int}(I:Inv X pins σ H s)(h:SqT X.K H b (k.map V.int)):(tupleKind (intKind X.prog X.w)).is s.heap k b:=by
 obtain⟨z,J,⟨o,M,O,n,hd⟩,_⟩:=I.tuple h;exact⟨o,z.toArray,n,M,O,hd,wO J⟩
theorem Qy{a:Addr}{o:Obj}{xs:List (List Int×Addr×Value)}(I:Inv X pins σ H s)(e:H a=some (atO a o))(d:DObj o xs)(z : ∀x∈xs,SqT X.K H x.2.1 (x.1.map V.int)):s.heap.DictOfH (tupleKind (intKind X.prog X.w)) a xs:=by
 obtain⟨J,_⟩:=(show ObjOk X.prog X.w H s.heap a (atO a o)from I.hok a _ e);obtain⟨d1,es,ep,d2,d3,d4⟩:=d;exact⟨o,es,ep,J,d1,d2,d3,λx M=>Zu I (z x M),d4⟩
theorem bp{h:Heap}{P:Program}{w:World}{a:Addr}{xs:List (List Int×Addr×Value)}(d:h.DictOfH (tupleKind (intKind P w)) a xs) : ∃o,h.get? a=some o/\DObj o xs:=by
 obtain⟨o,es,ep,h1,h2,z,I,_,J⟩:=d;exact⟨o,h1,h2,es,ep,z,I,J⟩
end
theorem Vx{P:Program}{w:World}{H:Hp}{h:Heap}{a:Addr}{o:Obj}(e:h.get? a=some o):ObjOk P w H h a (atO a o):=⟨e,⟨o,e⟩,λh1 h2 p q=>q o p⟩
theorem XN{K:Type} [DecidableEq K]{k:K} : ∀{xs:List (K×Addr×Value)},k∉xs.map (·.1)->atKey xs k=none
 | xs,h=>by
  unfold atKey;rw [Option.map_eq_none_iff,List.find?_eq_none];intro x I z;exact h (uS.mpr ⟨x,I,by simpa using z⟩)
theorem Zw{K:rH}{H:Hp}{d:D}{k:List Int}{v:V}(e:W2 d=some k)(r:Rep K H d v) : ∃b,v = .ref b/\SqT K H b (k.map V.int):=by
 cases d with
 | tup ds=>
  obtain⟨b,zs,rfl,z,I⟩:=kj r;have:=ya e I;refine⟨b,rfl,?_⟩;rw [this]at z;simpa [kV,uh,Bn]using z
 | _=>cases e
section
variable{prog:Program}{w:World}{A:Around}{E:Value->Shared->Prop}{s:Shared}{d it:Addr}{o:Obj}{es:Array DictEntry}{i n ep:Nat}
theorem YZ{Q:Value->Shared->Prop}(hd:(d==sysModules)=false)(z:s.heap.get? d=some o)(M:o.ExactDict)(J:o.data = .dict es ep)(hn:es.size=n)
 (O:Q (.ref s.heap.objs.size) {s with heap:=s.heap.push {cls:= .type "dict_keyiterator",data:= .fields #[.ref d,.int 0 0,.int n 0,.int ep 0]}}):wpAny (model prog w) A (pyIter (.ref d)) Q E s:=by
 have I:s.TypeIs (.ref d) "dict":=⟨o,z,M.1⟩;refine wpAny_pyIter_slot I F.slot_dict_iter (uA F.slot_dict_iter I F.entry_dict_iter ?_ (F.args_dict_iter_1 _));unfold Builtin.«dict.__iter__»;refine rK ?_;unfold Builtin.Dict.dictSlotNone;refine rK (wpAny_notOrdered_dict I ?_);show wpAny _ _ (pure (sN d)) _ _ s;refine rS ?_;show wpAny _ _ (Builtin.Dict.showsAll d >>= _) _ _ s;unfold Builtin.Dict.showsAll;rw [if_neg (by rw [hd];exact tj)];refine rK (rS ?_);refine rK (CK z J ?_);refine rK (wpAny_dictEpoch z J ?_);refine rK (ui (rS ⟨_,rfl,"dict_keyiterator",_,⟨_,sh _ rfl,rfl⟩,uU.lookup,?_⟩));simpa [rawInt,hn]using O
theorem WN{Q:Option Value->Shared->Prop}(z:s.heap.IsKeyIter it d i n ep)(J:s.heap.get? d=some o)(M:o.data = .dict es ep)(hsz:es.size=n)(Y:i<es.size)
 (hQ : ∀h',h'.IsKeyIter it d (i+1) n ep->Ah it s.heap h'->Q (some es[i].key) {s with heap:=h'}):wpAny (model prog w) A (pyNext (.ref it)) Q E s:=by
 obtain⟨o,I,hc,hd⟩:=id z;unfold pyNext;refine rK (Bo (uv (name:=uB "__next__") z.typeIs uU
  (uA uU z.typeIs CM ?_ (CI _))))
 refine rK (rS ?_);refine rK ?_;refine rK ?_;refine rK (Ar z.typeIs (rS ?_));refine rK (wpAny_fieldsOf I hd ?_);have a2:BI "dict_keyiterator" = false:=by decide
 simp only [a2,AN,if_false];show wpAny _ _ (if (sN d==tH)=true then _ else _) _ _ s;rw [if_neg (show ¬((sN d==tH)=true)from tj)];refine rK (rS ?_);refine rK (CK J M ?_);rw [if_neg (by rw [hsz];simp)];refine rK (rS ?_);refine rK (wpAny_dictEpoch J M ?_);rw [if_neg ⋯];refine rS ?_;simp only [show ¬((i:Int)<0)from by omega,if_false,tm,Array.getElem?_eq_getElem Y];refine rK ?_;refine rK (Ar z.typeIs (rS ?_));refine rK (wpAny_isOneOf_keyiter z.typeIs ?_);show wpAny _ _ (setField (.ref it) 1 (rawInt ((i:Int)+1)) >>= _) _ _ s;refine rK (Cq I hd ⋯ ?_);have O:(s.heap.update it (Obj.mapFields (·.setIfInBounds 1 (rawInt ((i:Int)+1))))).IsKeyIter it d (i+1) n ep:=
  ⟨_,BN _ I (Obj.isFreed_of_fields (Bt hd _)),(Obj.cls_mapFields ..).trans hc,by rw [Bt hd];simp [rawInt]⟩
 refine rK (uD ?_);refine rK (wpAny_isOneOf_keyiter (s:={s with heap:=s.heap.update it (Obj.mapFields (·.setIfInBounds 1 (rawInt ((i:Int)+1))))}) O.typeIs ?_);show wpAny _ _ (pure es[i].key) _ _ _;exact rS (rS ⟨_,rfl,rS (hQ _ O (AY ..))⟩)
theorem Jw{Q:Option Value->Shared->Prop}(O:A.handled=none)(z:s.heap.IsKeyIter it d i n ep)(I:s.heap.get? d=some o)(J:o.data = .dict es ep)(hsz:es.size=n)(Y:es.size<=i)
 (hQ : ∀h',Heap.ExtBut it s.heap h'->Q none {s with heap:=h'}):wpAny (model prog w) A (pyNext (.ref it)) Q E s:=by
 obtain⟨o,M,hc,hd⟩:=id z;unfold pyNext;refine rK (Bo (uv (name:=uB "__next__") z.typeIs uU
  (uA uU z.typeIs CM ?_ (CI _))))
 refine rK (rS ?_);refine rK ?_;refine rK ?_;refine rK (Ar z.typeIs (rS ?_));refine rK (wpAny_fieldsOf M hd ?_);have a1:BI "dict_keyiterator" = false:=by decide
 simp only [a1,AN,if_false];show wpAny _ _ (if (sN d==tH)=true then _ else _) _ _ s;rw [if_neg (show ¬((sN d==tH)=true)from tj)];refine rK (rS ?_);refine rK (CK I J ?_);rw [if_neg (by rw [hsz];simp)];refine rK (rS ?_);refine rK (wpAny_dictEpoch I J ?_);rw [if_neg ⋯];refine rS ?_;simp only [show ¬((i:Int)<0)from by omega,if_false,tm,Array.getElem?_eq_none Y];refine rK ?_;refine rK (Ar z.typeIs (rS ?_));show wpAny _ _ (setField (.ref it) 0 .none >>= _) _ _ s;refine rK (Cq M hd ⋯ ?_);show wpAny _ _ (newExc (.type "StopIteration") [] >>= _) _ _ _;refine rK ?_;simp only [newExc,newTuple];refine rK (ui ?_ (by size_fits));refine rK (m:=firstArgMember _ _) (wpAny_of_eq (a:=tH) (by first | rfl | (simp only [firstArgMember];rfl)) ?_);refine ui ?_ (by size_fits);simp only [raiseNew];refine rK (wpAny_handled ?_);rw [show A.in1.handled=none from O];refine rK (rS (wpAny_throw ?_));refine rK (wpAny_isInstance (T:="StopIteration") (b:=true) ⟨_,sh _ rfl,rfl⟩ isSubtype_stop ?_);exact rS (hQ _ (((AY ..).extBut.push _).push _))
end
theorem kK{K:rH}{H:Hp} : ∀zs:List Int,Reps K H (zs.map D.int) (zs.map V.int)
 | []=>Reps.nil
 | z::zs=>Reps.cons (show V.int z = .int z from rfl) (kK zs)
def pe:List (List Int)->List Int->List Int->Option Int
 | k::ks,n::ns,i=>if k=i then some n else pe ks ns i
 | _,_,_=>none
def eqT(ks:List (List Int))(ns:List Int)(z:List (List Int))(I:List Int):Bool:=decide (ks.length=z.length) && (ks.zip ns).all λx=>decide (pe z I x.1=some x.2)
def pj(d e:D):Option Bool:=match d with
 | .dct ks vs=>match e with
  | .dct z I=>(kn vs).bind λns=>(kn I).map λJ=>eqT ks ns z J
  | _=>none
 | _=>none
@[simp] def rG(d e:D):Option D:=(pj d e).map D.bl
@[simp] def rF(d e:D):Option D:=(pj d e).map λb=>D.bl (!b)
def isNestB:Cell->Bool
 | .nest _=>true
 | _=>false
def yC(i:Nat):Tg->Bool
 | .nm j=>decide (j≠i)
 | .tp z=>decide (i∉z)
theorem Zr{γ:Ctx}(h:γ.any isNestB=false) : ∀(i:Nat) rows,γ[i]? ≠ some (.nest rows):=λi rows e=>by
 have:=BC.mp h _ (sy e);exact this rfl
theorem Q3{γ:Ctx}(h:γ.any isNestB=false)(j:Nat)(d:D):(γ.set j (.val d)).any isNestB=false:=by
 refine BC.mpr λc I z=>?_;rcases List.mem_or_eq_of_mem_set I with I | I
 ·exact BC.mp h c I z
 ·rw [I]at z;cases z
theorem vd : ∀(is:List Nat) (ds:List D) {γ:Ctx},γ.any isNestB=false->(jX is ds γ).any isNestB=false
 | [],ds,γ,h=>by cases ds<;>exact h
 | i::is,[],γ,h=>h
 | i::is,d::ds,γ,h=>vd is ds (Q3 h i d)
theorem JT{T:Tg}{d:D}{γ γ1:Ctx}(e:jx T d γ=some γ1)(h:γ.any isNestB=false):γ1.any isNestB=false:=by
 cases T with
 | nm j=>cases e;exact Q3 h j d
 | tp is=>
  cases d with
  | tup ds=>
   simp only [jx]at e;split at e
   ·cases e;exact vd is ds h
   ·cases e
  | _=>simp [jx]at e
section
variable{K:rH}{E0 E H0 H:Hp}{σ:St}{γ:Ctx}{p:Addr}{u u':HO}
theorem RS.repl(r:RS K E0 E H0 H σ γ)(hn:γ.any isNestB=false)(M:H p=some u)(O : ∀xs,u ≠ .lst xs)(h0:H0 p=none)(he:E p=none):RS K E0 E H0 (upd H p u') σ γ:=by
 have I:Same H0 (upd H p u'):=λb o e=>by rw [zz (λz=>by rw [z,h0]at e;cases e)];exact r.rc.sub b o e
 have ne : ∀{a:Addr} {xs:List V},H a=some (.lst xs)->a≠p:=λe z=>by rw [z,M]at e;exact O _ (sH e)
 refine⟨⟨I,r.rc.len,r.rc.val,λi ds e=>?_,r.rc.ne,NestOk.nil0 (Zr hn)⟩,⟨r.ext.s0,λb o e=>by rw [zz (λz=>by rw [z,he]at e;cases e)];exact r.ext.s1 b o e,I,r.ext.new⟩,r.fresh,λi rows a xs e=>absurd e (Zr hn i rows)⟩;obtain⟨a,xs,h1,h2,J,Y⟩:=r.rc.own i ds e;exact⟨a,xs,h1,h2,by rw [zz (ne J)];exact J,Y⟩
theorem RS.showD(r:RS K E0 E H0 H σ γ)(hn:γ.any isNestB=false)(J:H p=some u)(Y : ∀xs,u ≠ .lst xs)(h0:H0 p=none)(he:E p=none):RS K E0 E (upd H0 p u) H σ γ:=by
 have M:Same (upd H0 p u) H:=λb o e=>by
  by_cases z:b=p
  ·subst z;rw [zw]at e;rw [J];exact e
  ·rw [zz z]at e;exact r.rc.sub b o e
 have ne : ∀{a:Addr} {xs:List V},H a=some (.lst xs)->a≠p:=λe z=>by rw [z,J]at e;exact Y _ (sH e)
 have s0:Same H0 (upd H0 p u):=zR h0 _;refine⟨⟨M,r.rc.len,λi d e=>?_,λi ds e=>?_,r.rc.ne,NestOk.nil0 (Zr hn)⟩,⟨r.ext.s0.trans s0,r.ext.s1,M,λc q1 I=>?_⟩,r.fresh,λi rows a xs e=>absurd e (Zr hn i rows)⟩
 ·obtain⟨v,h1,h2⟩:=r.rc.val i d e
  exact⟨v,h1,h2.mono s0⟩
 ·obtain⟨a,xs,h1,h2,O,h4⟩:=r.rc.own i ds e
  exact⟨a,xs,h1,by rw [zz (ne O)];exact h2,O,h4.mono s0⟩
 ·rw [zz (λz=>by rw [z,he]at I;exact I rfl)];exact r.ext.new c q1 I
end
theorem k4{i:Nat} : ∀{is:List Nat} {vs:List V} {σ:St},i∉is->(setAll is vs σ)[i]? = σ[i]?
 | [],vs,σ,_=>by cases vs<;>rfl
 | j::is,[],σ,_=>rfl
 | j::is,v::vs,σ,h=>by
  show(setAll is vs (σ.set j (some v)))[i]? = _;rw [k4 (λz=>h (sd _ z)),rW (λz=>h (by rw [z];exact rX))]
theorem wV{K:rH}{H0 H:Hp}{T:Tg}{d:D}{v:V}{σ:St}{γ γ1:Ctx}{i:Nat}{Q:St->Hp->Prop}(s:Same H0 H)(h:Rep K H0 d v)(e:jx T d γ=some γ1)(J:yC i T=true)
 (q : ∀z,z[i]? = σ[i]? ->(∀E0 E,RS K E0 E H0 H σ γ->RS K E0 E H0 H z γ1)->Q z H):gOf K T v σ H Q:=by
 cases T with
 | nm j=>cases e;exact q _ (rW (of_decide_eq_true J)) λE0 E r=>r.setVal h
 | tp is=>
  cases d with
  | tup ds=>
   simp only [jx]at e;by_cases I:ds.length=is.length
   ·rw [if_pos I]at e;cases e
    obtain⟨a,xs,rfl,h1,h2⟩:=(show ∃a xs,v = .ref a/\SqT K H0 a xs/\Reps K H0 ds xs from h);have M:xs.length=is.length:=by rw [h2.length,I]
    exact⟨a,xs,rfl,sameT s h1,M,Zy M (q _ (k4 (of_decide_eq_true J)) λE0 E r=>r.setAll h2)⟩
   ·rw [if_neg I]at e;cases e
  | _=>simp [jx]at e
def JM:Obj:={cls:= .type "dict",data:= .dict #[]}
theorem nY:DObj JM []:=⟨⟨rfl,rfl,rfl⟩,#[],0,rfl,rfl,List.nodup_nil⟩
theorem QE{p:Addr}{o:Obj} : ∀xs,atO p o ≠ .lst xs:=λxs z=>by cases z
abbrev XR:=Ctx×List (List Int)×List D
abbrev XF:=Ctx->List (List Int)->List D->Option XR
def vn(ks:List (List Int))(k:List Int):List (List Int):=if k∈ks then ks else ks++[k]
def Jn:List (List Int)->List D->List Int->D->List D
 | k'::ks,v'::vs,k,v=>if k'=k then v::vs else v'::Jn ks vs k v
 | _,_,_,v=>[v]
def nq(z I:CO D):XF:=λγ ks vs=>(I γ).bind λv=>((z γ).bind W2).bind λk=>if ks.length<lim then some (γ,vn ks k,Jn ks vs k v)else none
def nk(F G:XF):XF:=λγ ks vs=>(F γ ks vs).bind λr=>G r.1 r.2.1 r.2.2
def kD(T:Tg)(F:XF):List D->XF
 | [],γ,ks,vs=>some (γ,ks,vs)
 | d::ds,γ,ks,vs=>(jx T d γ).bind λγ1=>(F γ1 ks vs).bind λr=>kD T F ds r.1 r.2.1 r.2.2
def aT(i:Nat)(src:CO (List D))(T:Tg)(F:XF):XF:=λγ ks vs=>if yC i T=true then (src γ).bind λds=>kD T F ds γ ks vs else none
structure QS(K:rH)(i:Nat)(p:Addr)(E0 E H0 H:Hp)(σ:St)(γ:Ctx)(ks:List (List Int))(vs:List D):Prop where
 rs:RS K E0 E H0 H σ γ
 nn:γ.any isNestB=false
 sl:σ[i]? = some (some (.ref p))
 h0:H0 p=none
 he:E p=none/\(p==sysModules)=false
 ex : ∃o es ys,H p=some (atO p o)/\DObj o es/\es.map (·.1)=ks/\(∀e∈es,SqT K H0 e.2.1 (e.1.map V.int))/\Reps K H0 vs ys/\Vals ys (es.map (·.2.2))
section
variable{K:rH}{i:Nat}{p:Addr}{E0 E H0 H H0' H':Hp}{σ σ':St}{γ γ':Ctx}{ks:List (List Int)}{vs:List D}
theorem QS.step(x:QS K i p E0 E H0 H σ γ ks vs)(e:Ext H0 H H0' H'):QS K i p E0 E H0' H' σ γ ks vs:=by
 obtain⟨o,es,ys,h1,h2,I,J,M,O⟩:=x.ex;exact⟨x.rs.step e,x.nn,x.sl,e.new p x.h0 (by rw [h1];simp),x.he,o,es,ys,e.s1 _ _ h1,h2,I,λz Y=>sameT e.s0 (J z Y),M.mono e.s0,O⟩
theorem QS.names(x:QS K i p E0 E H0 H σ γ ks vs)(r:RS K E0 E H0 H σ' γ')(n:γ'.any isNestB=false)(s:σ'[i]? = σ[i]?):QS K i p E0 E H0 H σ' γ' ks vs:=⟨r,n,by rw [s];exact x.sl,x.h0,x.he,x.ex⟩
end
def tQX(K:rH)(i:Nat)(F:XF):TS:=λD σ H=>∃p E0 E H0 γ ks vs r,QS K i p E0 E H0 H σ γ ks vs/\F γ ks vs=some r/\∀σ' H' H0',QS K i p E0 E H0' H' σ' r.1 r.2.1 r.2.2->D.nx σ' H'
theorem Kk{xs:List (List Int×Addr×Value)}{k:List Int}{b:Addr}{r:Value}:(storedH xs k b r).map (·.1)=vn (xs.map (·.1)) k:=by
 unfold storedH vn;by_cases h:k∈xs.map (·.1)
 ·have:(atKey xs k).isSome=true:=by
   obtain⟨x,z,e⟩:=uS.mp h;unfold atKey;rw [Option.isSome_map,List.find?_isSome];exact⟨x,z,by simpa using e⟩
  rw [if_pos this,if_pos h,uh];refine sf λx z=>?_;show(putAt k r x).1=x.1;unfold putAt;split<;>rfl
 ·rw [if_neg (by rw [XN h];decide),if_neg h,uf]
  rfl
theorem X9{xs:List (List Int×Addr×Value)}{k:List Int}{b:Addr}{r:Value}{P:List Int->Addr->Prop}(h : ∀x∈xs,P x.1 x.2.1)(M:P k b) : ∀x∈storedH xs k b r,P x.1 x.2.1:=by
 intro x I;unfold storedH at I;split at I
 ·obtain⟨y,J,rfl⟩:=uS.mp I
  unfold putAt;split
  ·exact h y J
  ·exact h y J
 ·rcases Au.mp I with z | z
  ·exact h x z
  ·rw [tK.mp z];exact M
theorem Xc{k:List Int}{r:Value} : ∀{xs:List (List Int×Addr×Value)},k∉xs.map (·.1)->xs.map (putAt k r)=xs
 | [],_=>rfl
 | x::xs,h=>by
  rw [sJ,Xc (λz=>h (sd _ z))];congr 1;unfold putAt;rw [if_neg λz=>h (by rw [<- z];exact rX)]
theorem Xb{K:rH}{H:Hp}{k:List Int}{b:Addr}{r:Value}{v:D}{y:V}(I:Rep K H v y)(J:RelV y r) : ∀{xs:List (List Int×Addr×Value)} {vs:List D} {ys:List V},(xs.map (·.1)).Nodup->Reps K H vs ys->Vals ys (xs.map (·.2.2))->
 ∃M,Reps K H (Jn (xs.map (·.1)) vs k v) M/\Vals M ((storedH xs k b r).map (·.2.2))
 | [],vs,ys,_,h1,h2=>by
  cases h2;cases vs with
  | nil=>exact⟨[y],Reps.cons I Reps.nil,.cons J .nil⟩
  | cons d vs=>obtain⟨_,_,q,_⟩:=h1.inv_cons;cases q
 | x::xs,vs,ys,nd,h1,h2=>by
  have O:=ux.mp nd;cases h2 with
  | cons v1 Y=>
   cases vs with
   | nil=>have:=h1.inv_nil;cases this
   | cons d vs=>
    obtain⟨y0,yr,q,g1,g2⟩:=h1.inv_cons;cases q;by_cases z:x.1=k
    ·have hk:k∉xs.map (·.1):=by rw [<- z];exact O.1
     have e1:Jn ((x::xs).map (·.1)) (d::vs) k v=v::vs:=by show(if x.1=k then _ else _)=_;rw [if_pos z]
     have e2:storedH (x::xs) k b r=(x.1,x.2.1,r)::xs:=by
      have:(atKey (x::xs) k).isSome=true:=by unfold atKey;rw [List.find?_cons_of_pos (by simpa using z)];rfl
      unfold storedH;rw [if_pos this,sJ,Xc hk];unfold putAt;rw [if_pos z]
     rw [e1,e2];exact⟨_,Reps.cons I g2,.cons J Y⟩
    ·obtain⟨M,i1,i2⟩:=Xb (b:=b) I J O.2 g2 Y
     have e1:Jn ((x::xs).map (·.1)) (d::vs) k v=d::Jn (xs.map (·.1)) vs k v:=by show(if x.1=k then _ else _)=_;rw [if_neg z]
     have e2:storedH (x::xs) k b r=x::storedH xs k b r:=by
      have:atKey (x::xs) k=atKey xs k:=by unfold atKey;rw [List.find?_cons_of_neg (by simpa using z)]
      unfold storedH;rw [this];split
      ·rw [sJ]
       congr 1;unfold putAt;rw [if_neg z]
      ·rfl
     rw [e1,e2];exact⟨_,Reps.cons g1 i1,.cons v1 i2⟩
def gk(K:rH)(I ty tv:TE):TS:=λD σ H=>tv σ H λv H1=>I σ H1 λx H2=>ty σ H2 λy z=>∃a o es k b,x = .ref a/\z a=some (atO a o)/\DObj o es/\(∀e∈es,SqT K z e.2.1 (e.1.map V.int))/\y = .ref b/\SqT K z b (k.map V.int)/\es.length<=sizeLine/\
 ∀o' r,DObj o' (storedH es k b r)->RelV v r->D.nx σ (upd z a (atO a o'))
theorem de{X:Cx}{o i value:Expr}{pos pos':Pos}{O ty tv:TE}(hu:X.A.units+1<cLine)(ho:PE X o O)(hi:PE X i ty)(hv:PE X value tv)(hs:swapsWith value (some (.Subscript o i pos')) pos.line X.env=pure false) :
 PS X (.Assign [.Subscript o i pos'] value pos) (gk X.K O ty tv):=by
 intro pins s σ H D I h;refine wpAny_Assign_Subscript (thn (hv pins s σ H _ I h) λr s1 J=>?_) hs;obtain⟨v,H1,I1,rv,q1⟩:=J;refine thn (ho pins s1 σ H1 _ I1 q1) λu s2 J=>?_;obtain⟨x,H2,I2,rx,q2⟩:=J;refine thn (hi pins s2 σ H2 _ I2 q2) λiv s3 J=>?_;obtain⟨y,H3,M,ry,a,ob,es,k,b,rfl,e1,e2,e3,rfl,e4,e6,q3⟩:=J;cases (show u=sN a from rx);cases (show iv=sN b from ry);have dH:=Qy M e1 e2 e3;refine wpAny_setItem_heap (hsz:=e6) (tupleKind_room_in1 hu) (Zu M e4) dH λh' b0 b9=>?_;obtain⟨o',Y,bb⟩:=bp b0;exact⟨σ,_,M.write (x:=a) (e:=a) (o:=atO a o') (t':=_) (h':=h') (by rw [e1];exact uc) (.inl rfl) (λb q hb z=>(b9.2 b hb).trans z) ⟨_,Y⟩ (Vx Y),q3 o' r bb rv⟩
section
variable{X:Cx}{i:Nat}{st:Stmt}{jV:List Stmt}{pos:Pos}
theorem gB{M O:CO D}(h:PS X st (gk X.K (vZ i) (tV X.K M) (tV X.K O))):PS X st (tQX X.K i (nq M O)):=qm h λD σ H hZ=>by
 obtain⟨p,E0,E,H0,γ,ks,vs,r,xs,z,a4⟩:=hZ;obtain⟨v,e1,z⟩:=bind_some z;obtain⟨k,e2,z⟩:=bind_some z;obtain⟨kd,e3,e4⟩:=bind_some e2;split at z
 ·next ar=>
  cases z;refine⟨H0,γ,v,xs.rs.rc,e1,λv1 H1 a8 x1 r1=>⟨.ref p,xs.sl,a8,γ,kd,(xs.step x1).rs.rc,e3,λkv H2 Y I r2=>?_⟩⟩;obtain⟨b,rfl,a0⟩:=Zw e4 r2;have y:=(xs.step x1).step I;obtain⟨o,es,ys,h1,h2,J,h4,h5,h6⟩:=y.ex;have b0:es.length=ks.length:=by rw [<- J,sC]
  have b9:lim<=sizeLine:=by decide
  have nd:(es.map (·.1)).Nodup:=by obtain⟨_,_,_,_,_,n⟩:=h2;exact n
  refine⟨p,o,es,k,b,rfl,h1,h2,λe he=>sameT y.rs.rc.sub (h4 e he),rfl,sameT I.sub a0,by omega,λo' r' am rr=>a4 _ _ Y ?_⟩;obtain⟨ap,g1,g2⟩:=Xb (k:=k) (b:=b) (r1.mono I.s0) rr nd h5 h6;rw [J]at g1;exact⟨y.rs.repl y.nn h1 QE y.h0 y.he.1,y.nn,y.sl,y.h0,y.he,o',_,ap,zw,am,by rw [Kk,J],X9 (P:=λk b=>SqT X.K Y b (k.map V.int)) h4 a0,g1,g2⟩
 ·cases z
end
section
variable{X:Cx}{i:Nat}{st:Stmt}{jV:List Stmt}{pos:Pos}
theorem Yk{F:XF}(h:PS X st (tQX X.K i F)):PSs X [st] (tQX X.K i F):=xf h
theorem aS{tg iter:Expr}{body:List Stmt}{src:CO (List D)}{T:Tg}{F:XF}(hp:PassesOwn (model X.prog X.w) X.A X.env X.xe)(hc:X.calm=true)(hi:PIF X tg iter src)(hg:PG X tg (gOf X.K T))(hb:PSs X body (tQX X.K i F))
 (hs : ∀x,foldedSetIterable iter X.env x=pure x:=by intro _;rfl):PS X (.For tg iter body [] pos) (tQX X.K i (aT i src T F)):=qm (Jr hp hc hi hg hb hs) λD σ H hZ=>by
 obtain⟨p,E0,E,H0,γ,ks,vs,r,xs,M,ap⟩:=hZ;unfold aT at M;split at M
 ·next ar=>
  obtain⟨ds,e1,M⟩:=bind_some M;refine⟨H0,γ,ds,xs.rs.rc,e1,λJ H1 O x1 wk=>?_⟩;have y:=xs.step x1;have hx:=y.rs.ext;refine⟨λn m σ H=>m=ds.length - n/\n<=ds.length/\∃H0 γ ks vs,QS X.K i p O E H0 H σ γ ks vs/\kD T F (ds.drop n) γ ks vs=some r,⟨_,rfl,tZ _,O,γ,ks,vs,⟨⟨y.rs.rc,hx.base,y.rs.fresh,y.rs.fr2⟩,y.nn,y.sl,y.h0,y.he,y.ex⟩,M⟩,?_⟩;rintro n m σ3 Y ⟨rfl,bx,a4,γ3,ax,b0,z,I⟩;have a2:Same O Y:=z.rs.ext.s0.trans z.rs.ext.sub;by_cases a0:n<ds.length
  ·refine .inr ⟨wk.go n Y a2 a0,λσ H=>n+1<=ds.length/\∃H0 γ ks vs,QS X.K i p O E H0 H σ γ ks vs/\kD T F (ds.drop (n+1)) γ ks vs=some r,λσ' H' q=>⟨ds.length - (n+1),by omega,rfl,q.1,q.2⟩,λx H' yy=>?_⟩
   obtain⟨d,hd,bb⟩:=wk.yld n Y x H' a2 a0 yy;obtain⟨G0,xg,rg⟩:=bb a4 z.rs.ext.s0 z.rs.rc.sub;have be:ds.drop n=d::ds.drop (n+1):=by
    have bg:d=ds[n]:=by rw [rN a0]at hd;exact(sH hd).symm
    rw [bg];exact uK a0
   rw [be]at I;obtain⟨γ4,eb,I⟩:=bind_some I;obtain⟨r4,eF,I⟩:=bind_some I;refine wV (i:=i) xg.sub rg eb ar λσ4 hσ bn=>?_;have z1:=z.step xg;exact⟨p,O,E,G0,γ4,ax,b0,r4,z1.names (bn O E z1.rs) (JT eb z1.nn) hσ,eF,λσ5 H5 bv q=>⟨a0,bv,_,_,_,q,I⟩⟩
  ·have e:n=ds.length:=by omega
   subst e;rw [AE]at I;cases I;exact .inl ⟨wk.stop Y a2,ap σ3 Y a4 ⟨⟨z.rs.rc,hx.rebase z.rs.ext,z.rs.fresh,z.rs.fr2⟩,z.nn,z.sl,z.h0,z.he,z.ex⟩⟩
 ·cases M
end
def lW:XF:=λγ ks vs=>some (γ,ks,vs)
def tQC(K:rH)(i:Nat)(F:XF)(G:CO Fl):TS:=λD σ H=>∃p E0 E H0 γ ks vs r z,(p==sysModules)=false/\QS K i p E0 E H0 H σ γ ks vs/\F γ ks vs=some r/\r.2.1.length<=lim/\G (r.1.set i (.val (.dct r.2.1 r.2.2)))=some z/\Sat K E0 E D z
section
variable{X:Cx}{i:Nat}{st:Stmt}{jV:List Stmt}
theorem gC{G:CO Fl}(h:XW X jV G):PSs X jV (tQC X.K i lW G):=by
 intro pins s σ H D I O;refine h pins s σ H D I ?_;obtain⟨p,E0,E,H0,γ,ks,vs,r,Y,a0,xs,ef,hl,eG,a4⟩:=O;cases ef;obtain⟨o,es,ys,h1,h2,J,h4,h5,h6⟩:=xs.ex;have ac:lim<=sizeLine:=by decide
 have am:es.length=ks.length:=by rw [<- J,sC]
 have r4:=xs.rs.showD xs.nn h1 QE xs.h0 xs.he.1;have M:Same H0 (upd H0 p (atO p o)):=zR xs.h0 _;have r5:=r4.setVal (i:=i) (d:= .dct ks vs) (v:= .ref p) (show ∃a xs,V.ref p = .ref a/\DRt X.K (upd H0 p (atO p o)) a ks xs/\Reps X.K (upd H0 p (atO p o)) vs xs from⟨p,ys,rfl,⟨a0,o,es,zw,h2,J,by have:ks.length<=lim:=hl;omega,λx hx=>sameT M (h4 x hx),h6⟩,h5.mono M⟩);have e5:σ.set i (some (.ref p))=σ:=by
  apply Af;intro j;by_cases z:j=i
  ·subst z
   rw [sM (by have:=rP.mp xs.sl;exact this.1),xs.sl]
  ·rw [rW (uu z)]
 rw [e5]at r5;exact⟨E0,E,_,_,Y,r5,eG,a4⟩
theorem cQ{F J:XF}{G:CO Fl}(h1:PS X st (tQX X.K i F))(h2:PSs X jV (tQC X.K i J G)):PSs X (st::jV) (tQC X.K i (nk F J) G):=by
 intro pins s σ H D I M;refine(j8 h1 h2) pins s σ H D I ?_;obtain⟨p,E0,E,H0,γ,ks,vs,r,O,Y,xs,z,hl,eG,a2⟩:=M;obtain⟨r1,e1,z⟩:=bind_some z;exact⟨p,E0,E,H0,γ,ks,vs,r1,xs,e1,λσ' H' H0' y=>⟨p,E0,E,H0',_,_,_,r,O,Y,y,z,hl,eG,a2⟩⟩
end
abbrev TT:=List (List (List Int))
abbrev YF:=Ctx->TT->Option (Ctx×TT)
def fF(r:List Int):D:= .lst (r.map D.int)
def fE(R:List (List Int)):D:= .lst (R.map fF)
def eJ(Z:TT):D:= .lst (Z.map fE)
def isPl:Cell->Bool
 | .no=>true
 | .val _=>true
 | _=>false
def Yh:List (List D)->Option (List (List Int))
 | []=>some []
 | r::rs=>(kn r).bind λa=>(Yh rs).map λb=>a::b
def lQ:YF:=λγ Z=>some (γ,Z)
def vY(F G:YF):YF:=λγ Z=>(F γ Z).bind λr=>G r.1 r.2
def yIf(t:CO Bool)(F:YF):YF:=λγ Z=>(t γ).bind λb=>if b=true then F γ Z else some (γ,Z)
def J4(z:List Nat)(T:Tg)(f:CO D):YF:=λγ Z=>if z.all (yC · T)=true then (f γ).bind λd=>(jx T d γ).map λγ1=>(γ1,Z)else none
def ZV(T:Tg)(F:YF):List D->YF
 | [],γ,Z=>some (γ,Z)
 | d::ds,γ,Z=>(jx T d γ).bind λγ1=>(F γ1 Z).bind λr=>ZV T F ds r.1 r.2
def ZR(z:List Nat)(src:CO (List D))(T:Tg)(F:YF):YF:=λγ Z=>if z.all (yC · T)=true then (src γ).bind λds=>ZV T F ds γ Z else none
def fx(z:List Nat)(j:Nat)(I:CO D)(F:Nat->YF):YF:=λγ Z=>if j∈z\/γ.length<=j then none else ((I γ).bind asI).bind λn=>(ixD Z.length n).bind λk=>F k (γ.set j .no) Z
def kf(j:Nat)(z:CO D)(f:CO (List D))(k:Nat):YF:=λγ Z=>(Z[k]?).bind λR=>((f (γ.set j (.val (fE R)))).bind kn).bind λr=>((z γ).bind asI).bind λn=>(ixD R.length n).map λm=>(γ,Z.set k (R.set m r))
def kg(j:Nat)(z e:CO D)(k m:Nat):YF:=λγ Z=>(Z[k]?).bind λR=>(R[m]?).bind λrow=>((e (γ.set j (.val (fF row)))).bind asI).bind λv=>((z γ).bind asI).bind λn=>(ixD row.length n).map λl=>(γ,Z.set k (R.set m (row.set l v)))
def y6(j:Nat)(F:Nat->YF)(k N:Nat):Nat->YF
 | 0,γ,Z=>some (γ,Z)
 | n+1,γ,Z=>if γ.length<=j then none else (F (N - (n+1)) (γ.set j .no) Z).bind λs=>if (s.2[k]?).map AX=some N then y6 j F k N n s.1 s.2 else none
def kh(z:List Nat)(j:Nat)(F:Nat->YF)(k:Nat):YF:=λγ Z=>if j∈z then none else (Z[k]?).bind λR=>y6 j F k R.length R.length γ Z
def VX(F:List D->List D->TT->Option TT)(ga gb:CO (List D)):YF:=λγ Z=>(ga γ).bind λds=>(gb γ).bind λes=>(F ds es Z).map λZ'=>(γ,Z')
def fN(f:CO (List (List D))):YF:=λγ Z=>((f γ).bind Yh).bind λR=>if Z.length<lim then some (γ,Z++[R])else none
def ni(n i:Nat)(F:YF)(ds es:List D)(Z:TT):Option TT:=(F ((jP n (ds ++ .non::es)).set i .no) Z).map (·.2)
abbrev LF:=CO (D×TT)
def nG(F:CO Fl)(G:LF):LF:=λγ=>(F γ).bind λz=>match z with
 | .next γ'=>G γ'
 | _=>none
def fD(i:Nat)(F:YF)(g:CO D):LF:=λγ=>if (γ.set i .no).all isPl=true/\i<γ.length then (F (γ.set i .no) []).bind λs=>(g s.1).map λd=>(d,s.2)else none
def cN(n:Nat)(G:LF)(ds:List D):Option (D×TT):=G (jP n ds)
def Ke(w i:Nat)(L:List D->Option (D×TT))(g:CO (List D))(F:YF):CO Fl:=λγ=>if ((γ.set w .no).set i .no).all isPl=true/\i<γ.length/\w≠i then
 (g γ).bind λds=>(L ds).bind λr=>(F ((γ.set w (.val r.1)).set i .no) r.2).map λs=> .next (s.1.set i (.val (eJ s.2)))else none
inductive Pl where
 | out | tab (k:Nat) | row (k m:Nat)
deriving DecidableEq
def okPl(Z:TT):Pl->Prop
 | .out=>True
 | .tab k=>k<Z.length
 | .row k m=>k<Z.length/\m<(Z.getD k []).length
def contOf(Z:TT)(ad:Pl->Addr):Pl->List V
 | .out=>(rO Z.length).map λk=>V.ref (ad (.tab k))
 | .tab k=>(rO (Z.getD k []).length).map λm=>V.ref (ad (.row k m))
 | .row k m=>((Z.getD k []).getD m []).map V.int
structure N3(H:Hp)(Z:TT)(ad:Pl->Addr):Prop where
 cont : ∀pl,okPl Z pl->H (ad pl)=some (.lst (contOf Z ad pl))
 inj : ∀pl pl',okPl Z pl->okPl Z pl'->ad pl=ad pl'->pl=pl'
structure Y3(K:rH)(al:List (Nat×Pl))(E0 E H0 H:Hp)(σ:St)(γ:Ctx)(Z:TT)(ad:Pl->Addr):Prop where
 rs:RS K E0 E H0 H σ γ
 pn:γ.all isPl=true
 sl : ∀x∈al,okPl Z x.2/\σ[x.1]? = some (some (.ref (ad x.2)))
 n3:N3 H Z ad
 h0 : ∀pl,okPl Z pl->H0 (ad pl)=none/\E (ad pl)=none
theorem Yy{γ:Ctx}(h:γ.all isPl=true) : ∀(i:Nat) ds,γ[i]? ≠ some (.own ds):=λi ds e=>by
 have:=sX.mp h _ (sy e);cases this
theorem Yz{γ:Ctx}(h:γ.all isPl=true) : ∀(i:Nat) rows,γ[i]? ≠ some (.nest rows):=λi ds e=>by
 have:=sX.mp h _ (sy e);cases this
theorem vq{γ:Ctx}(h:γ.all isPl=true)(j:Nat){c:Cell}(I:isPl c=true):(γ.set j c).all isPl=true:=by
 refine sX.mpr λc' J=>?_;rcases List.mem_or_eq_of_mem_set J with z | z
 ·exact sX.mp h c' z
 ·rw [z];exact I
theorem Js : ∀(is:List Nat) (ds:List D) {γ:Ctx},γ.all isPl=true->(jX is ds γ).all isPl=true
 | [],ds,γ,h=>by cases ds<;>exact h
 | i::is,[],γ,h=>h
 | i::is,d::ds,γ,h=>Js is ds (vq h i rfl)
theorem YA{T:Tg}{d:D}{γ γ1:Ctx}(e:jx T d γ=some γ1)(h:γ.all isPl=true):γ1.all isPl=true:=by
 cases T with
 | nm j=>cases e;exact vq h j rfl
 | tp is=>
  cases d with
  | tup ds=>
   simp only [jx]at e;split at e
   ·cases e;exact Js is ds h
   ·cases e
  | _=>simp [jx]at e
section
variable{K:rH}{al:List (Nat×Pl)}{E0 E H0 H H0' H':Hp}{σ σ':St}{γ γ':Ctx}{Z:TT}{ad:Pl->Addr}
theorem RC.pl(sub:Same H0 H)(len:σ.length=γ.length)(val : ∀(i:Nat) d,γ[i]? = some (.val d)->∃v,σ[i]? = some (some v)/\Rep K H0 d v)(pn:γ.all isPl=true):RC K H0 H σ γ:=
 ⟨sub,len,val,λi ds e=>absurd e (Yy pn i ds),λi j a ds es e=>absurd e (Yy pn i ds),NestOk.nil0 (Yz pn)⟩
theorem RS.pl(rc:RC K H0 H σ γ)(x:Ext E0 E H0 H)(pn:γ.all isPl=true):RS K E0 E H0 H σ γ:=
 ⟨rc,x,λi ds a e=>absurd e (Yy pn i ds),λi rows a xs e=>absurd e (Yz pn i rows)⟩
theorem RS.swap(r:RS K E0 E H0 H σ γ)(pn:γ.all isPl=true)(sub:Same H0 H')(s1:Same E H'):RS K E0 E H0 H' σ γ:=
 RS.pl (RC.pl sub r.rc.len r.rc.val pn) ⟨r.ext.s0,s1,sub,r.ext.new⟩ pn
theorem Ext.keep(s:Same H0 H)(e:Same H H'):Ext H0 H H0 H':=⟨Same.refl _,e,s.trans e,λ_ h _=>h⟩
theorem N3.step(n:N3 H Z ad)(e:Same H H'):N3 H' Z ad:=⟨λpl o=>e _ _ (n.cont pl o),n.inj⟩
theorem Y3.step(y:Y3 K al E0 E H0 H σ γ Z ad)(e:Ext H0 H H0' H'):Y3 K al E0 E H0' H' σ γ Z ad:=
 ⟨y.rs.step e,y.pn,y.sl,y.n3.step e.s1,λpl o=>⟨e.new _ (y.h0 pl o).1 (by rw [y.n3.cont pl o];simp),(y.h0 pl o).2⟩⟩
theorem Y3.names(y:Y3 K al E0 E H0 H σ γ Z ad)(r:RS K E0 E H0 H σ' γ')(pn:γ'.all isPl=true)(s : ∀x∈al,σ'[x.1]? = σ[x.1]?):Y3 K al E0 E H0 H σ' γ' Z ad:=
 ⟨r,pn,λx z=>⟨(y.sl x z).1,by rw [s x z];exact(y.sl x z).2⟩,y.n3,y.h0⟩
theorem Y3.weak{z:List (Nat×Pl)}(y:Y3 K al E0 E H0 H σ γ Z ad)(s : ∀x∈z,x∈al):Y3 K z E0 E H0 H σ γ Z ad:=⟨y.rs,y.pn,λx I=>y.sl x (s x I),y.n3,y.h0⟩
open Classical in
def ZX(H0 H:Hp)(Z:TT)(ad:Pl->Addr):Hp:=λc=>if ∃pl,okPl Z pl/\ad pl=c then H c else H0 c
theorem bX{pl:Pl}(h:okPl Z pl):ZX H0 H Z ad (ad pl)=H (ad pl):=by unfold ZX;rw [if_pos ⟨pl,h,rfl⟩]
theorem KU(h0 : ∀pl,okPl Z pl->H0 (ad pl)=none):Same H0 (ZX H0 H Z ad):=λc o q=>by
 unfold ZX;rw [if_neg]
 ·exact q
 ·rintro⟨pl,h1,h2⟩
  rw [<- h2,h0 pl h1]at q;cases q
theorem Za(s:Same H0 H):Same (ZX H0 H Z ad) H:=λc o q=>by
 unfold ZX at q;split at q
 ·exact q
 ·exact s c o q
def dOf(Z:TT):Pl->D
 | .out=>eJ Z
 | .tab k=>fE (Z.getD k [])
 | .row k m=>fF ((Z.getD k []).getD m [])
theorem Ji{G:Hp} : ∀(r:List Int),Reps K G (r.map D.int) (r.map V.int)
 | []=>Reps.nil
 | i::r=>Reps.cons (show V.int i = .int i from rfl) (Ji r)
theorem Q6{G:Hp}{α:Type}{f:α->D}{g:Nat->V} : ∀{l:List α} {n:Nat},(∀(k:Nat) x,l[k]? = some x->Rep K G (f x) (g (n+k)))->Reps K G (l.map f) ((Bh n l.length).map g)
 | [],n,_=>Reps.nil
 | x::l,n,h=>by
  rw [sJ,sP,Am,sJ];refine Reps.cons (h 0 x rfl) (Q6 λk y z=>?_);have:=h (k+1) y (by simpa using z)
  rwa [show n+(k+1)=n+1+k by omega]at this
theorem Jj{G:Hp}{α:Type}{f:α->D}{g:Nat->V}{l:List α}(h : ∀(k:Nat) x,l[k]? = some x->Rep K G (f x) (g k)):Reps K G (l.map f) ((rO l.length).map g):=by
 rw [uQ];exact Q6 λk x z=>by rw [uP];exact h k x z
theorem zX{α:Type}{l:List α}{k:Nat}{x d:α}(h:l[k]? = some x):l.getD k d=x:=by simp [List.getD,h]
theorem Q8{G:Hp}{k m:Nat}(n:N3 G Z ad)(h:okPl Z (.row k m)):Rep K G (dOf Z (.row k m)) (.ref (ad (.row k m))):=
 k6 (SqL.of (n.cont _ h)) (Ji _)
theorem Q7{G:Hp}{k:Nat}(n:N3 G Z ad)(h:okPl Z (.tab k)):Rep K G (dOf Z (.tab k)) (.ref (ad (.tab k))):=by
 refine k6 (SqL.of (n.cont _ h)) (Jj λm x z=>?_);have hm:=(rP.mp z).1;have:=Q8 (K:=K) n (k:=k) (m:=m) ⟨h,hm⟩;simp only [dOf,zX z]at this;exact this
theorem Wl{G:Hp}(n:N3 G Z ad):Rep K G (dOf Z .out) (.ref (ad .out)):=by
 refine k6 (SqL.of (n.cont .out uc)) (Jj λk x z=>?_);have I:=(rP.mp z).1;have:=Q7 (K:=K) n (k:=k) I;simp only [dOf,zX z]at this;exact this
theorem Yj{G:Hp}(n:N3 G Z ad){pl:Pl}(h:okPl Z pl):Rep K G (dOf Z pl) (.ref (ad pl)):=by
 cases pl with
 | out=>exact Wl n
 | tab k=>exact Q7 n h
 | row k m=>exact Q8 n h
theorem KW(n:N3 H Z ad):N3 (ZX H0 H Z ad) Z ad:=⟨λpl o=>by rw [bX o];exact n.cont pl o,n.inj⟩
theorem Y3.view(y:Y3 K al E0 E H0 H σ γ Z ad){i:Nat}{pl:Pl}(hi:(i,pl)∈al) : ∃G0,Same H0 G0/\RC K G0 H σ (γ.set i (.val (dOf Z pl))):=by
 have s0:=KU (H:=H) (λpl o=>(y.h0 pl o).1);obtain⟨o,I⟩:=y.sl _ hi;refine⟨_,s0,RC.pl (Za y.rs.rc.sub) (by simp [y.rs.rc.len]) (λj d e=>?_) (vq y.pn i rfl)⟩;rcases zE e with⟨rfl,z,_⟩ | ⟨J,z⟩
 ·cases z
  exact⟨_,I,Yj (KW y.n3) o⟩
 ·obtain⟨v,h1,h2⟩:=y.rs.rc.val j d z
  exact⟨v,h1,h2.mono s0⟩
theorem Y3.shown(y:Y3 K al E0 E H0 H σ γ Z ad){i:Nat}(hi:(i,Pl.out)∈al) : ∃G0,RS K E0 E G0 H σ (γ.set i (.val (eJ Z))):=by
 have s0:=KU (H:=H) (λpl o=>(y.h0 pl o).1);obtain⟨o,J⟩:=y.sl _ hi;refine⟨_,RS.pl (RC.pl (Za y.rs.rc.sub) (by simp [y.rs.rc.len]) (λj d e=>?_) (vq y.pn i rfl)) ⟨y.rs.ext.s0.trans s0,y.rs.ext.s1,Za y.rs.rc.sub,λc M I=>?_⟩ (vq y.pn i rfl)⟩
 ·rcases zE e with⟨rfl,z,_⟩ | ⟨O,z⟩
  ·cases z
   exact⟨_,J,Yj (KW y.n3) o⟩
  ·obtain⟨v,h1,h2⟩:=y.rs.rc.val j d z
   exact⟨v,h1,h2.mono s0⟩
 ·unfold ZX
  rw [if_neg]
  ·exact y.rs.ext.new c M I
  ·rintro⟨pl,h1,h2⟩
   rw [<- h2]at I;exact I (y.h0 pl h1).2
end
section
variable{K:rH}{al:List (Nat×Pl)}{q:Addr}{E0 E H0 H H0' H':Hp}{σ σ':St}{γ γ':Ctx}{Z:TT}{ad:Pl->Addr}{k m:Nat}{R R':List (List Int)}{row r:List Int}
theorem jD{α:Type}{l:List α}{k z:Nat}{x d:α}(I:k<l.length):(l.set k x).getD z d=if z=k then x else l.getD z d:=by
 by_cases h:z=k
 ·subst h;rw [if_pos rfl,rT,sM I];rfl
 ·rw [if_neg h,rT,rW (uu h),rT]
theorem qq(z:Z[k]? = some R)(I:R'.length=R.length){pl:Pl}:okPl (Z.set k R') pl↔okPl Z pl:=by
 have J:=(rP.mp z).1;cases pl with
 | out=>exact Iff.rfl
 | tab j=>show j<_↔j<_;rw [uV]
 | row j i=>
  show(j<_/\i<_)↔(j<_/\i<_);rw [uV,jD J];by_cases h:j=k
  ·subst h;rw [if_pos rfl,zX z,I]
  ·rw [if_neg h]
theorem N3.putNum(n:N3 H Z ad)(I:Z[k]? = some R)(hm:R[m]? = some row):N3 (upd H (ad (.row k m)) (.lst (r.map V.int))) (Z.set k (R.set m r)) ad:=by
 have J:=(rP.mp I).1;have O:=(rP.mp hm).1;have M:(R.set m r).length=R.length:=uV;have Y:okPl Z (.row k m):=⟨J,by rw [zX I];exact O⟩;refine⟨λpl o=>?_,λa b h1 h2 e=>n.inj a b ((qq I M).mp h1) ((qq I M).mp h2) e⟩;have o:=(qq I M).mp o;by_cases e:pl = .row k m
 ·subst e
  rw [zw];congr 2;show _=(((Z.set k (R.set m r)).getD k []).getD m []).map V.int;rw [jD J,if_pos rfl,jD O,if_pos rfl]
 ·rw [zz (λz=>e (n.inj _ _ o Y z)),n.cont pl o]
  congr 2;cases pl with
  | out=>show uy _ _=uy _ _;rw [uV]
  | tab j=>
   show uy _ _=uy _ _;rw [jD J];by_cases h:j=k
   ·subst h;rw [if_pos rfl,zX I,M]
   ·rw [if_neg h]
  | row j i=>
   show uy _ _=uy _ _;rw [jD J];by_cases h:j=k
   ·subst h
    rw [if_pos rfl,zX I,jD O,if_neg (λz=>e (by rw [z]))]
   ·rw [if_neg h]
def lV(ad:Pl->Addr)(k m:Nat)(q:Addr):Pl->Addr:=λpl=>if pl = .row k m then q else ad pl
theorem xy:lV ad k m q (.row k m)=q:=if_pos rfl
theorem qI{pl:Pl}(h:pl ≠ .row k m):lV ad k m q pl=ad pl:=if_neg h
theorem N3.putRow(n:N3 H Z ad)(I:Z[k]? = some R)(hm:m<R.length)(hq:H q=some (.lst (r.map V.int)))(hf : ∀pl,okPl Z pl->ad pl≠q) :
 N3 (upd H (ad (.tab k)) (.lst ((contOf Z ad (.tab k)).set m (.ref q)))) (Z.set k (R.set m r)) (lV ad k m q):=by
 have J:=(rP.mp I).1;have O:(R.set m r).length=R.length:=uV;have ht:okPl Z (.tab k):=J;refine⟨λpl o=>?_,λa b h1 h2 e=>?_⟩
 ·have o:=(qq I O).mp o
  by_cases e:pl = .row k m
  ·subst e
   rw [xy,zz (λz=>hf _ ht z.symm),hq];congr 2;show _=(((Z.set k (R.set m r)).getD k []).getD m []).map V.int;rw [jD J,if_pos rfl,jD hm,if_pos rfl]
  ·rw [qI e]
   by_cases e2:pl = .tab k
   ·subst e2
    rw [zw];congr 2;show List.set (uy _ _) _ _=uy _ _;rw [jD J,if_pos rfl,O,zX I];apply Af;intro i;rw [List.getElem?_set];by_cases hi:m=i
    ·subst hi
     rw [if_pos rfl,if_pos (by simpa using hm)];simp [hm,xy]
    ·rw [if_neg hi]
     by_cases a2:i<R.length
     ·simp [a2,qI (show Pl.row k i ≠ .row k m by simp;omega)]
     ·simp [a2]
   ·rw [zz (λz=>e2 (n.inj _ _ o ht z)),n.cont pl o]
    congr 2;cases pl with
    | out=>show uy _ _=uy _ _;rw [uV];exact sf λj _=>by rw [qI ⋯]
    | tab j=>
     have hj:j≠k:=λz=>e2 (by rw [z]);show uy _ _=uy _ _;rw [jD J,if_neg hj];exact sf λi _=>by rw [qI (by simp;omega)]
    | row j i=>
     show uy _ _=uy _ _;rw [jD J];by_cases h:j=k
     ·subst h
      rw [if_pos rfl,zX I,jD hm,if_neg (λz=>e (by rw [z]))]
     ·rw [if_neg h]
 ·have h1:=(qq I O).mp h1
  have h2:=(qq I O).mp h2;by_cases Y:a = .row k m
  ·by_cases M:b = .row k m
   ·rw [Y,M]
   ·rw [Y,xy,qI M]at e
    exact absurd e.symm (hf b h2)
  ·by_cases M:b = .row k m
   ·rw [M,xy,qI Y]at e
    exact absurd e (hf a h1)
   ·rw [qI Y,qI M]at e
    exact n.inj a b h1 h2 e
theorem Xj{pl:Pl}(h:okPl (Z++[R]) pl):okPl Z pl\/pl = .tab Z.length\/∃i,pl = .row Z.length i/\i<R.length:=by
 cases pl with
 | out=>exact .inl h
 | tab j=>
  have:j<(Z++[R]).length:=h;by_cases e:j=Z.length
  ·exact .inr (.inl (by rw [e]))
  ·exact .inl (show j<Z.length by simp at this;omega)
 | row j i=>
  obtain⟨h1,h2⟩:=(show j<(Z++[R]).length/\i<((Z++[R]).getD j []).length from h);by_cases e:j=Z.length
  ·subst e
   refine .inr (.inr ⟨i,rfl,?_⟩);simpa [rT]using h2
  ·have z:j<Z.length:=by simp at h1;omega
   refine .inl (show j<Z.length/\i<(Z.getD j []).length from⟨z,?_⟩);rw [rT,sY z,<- rT]at h2;exact h2
def bI(ad:Pl->Addr)(n:Nat)(a:Addr)(bs:List Addr):Pl->Addr
 | .out=>ad .out
 | .tab j=>if j=n then a else ad (.tab j)
 | .row j i=>if j=n then bs.getD i a else ad (.row j i)
theorem kX{pl:Pl}{a:Addr}{bs:List Addr}(h:okPl Z pl):bI ad Z.length a bs pl=ad pl:=by
 cases pl with
 | out=>rfl
 | tab j=>show(if j=_ then _ else _)=_;rw [if_neg (sF (show j<Z.length from h))]
 | row j i=>show(if j=_ then _ else _)=_;rw [if_neg (sF (show j<Z.length/\_ from h).1)]
theorem N3.app{a:Addr}{bs:List Addr}(n:N3 H Z ad)(ha:H a=some (.lst (bs.map V.ref)))(hb : ∀(i:Nat) b r,bs[i]? = some b->R[i]? = some r->H b=some (.lst (r.map V.int)))(hl:bs.length=R.length)(nd:(a::bs).Nodup)
 (J : ∀pl,okPl Z pl->ad pl∉a::bs):N3 (upd H (ad .out) (.lst (contOf Z ad .out++[.ref a]))) (Z++[R]) (bI ad Z.length a bs):=by
 have Y:okPl Z .out:=uc;have a5 : ∀i,i<R.length->∃b,bs[i]? = some b/\bs.getD i a=b:=λi hi=>⟨bs[i]'⋯,rN ⋯,zX (rN ⋯)⟩;have a0 : ∀{pl},okPl (Z++[R]) pl->(okPl Z pl/\bI ad Z.length a bs pl=ad pl)\/(pl = .tab Z.length/\bI ad Z.length a bs pl=a)\/∃i b,pl = .row Z.length i/\i<R.length/\bs[i]? = some b/\bI ad Z.length a bs pl=b:=λ{pl} o=>by
  rcases Xj o with o | e | ⟨i,e,hi⟩
  ·exact .inl ⟨o,kX o⟩
  ·subst e;exact .inr (.inl ⟨rfl,if_pos rfl⟩)
  ·subst e
   obtain⟨b,h1,h2⟩:=a5 i hi;exact .inr (.inr ⟨i,b,rfl,hi,h1,by show(if Z.length=Z.length then _ else _)=_;rw [if_pos rfl];exact h2⟩)
 refine⟨λpl o=>?_,λx y h1 h2 e=>?_⟩
 ·rcases a0 o with⟨o',e⟩ | ⟨e1,e⟩ | ⟨i,b,e1,hi,M,e⟩
  ·rw [e]
   by_cases eo:pl = .out
   ·subst eo
    rw [zw];congr 2;show uy _ _++_=uy _ _;rw [tM,Av,uN,uf];congr 1
    ·exact sf λj O=>by rw [kX (show okPl Z (.tab j)from rV.mp O)]
    ·show [_]=[_];congr 2;exact(if_pos rfl).symm
   ·rw [zz (λz=>eo (n.inj _ _ o' Y z)),n.cont pl o']
    congr 2;cases pl with
    | out=>exact absurd rfl eo
    | tab j=>
     have O:j<Z.length:=o';have I:(Z++[R]).getD j []=Z.getD j []:=by rw [rT,sY O,<- rT]
     show uy _ _=uy _ _;rw [I];exact sf λi hi=>by rw [kX (show okPl Z (.row j i)from⟨O,rV.mp hi⟩)]
    | row j i=>
     have O:j<Z.length:=o'.1;have I:(Z++[R]).getD j []=Z.getD j []:=by rw [rT,sY O,<- rT]
     show uy _ _=uy _ _;rw [I]
  ·subst e1
   rw [e,zz (λz=>J _ Y (by rw [<- z];exact rX)),ha];congr 2;have I:(Z++[R]).getD Z.length []=R:=by simp [rT]
   show _=uy _ _;rw [I];apply Af;intro i;by_cases hi:i<R.length
   ·obtain⟨b,h1,h2⟩:=a5 i hi
    rw [sk,h1,sk,Aj hi];show some (V.ref b)=some (V.ref (if Z.length=Z.length then _ else _));rw [if_pos rfl,h2]
   ·rw [Aw (by simp;omega),Aw (by simp;omega)]
  ·subst e1
   have a7:b∈bs:=sy M;rw [e,zz (λz=>J _ Y (by rw [<- z];exact sd _ a7)),hb i b _ M (rN hi)];congr 2;have I:(Z++[R]).getD Z.length []=R:=by simp [rT]
   show _=uy _ _;rw [I,zX (rN hi)]
 ·obtain⟨n1,n2⟩:=ux.mp nd
  rcases a0 h1 with⟨o1,e1⟩ | ⟨rfl,e1⟩ | ⟨i,b,rfl,hi,M,e1⟩<;>rcases a0 h2 with⟨o2,e2⟩ | ⟨rfl,e2⟩ | ⟨i',b',rfl,am,a4,e2⟩
  ·rw [e1,e2]at e;exact n.inj x y o1 o2 e
  ·rw [e1,e2]at e;exact absurd (by rw [e];exact rX) (J x o1)
  ·rw [e1,e2]at e;exact absurd (by rw [e];exact sd _ (sy a4)) (J x o1)
  ·rw [e1,e2]at e;exact absurd (by rw [<- e];exact rX) (J y o2)
  ·rfl
  ·rw [e1,e2]at e;exact absurd (by rw [e];exact sy a4) n1
  ·rw [e1,e2]at e;exact absurd (by rw [<- e];exact sd _ (sy M)) (J y o2)
  ·rw [e1,e2]at e;exact absurd (by rw [<- e];exact sy M) n1
  ·rw [e1,e2]at e;subst e
   rw [Jv n2 M a4]
end
def notRow:Pl->Bool
 | .row _ _=>false
 | _=>true
structure Kp(Z:TT)(ad:Pl->Addr)(Z':TT)(ad':Pl->Addr):Prop where
 len:Z.length<=Z'.length
 adr : ∀pl,notRow pl=true->okPl Z pl->ad' pl=ad pl
section
variable{Z Z' Z'':TT}{ad ad' ad'':Pl->Addr}
theorem Kp.refl:Kp Z ad Z ad:=⟨se _,λ_ _ _=>rfl⟩
theorem Kp.ok(h:Kp Z ad Z' ad'){pl:Pl}(n:notRow pl=true)(o:okPl Z pl):okPl Z' pl:=by
 cases pl with
 | out=>exact uc
 | tab k=>exact su (show k<Z.length from o) h.len
 | row k m=>cases n
theorem Kp.trans(h:Kp Z ad Z' ad')(g:Kp Z' ad' Z'' ad''):Kp Z ad Z'' ad'':=
 ⟨tP h.len g.len,λpl n o=>by rw [g.adr pl n (h.ok n o),h.adr pl n o]⟩
end
def tY(K:rH)(al:List (Nat×Pl))(F:YF):TS:=λD σ H=>∃E0 E H0 γ Z ad r,Y3 K al E0 E H0 H σ γ Z ad/\F γ Z=some r/\∀σ' H' H0' ad',Y3 K al E0 E H0' H' σ' r.1 r.2 ad'->Kp Z ad r.2 ad'->D.nx σ' H'
section
variable{X:Cx}{al:List (Nat×Pl)}{st:Stmt}{jV:List Stmt}{pos:Pos}
theorem J7{F G:YF}(h1:PS X st (tY X.K al F))(h2:PSs X jV (tY X.K al G)):PSs X (st::jV) (tY X.K al (vY F G)):=by
 intro pins s σ H D I J;refine(j8 h1 h2) pins s σ H D I ?_;obtain⟨E0,E,H0,γ,Z,ad,r,y,z,M⟩:=J;obtain⟨r1,e1,z⟩:=bind_some z;exact⟨E0,E,H0,γ,Z,ad,r1,y,e1,λσ' H' H0' ad' O k=>⟨E0,E,H0',_,_,ad',r,O,z,λY H2 a0 a1 y2 k2=>M Y H2 a0 a1 y2 (k.trans k2)⟩⟩
theorem wb{F:YF}(h:PS X st (tY X.K al F)):PSs X [st] (tY X.K al F):=xf h
theorem lP{c:Expr}{body:List Stmt}{t:CO Bool}{F:YF}(J:PTD X c t)(M:PSs X body (tY X.K al F)):PS X (.If c body [] pos) (tY X.K al (yIf t F)):=qm (gT J M Yu) λD σ H O=>by
 obtain⟨E0,E,H0,γ,Z,ad,r,y,z,I⟩:=O;obtain⟨b,e1,z⟩:=bind_some z;refine⟨H0,γ,b,y.rs.rc,e1,λH' H0' x=>?_⟩;cases b with
 | true=>rw [if_pos rfl]at z ⊢;exact⟨E0,E,H0',γ,Z,ad,r,y.step x,z,I⟩
 | false=>rw [if_neg tj]at z ⊢;cases z;exact I _ _ H0' ad (y.step x) Kp.refl
theorem YL{T:Tg}{x:Nat×Pl}(h:(al.map (·.1)).all (yC · T)=true)(z:x∈al):yC x.1 T=true:=sX.mp h _ (uS.mpr ⟨x,z,rfl⟩)
theorem wU{K:rH}{H0 H:Hp}{T:Tg}{d:D}{v:V}{σ:St}{γ γ1:Ctx}{Q:St->Hp->Prop}(s:Same H0 H)(h:Rep K H0 d v)(e:jx T d γ=some γ1)(M:(al.map (·.1)).all (yC · T)=true)
 (q : ∀I,(∀x∈al,I[x.1]? = σ[x.1]?)->(∀E0 E,RS K E0 E H0 H σ γ->RS K E0 E H0 H I γ1)->Q I H):gOf K T v σ H Q:=by
 cases T with
 | nm j=>cases e;exact q _ (λx z=>rW (of_decide_eq_true (YL M z))) λE0 E r=>r.setVal h
 | tp is=>
  cases d with
  | tup ds=>
   simp only [jx]at e;by_cases J:ds.length=is.length
   ·rw [if_pos J]at e;cases e
    obtain⟨a,xs,rfl,h1,h2⟩:=(show ∃a xs,v = .ref a/\SqT K H0 a xs/\Reps K H0 ds xs from h);have z:xs.length=is.length:=by rw [h2.length,J]
    exact⟨a,xs,rfl,sameT s h1,z,Zy z (q _ (λx z=>k4 (of_decide_eq_true (YL M z))) λE0 E r=>r.setAll h2)⟩
   ·rw [if_neg J]at e;cases e
  | _=>simp [jx]at e
theorem VS{T:Tg}{f:CO D}(h:PS X st (ZS (tV X.K f) (gOf X.K T))):PS X st (tY X.K al (J4 (al.map (·.1)) T f)):=qm h λD σ H J=>by
 obtain⟨E0,E,H0,γ,Z,ad,r,y,z,M⟩:=J;unfold J4 at z;split at z
 ·next O=>
  obtain⟨d,e1,z⟩:=bind_some z;obtain⟨γ1,I,z⟩:=zt z;subst z;refine⟨H0,γ,d,y.rs.rc,e1,λv H1 Y x1 r1=>?_⟩;have y1:=y.step x1;exact wU x1.sub r1 I O λσ1 hσ a1=>M _ _ Y ad (y1.names (a1 _ _ y1.rs) (YA I y1.pn) hσ) Kp.refl
 ·cases z
theorem VU{tg iter:Expr}{body:List Stmt}{src:CO (List D)}{T:Tg}{F:YF}(hp:PassesOwn (model X.prog X.w) X.A X.env X.xe)(hc:X.calm=true)(hi:PIF X tg iter src)(hg:PG X tg (gOf X.K T))(hb:PSs X body (tY X.K al F))
 (hs : ∀x,foldedSetIterable iter X.env x=pure x:=by intro _;rfl):PS X (.For tg iter body [] pos) (tY X.K al (ZR (al.map (·.1)) src T F)):=qm (Jr hp hc hi hg hb hs) λD σ H hZ=>by
 obtain⟨E0,E,H0,γ,Z,ad,r,y0,M,as⟩:=hZ;unfold ZR at M;split at M
 ·next ax=>
  obtain⟨ds,e1,M⟩:=bind_some M;refine⟨H0,γ,ds,y0.rs.rc,e1,λJ H1 O x1 wk=>?_⟩;have y:=y0.step x1;have hx:=y.rs.ext;refine⟨λn m σ H=>m=ds.length - n/\n<=ds.length/\∃H0 γ Z' ad',Y3 X.K al O E H0 H σ γ Z' ad'/\Kp Z ad Z' ad'/\ZV T F (ds.drop n) γ Z'=some r,⟨_,rfl,tZ _,O,γ,Z,ad,⟨⟨y.rs.rc,hx.base,y.rs.fresh,y.rs.fr2⟩,y.pn,y.sl,y.n3,y.h0⟩,Kp.refl,M⟩,?_⟩;rintro n m σ3 Y ⟨rfl,c2,a5,γ3,Z3,a6,z,kp,I⟩;have a2:Same O Y:=z.rs.ext.s0.trans z.rs.ext.sub;by_cases a0:n<ds.length
  ·refine .inr ⟨wk.go n Y a2 a0,λσ H=>n+1<=ds.length/\∃H0 γ Z' ad',Y3 X.K al O E H0 H σ γ Z' ad'/\Kp Z ad Z' ad'/\ZV T F (ds.drop (n+1)) γ Z'=some r,λσ' H' q=>⟨ds.length - (n+1),by omega,rfl,q.1,q.2⟩,λx H' yy=>?_⟩
   obtain⟨d,hd,bd⟩:=wk.yld n Y x H' a2 a0 yy;obtain⟨G0,xg,rg⟩:=bd a5 z.rs.ext.s0 z.rs.rc.sub;have bg:ds.drop n=d::ds.drop (n+1):=by
    have bi:d=ds[n]:=by rw [rN a0]at hd;exact(sH hd).symm
    rw [bi];exact uK a0
   rw [bg]at I;obtain⟨γ4,eb,I⟩:=bind_some I;obtain⟨r4,eF,I⟩:=bind_some I;refine wU xg.sub rg eb ax λσ4 hσ bv=>?_;have z1:=z.step xg;exact⟨O,E,G0,γ4,Z3,a6,r4,z1.names (bv O E z1.rs) (YA eb z1.pn) hσ,eF,λσ5 H5 bx c0 q kq=>⟨a0,bx,_,_,c0,q,kp.trans kq,I⟩⟩
  ·have e:n=ds.length:=by omega
   subst e;rw [AE]at I;cases I;exact .inl ⟨wk.stop Y a2,as σ3 Y a5 a6 ⟨⟨z.rs.rc,hx.rebase z.rs.ext,z.rs.fresh,z.rs.fr2⟩,z.pn,z.sl,z.n3,z.h0⟩ kp⟩
 ·cases M
theorem QB{Z:TT}{ad:Pl->Addr}{k:Nat}(h:k<Z.length):(contOf Z ad .out)[k]? = some (.ref (ad (.tab k))):=by
 show(uy _ _)[k]? = _;rw [sk,Aj h];rfl
theorem QA{Z:TT}{ad:Pl->Addr}{k m:Nat}{R:List (List Int)}(z:Z[k]? = some R)(h:m<R.length):(contOf Z ad (.tab k))[m]? = some (.ref (ad (.row k m))):=by
 show(uy _ _)[m]? = _;rw [zX z,sk,Aj h];rfl
theorem vO{Z:TT}{ad:Pl->Addr}{k:Nat}{R:List (List Int)}(z:Z[k]? = some R):(contOf Z ad (.tab k)).length=R.length:=by
 show(uy _ _).length=_;rw [zX z];simp
theorem bu{n:Nat}{i:Int}{j:Nat}(h:ixD n i=some j):j<n:=(Qv (wN h)).2.1
theorem Y3.alias{K:rH}{E0 E H0 H:Hp}{σ:St}{γ:Ctx}{Z:TT}{ad:Pl->Addr}{j:Nat}{pl:Pl}(y:Y3 K al E0 E H0 H σ γ Z ad)(o:okPl Z pl)(J:j∉al.map (·.1))(M:j<γ.length) :
 Y3 K ((j,pl)::al) E0 E H0 H (σ.set j (some (.ref (ad pl)))) (γ.set j .no) Z ad:=
 ⟨y.rs.forget,vq y.pn j rfl,λx I=>by
  rcases si.mp I with rfl | I
  ·exact⟨o,sM (by rw [y.rs.rc.len];exact M)⟩
  ·exact⟨(y.sl x I).1,by rw [rW (λz=>J (by rw [z];exact uS.mpr ⟨x,I,rfl⟩))];exact(y.sl x I).2⟩,y.n3,y.h0⟩
theorem mJ{i j:Nat}{M:CO D}{F:Nat->YF}(hi:(i,Pl.out)∈al)(h1:PS X st (ZS (tOp (oX X.K) (vZ i) (tV X.K M)) (xt j)))(h2 : ∀k,PSs X jV (tY X.K ((j,.tab k)::al) (F k))) :
 PSs X (st::jV) (tY X.K al (fx (al.map (·.1)) j M F)):=by
 intro pins s σ H D I hZ;refine(j8 h1 (u:=λD σ H=>∃k,tY X.K ((j,.tab k)::al) (F k) D σ H) (λpins s σ H D I ⟨k,h⟩=>h2 k pins s σ H D I h)) pins s σ H D I ?_;obtain⟨E0,E,H0,γ,Z,ad,r,y,J,a2⟩:=hZ;unfold fx at J;split at J
 ·cases J
 ·next O=>
  obtain⟨n,e1,J⟩:=bind_some J;obtain⟨dn,e2,e3⟩:=bind_some e1;obtain⟨k,Y,J⟩:=bind_some J;rw [jy e3]at e2;refine⟨_,(y.sl _ hi).2,H0,γ,_,y.rs.rc,e2,λv H1 a4 x1 r1=>?_⟩;have y1:=y.step x1;have hk:k<Z.length:=bu Y;refine⟨_,contOf Z ad .out,n,.ref (ad (.tab k)),rfl,jm r1,SqL.of (y1.n3.cont .out uc),?_,?_⟩
  ·unfold atI
   rw [show(contOf Z ad .out).length=Z.length by simp [contOf],wN Y];exact QB hk
  ·refine⟨k,E0,E,a4,_,Z,ad,r,y1.alias (pl:= .tab k) hk (λz=>O (.inl z)) (by rcases ud j γ.length with z | z;exact z;exact absurd (.inr z) O),J,λσ' H' H0' ad' y' kp=>a2 σ' H' H0' ad' (y'.weak λx hx=>sd _ hx) kp⟩
theorem Y2{K:rH}{H:Hp}{ds:List D}{r:List Int}{xs:List V}(e:kn ds=some r)(h:Reps K H ds xs):xs=r.map V.int:=by
 rw [ya e h];simp [kV,uh,Bn]
theorem QO{j k:Nat}{bx:CO D}{f:CO (List D)}(hj:(j,Pl.tab k)∈al)(hn:(al.all λx=>notRow x.2)=true)(h:PS X st (ZS (tO X.K f) (mw (vZ j) (tV X.K bx) Wm))) :
 PS X st (tY X.K al (kf j bx f k)):=qm h λD σ H hZ=>by
 obtain⟨E0,E,H0,γ,Z,ad,r0,y,I,a9⟩:=hZ;obtain⟨R,J,I⟩:=bind_some I;obtain⟨r,e1,I⟩:=bind_some I;obtain⟨ds,e2,e3⟩:=bind_some e1;obtain⟨n,e4,I⟩:=bind_some I;obtain⟨dn,e5,e6⟩:=bind_some e4;obtain⟨m,e7,I⟩:=zt I;subst I;rw [jy e6]at e5;obtain⟨G0,s0,rc⟩:=y.view hj;rw [show dOf Z (.tab k)=fE R by simp only [dOf,zX J]]at rc;refine⟨G0,_,ds,rc,e2,λa xs H1 G1 x1 M f2 f3 rp=>?_⟩;have ex:=Y2 e3 rp;subst ex;have xk:Ext H0 H H0 H1:=Ext.keep y.rs.rc.sub x1.s1;have y1:=y.step xk;refine⟨_,(y1.sl _ hj).2,H0,γ,_,y1.rs.rc,e5,λv H2 a6 O r2=>?_⟩;have y2:=y1.step O;have Y:okPl Z (.tab k):=(rP.mp J).1;have hm:m<R.length:=bu e7;refine⟨_,contOf Z ad (.tab k),n,m,rfl,jm r2,y2.n3.cont _ Y,by rw [vO J];exact wN e7,?_⟩;have as:H0 a=none:=z6 y.rs.rc.sub M;have hl:(R.set m r).length=R.length:=uV;have ax:a6 a=none:=O.new a as (by rw [f3];simp);have hE:E a=none:=by
  cases q:E a with
  | none=>rfl
  | some o=>rw [y.rs.ext.s1 a o q]at M;cases M
 refine a9 σ _ a6 (lV ad k m a) ⟨y2.rs.swap y2.pn (λc o q=>?_) (λc o q=>?_),y2.pn,λx hx=>?_,y2.n3.putRow J hm (O.s1 _ _ f3) (λpl o z=>?_),λpl o=>?_⟩ ⟨by simp,λpl np o=>qI (λz=>by rw [z]at np;cases np)⟩
 ·rw [zz (λz=>by rw [z,(y2.h0 _ Y).1]at q;cases q)];exact y2.rs.rc.sub c o q
 ·rw [zz (λz=>by rw [z,(y2.h0 _ Y).2]at q;cases q)];exact y2.rs.ext.s1 c o q
 ·have np:notRow x.2=true:=sX.mp hn x hx
  exact⟨(qq J hl).mpr (y2.sl x hx).1,by rw [qI (λz=>by rw [z]at np;cases np)];exact(y2.sl x hx).2⟩
 ·have:=y.n3.cont pl o
  rw [z,M]at this;cases this
 ·have o:=(qq J hl).mp o
  by_cases e:pl = .row k m
  ·rw [e,xy];exact⟨ax,hE⟩
  ·rw [qI e];exact y2.h0 pl o
theorem QP{j k m:Nat}{Y e:CO D}(M:(j,Pl.row k m)∈al)(h:PS X st (ZS (tV X.K e) (mw (vZ j) (tV X.K Y) Wm))) :
 PS X st (tY X.K al (kg j Y e k m)):=qm h λD σ H hZ=>by
 obtain⟨E0,E,H0,γ,Z,ad,r0,y,I,a4⟩:=hZ;obtain⟨R,J,I⟩:=bind_some I;obtain⟨row,hm,I⟩:=bind_some I;obtain⟨v,e1,I⟩:=bind_some I;obtain⟨dv,e2,e3⟩:=bind_some e1;obtain⟨n,e4,I⟩:=bind_some I;obtain⟨dn,e5,e6⟩:=bind_some e4;obtain⟨l,e7,I⟩:=zt I;subst I;rw [jy e3]at e2;rw [jy e6]at e5;obtain⟨G0,s0,rc⟩:=y.view M;rw [show dOf Z (.row k m)=fF row by simp only [dOf,zX J,zX hm]]at rc;refine⟨G0,_,_,rc,e2,λu H1 G1 x1 rp=>?_⟩;have y1:=y.step (Ext.keep y.rs.rc.sub x1.s1);refine⟨_,(y1.sl _ M).2,H0,γ,_,y1.rs.rc,e5,λw H2 ac x2 r2=>?_⟩;have y2:=y1.step x2;have O:okPl Z (.row k m):=(y.sl _ M).1;have hl:(R.set m (row.set l v)).length=R.length:=uV;refine⟨_,contOf Z ad (.row k m),n,l,rfl,jm r2,y2.n3.cont _ O,?_,?_⟩
 ·rw [show(contOf Z ad (.row k m)).length=row.length by simp only [contOf,zX J,zX hm,sC]];exact wN e7
 ·have ec:(contOf Z ad (.row k m)).set l u=(row.set l v).map V.int:=by
   rw [show contOf Z ad (.row k m)=row.map V.int by simp only [contOf,zX J,zX hm],show u=V.int v from rp,List.map_set]
  rw [ec];refine a4 σ _ ac ad ⟨y2.rs.swap y2.pn (λc o q=>?_) (λc o q=>?_),y2.pn,λx hx=>⟨(qq J hl).mpr (y2.sl x hx).1,(y2.sl x hx).2⟩,y2.n3.putNum J hm,λpl o=>y2.h0 pl ((qq J hl).mp o)⟩ ⟨by simp,λpl np o=>rfl⟩
  ·rw [zz (λz=>by rw [z,(y2.h0 _ O).1]at q;cases q)];exact y2.rs.rc.sub c o q
  ·rw [zz (λz=>by rw [z,(y2.h0 _ O).2]at q;cases q)];exact y2.rs.ext.s1 c o q
theorem VT{i j k:Nat}{x y:Str}{a7 a0 am:Pos}{body:List Stmt}{F:Nat->YF}(hp:PassesOwn (model X.prog X.w) X.A X.env X.xe)(hc:X.calm=true)(hi:(i,Pl.tab k)∈al)(hx:PE X (.Name x a0) (vZ i))(O:PG X (.Name y a7) (xt j))
 (hb : ∀m,PSs X body (tY X.K ((j,.row k m)::al) (F m))) (hf : ∀z,foldedSetIterable (.Name x a0) X.env z=pure z:=by intro _;rfl) :
 PS X (.For (.Name y a7) (.Name x a0) body [] am) (tY X.K al (kh (al.map (·.1)) j F k)):=
 qm (Jr hp hc (Xg hx) O (tb:=λD σ H=>∃m,tY X.K ((j,.row k m)::al) (F m) D σ H) (λpins s σ H D I ⟨m,h⟩=>hb m pins s σ H D I h) hf) λD σ H hZ=>by
  obtain⟨E0,E,H0,γ,Z,ad,r,y,M,b0⟩:=hZ;unfold kh at M;split at M
  ·cases M
  ·next hj=>
   obtain⟨R,hk,M⟩:=bind_some M;have ht:okPl Z (.tab k):=(rP.mp hk).1;refine⟨_,(y.sl _ hi).2,_,.L,rfl,⟨_,SqL.of (y.n3.cont _ ht)⟩,?_⟩;refine⟨λt n σ' H'=>n=R.length - t/\t<=R.length/\∃H0' γ' Z' ad',Y3 X.K al E0 E H0' H' σ' γ' Z' ad'/\Kp Z ad Z' ad'/\(Z'[k]?).map AX=some R.length/\y6 j F k R.length (R.length - t) γ' Z'=some r,
    ⟨_,rfl,tZ _,H0,γ,Z,ad,y,Kp.refl,by rw [hk];rfl,M⟩,?_⟩
   rintro t n σ' H' ⟨rfl,bn,H0',γ',Z',ad',y',kp,bb,J⟩;obtain⟨R',Y,a4⟩:=zt bb;have bd:okPl Z' (.tab k):=kp.ok rfl ht;have a9:=y'.n3.cont _ bd;rw [kp.adr (.tab k) rfl ht]at a9;have hq:SqL X.K H' (ad (.tab k)) (contOf Z' ad' (.tab k)):=SqL.of a9;have bv:(contOf Z' ad' (.tab k)).length=R.length:=by rw [vO Y,a4]
   by_cases a6:t<R.length
   ·have O:(contOf Z' ad' (.tab k))[t]? = some (.ref (ad' (.row k t))):=QA Y (by rw [a4];exact a6)
    refine .inr ⟨⟨_,_,hq,O⟩,λσ' H'=>t+1<=R.length/\∃H0' γ' Z' ad',Y3 X.K al E0 E H0' H' σ' γ' Z' ad'/\Kp Z ad Z' ad'/\(Z'[k]?).map AX=some R.length/\y6 j F k R.length (R.length - (t+1)) γ' Z'=some r,λσ2 H2 q=>⟨R.length - (t+1),by omega,rfl,q.1,q.2⟩,λv H2 yy=>?_⟩;obtain⟨e1,e2⟩:H2=H'/\_:=yy;have e2:=e2 _ hq;rw [O]at e2;cases e2;subst e1;rw [show R.length - t=R.length - (t+1)+1 by omega]at J;simp only [y6]at J;split at J
    ·cases J
    ·next c0=>
     obtain⟨s,eF,J⟩:=bind_some J;split at J
     ·next bg=>
      rw [show R.length - (R.length - (t+1)+1)=t by omega]at eF;have o:okPl Z' (.row k t):=⟨(rP.mp Y).1,by rw [zX Y,a4];exact a6⟩;exact⟨t,E0,E,H0',_,Z',ad',s,y'.alias o hj ⋯,eF,λσ3 H3 bi bl y3 k3=>⟨a6,bi,_,_,bl,y3.weak λx hx=>sd _ hx,kp.trans k3,bg,J⟩⟩
     ·cases J
   ·have e:t=R.length:=by omega
    subst e;rw [Nat.sub_self]at J;cases J;exact .inl ⟨⟨_,hq,by omega⟩,b0 σ' H' H0' ad' y' kp⟩
end
open Classical in
def wm(H:Hp)(Z:TT)(ad:Pl->Addr):Hp:=λc=>if ∃pl,okPl Z pl/\ad pl=c then none else H c
section
variable{H:Hp}{Z:TT}{ad:Pl->Addr}
theorem dW{pl:Pl}(h:okPl Z pl):wm H Z ad (ad pl)=none:=by unfold wm;rw [if_pos ⟨pl,h,rfl⟩]
theorem WS:Same (wm H Z ad) H:=λc o q=>by
 unfold wm at q;split at q
 ·cases q
 ·exact q
theorem dQ{c:Addr}{o:HO}(h:H c=some o)(hn : ∀pl,okPl Z pl->ad pl≠c):wm H Z ad c=some o:=by
 unfold wm;rw [if_neg]
 ·exact h
 ·rintro⟨pl,h1,h2⟩;exact hn pl h1 h2
end
def spY(K:rH)(n1 n2:Nat)(F:List D->List D->TT->Option TT):Sp:=λvs H Q _=>∃H0 ds es us z Z Z' ad,vs=us++V.ref (ad .out)::z/\Same H0 H/\Reps K H0 ds us/\Reps K H0 es z/\ds.length=n1/\es.length=n2/\N3 H Z ad/\(∀pl,okPl Z pl->H0 (ad pl)=none)/\F ds es Z=some Z'/\
 ∀H' H0' ad',Ext H0 (wm H Z ad) H0' H'->N3 H' Z' ad'->(∀pl,okPl Z' pl->H0' (ad' pl)=none/\wm H Z ad (ad' pl)=none)->Kp Z ad Z' ad'->Q .non H'
structure FnY(P:Program)(w:World)(K:rH)(mg:Str->Option Value)(base:Heap)(k:Nat)(x:Str)(n1 n2:Nat)(F:List D->List D->TT->Option TT):Prop where
 ex : ∃(f:Addr) (fd:FuncData) (ps:List Str),ps.length=n1+1+n2/\FnOk P w K mg base CX0 k f fd ps (spY K n1 n2 F)/\mg x=some (.ref f)/\sQ K (.ref f)=true/\Binds K fd ps []
theorem K7{N:List Str}{us z:List V}{a b:V}:(start N (us++a::z)).set us.length (some b)=start N (us++b::z):=by
 unfold L2.start;simp only [uf,sJ,Cs,List.cons_append,tM,sP];rw [List.set_append_right _ _ ⋯];simp
theorem Wy(n:Nat)(ds:List D):(jP n ds).all isPl=true:=by
 refine sX.mpr λc I=>?_;unfold jP at I;rcases Au.mp I with z | z
 ·obtain⟨d,_,rfl⟩:=uS.mp z;rfl
 ·rw [(List.mem_replicate.mp z).2];rfl
section
variable{P:Program}{w:World}{K:rH}{mg:Str->Option Value}{base:Heap}
theorem rz{x:Str}{st:Stmt}{N ps:List Str}{k n1 n2:Nat}{F:YF}(A:DefAt K mg x st ps)(hd:JN N ps st=true)(O:ps.length=n1+1+n2)
 (a1 : ∀X:Cx,X.prog=P->X.w=w->X.K=K->X.mg=mg->X.base=base->SX X (defScope st) N N k->X.xe=(λ_ _=>False)->PSs X (defBody st) (tY X.K [(n1,.out)] F)) :
 FnY P w K mg base (k+1) x n1 n2 (ni N.length n1 F):=by
 obtain⟨f,fd,Y,hb,hm⟩:=A.ex;have S:=xQ hd;refine⟨f,fd,ps,O,?_,hm,Y.kp,.all hb⟩;refine Y.ok S (λvs H Q E h=>?_) (λcdv A outer s H vs Q E hr h=>⟨_,a1 _ rfl rfl rfl rfl rfl ⟨rfl,rfl,S.nd,rfl,hr,λ_ _=> .inl rfl⟩ rfl,?_⟩)
 ·obtain⟨H0,ds,es,us,ws,Z,Z',ad,e,_,r1,r2,z,I,_⟩:=h
  rw [e,tM,sP,r1.length,r2.length,z,I,O];omega
 obtain⟨H0,ds,es,us,ws,Z,Z',ad,e,s0,r1,r2,z,I,n3,h0,ef,q⟩:=h;subst e;obtain⟨r,e1,e2⟩:=zt ef;subst e2;have a7:ps.length<=N.length:=by have:=congrArg AX S.pre;rw [AD]at this;omega
 have a5:(ds++D.non::es).length<=N.length:=by rw [tM,sP,z,I];omega
 have J:=(Zh s0 (r1.append (Reps.cons (d:=D.non) (x:=V.non) (show V.non = .non from rfl) r2)) a5).forget (i:=n1) (v:=some (.ref (ad .out)));have M:us.length=n1:=by rw [r1.length,z]
 rw [<- M,K7]at J;rw [M]at J;have pn:=vq (Wy N.length (ds++D.non::es)) n1 (c:= .no) rfl;refine⟨H0,wm H Z ad,H0,_,Z,ad,r,⟨RS.pl J.rc ⟨Same.refl _,WS,s0,λ_ h _=>h⟩ pn,pn,λy hy=>?_,n3,λpl o=>⟨h0 pl o,dW o⟩⟩,e1,λσ' H' H0' ad' y kp=>q H' H0' ad' y.rs.ext y.n3 y.h0 kp⟩;rw [tK.mp hy];refine⟨uc,?_⟩;show(start N (us++V.ref (ad .out)::ws))[n1]? = _;unfold L2.start;rw [<- M,uf,sJ,Cs,tw ⋯];simp
end
def tAY(K:rH)(ga:CO (List D))(i:Nat)(gb:CO (List D)):TA:=λσ H Q=>∃H0 γ ds es v,RC K H0 H σ γ/\ga γ=some ds/\gb γ=some es/\σ[i]? = some (some v)/\
 ∀us z H' H0',Ext H0 H H0' H'->Reps K H0' ds us->Reps K H0' es z->Q (us++v::z) H'
section
variable{X:Cx}{sc:Scope}{N L:List Str}{k j n1 n2 i:Nat}{e:Expr}{es:List Expr}{f:CO D}{ga gb:CO (List D)}{pos p:Pos}{x:Str}{F:List D->List D->TT->Option TT}{al:List (Nat×Pl)}
theorem dD(z:PE X e (vZ i))(I:PAD X es gb)(J:starEach (e::es) X.env=(false,eval e X.env)::starEach es X.env:=by rfl):PA X (e::es) (tAY X.K zy i gb):=
 WH (zK z I J) λσ H Q M=>by
  obtain⟨H0,γ,ds,fs,v,rc,e1,e2,O,q⟩:=M;cases e1;exact⟨v,O,H0,γ,fs,rc,e2,λY H' H0' x r=>q [] Y H' H0' x Reps.nil r⟩
theorem Xh(ha:PV X e f)(I:PA X es (tAY X.K ga i gb))(J:starEach (e::es) X.env=(false,eval e X.env)::starEach es X.env:=by rfl):PA X (e::es) (tAY X.K (za f ga) i gb):=
 WH (zK ha I J) λσ H Q M=>by
  obtain⟨H0,γ,ds,fs,v,rc,e1,e2,O,q⟩:=M;obtain⟨d,Y,e1⟩:=bind_some e1;obtain⟨dr,e5,e1⟩:=zt e1;subst e1;exact⟨H0,γ,d,rc,Y,λu H1 a2 x1 r1=>⟨a2,γ,dr,fs,v,rc.ext x1,e5,e2,O,λus ws H2 a4 z r2 r3=>q (u::us) ws H2 a4 (x1.trans z) (Reps.cons (r1.mono z.s0) r2) r3⟩⟩
theorem fM(hf:FnY X.prog X.w X.K X.mg X.base j x n1 n2 F)(hj:j<=k)(h:SX X sc N L k)(c:xu sc x=true)(hi:(i,Pl.out)∈al)(hn:(al.all λx=>notRow x.2)=true)(ha:PA X (e::es) (tAY X.K ga i gb))
 (l1 : ∀γ ds,ga γ=some ds->ds.length=n1) (l2 : ∀γ ds,gb γ=some ds->ds.length=n2) {O:Pos}
 (he:starEach (e::es) X.env=(false,eval e X.env)::starEach es X.env:=by rfl) (a6:(backTo pos (starEach es X.env)).any (·.1)=false:=by rfl)
 (hs:swapsWith (.Call (.Name x p) (e::es) [] pos) none O.line X.env=pure false:=by rfl) :
 PS X (.Expr (.Call (.Name x p) (e::es) [] pos) O) (tY X.K al (VX F ga gb)):=by
 obtain⟨fa,fd,ps,b0,G,hm,hk,hb⟩:=hf.ex;refine qm (Zn (xE (E:=E0) G (h.room.mono hj) (h.gl c).1 hm hk hb .nil wj ha (h.gl c).2.2 he a6) hs) λD σ H hZ=>?_;obtain⟨E0,E,H0,γ,Z,ad,r,y,I,am⟩:=hZ;obtain⟨ds,e1,I⟩:=bind_some I;obtain⟨fs,e2,I⟩:=bind_some I;obtain⟨Z',e3,I⟩:=zt I;subst I;refine⟨H0,γ,ds,fs,_,y.rs.rc,e1,e2,(y.sl _ hi).2,λus Y H1 ap x1 r1 r2=>?_⟩;have y1:=y.step x1;show spY X.K n1 n2 F ((us++V.ref (ad .out)::Y)++[]) H1 _ _;rw [Bj];refine⟨ap,ds,fs,us,Y,Z,Z',ad,rfl,y1.rs.rc.sub,r1,r2,l1 γ ds e1,l2 γ fs e2,y1.n3,λpl o=>(y1.h0 pl o).1,e3,λH' H0' ad' J n3 h0 kp=>am σ H' H0' ad' ?_ kp⟩;have M : ∀c o,E c=some o->wm H1 Z ad c=some o:=λc o q=>dQ (y1.rs.ext.s1 c o q) λpl ho z=>by rw [<- z,(y1.h0 pl ho).2]at q;cases q
 refine⟨RS.pl (RC.pl J.sub y1.rs.rc.len (λi d g=>?_) y1.pn) ⟨y1.rs.ext.s0.trans J.s0,λc o q=>J.s1 c o (M c o q),J.sub,λc q1 q2=>?_⟩ y1.pn,y1.pn,λx hx=>?_,n3,λpl o=>⟨(h0 pl o).1,?_⟩⟩
 ·obtain⟨v,g1,g2⟩:=y1.rs.rc.val i d g
  exact⟨v,g1,g2.mono J.s0⟩
 ·refine J.new c (y1.rs.ext.new c q1 q2) ?_
  cases q:E c with
  | none=>exact absurd q q2
  | some o=>rw [M c o q];simp
 ·have np:notRow x.2=true:=sX.mp hn x hx
  obtain⟨o,g⟩:=y1.sl x hx;exact⟨kp.ok np o,by rw [kp.adr _ np o];exact g⟩
 ·cases q:E (ad' pl)with
  | none=>rfl
  | some o'=>have:=(h0 pl o).2;rw [M _ o' q]at this;cases this
end
def pJ(K:rH)(E0 E:Hp)(Q:VK)(d:D)(Z:TT):Prop:=∀t v ad H' H0',Ext E0 E H0' H'->Rep K H0' d v->H' t=some (.tup [v,.ref (ad .out)])->N3 H' Z ad->(∀pl,okPl Z pl->H0' (ad pl)=none/\E (ad pl)=none)->Q (.ref t) H'
def tL(K:rH)(G:LF):TS:=λD σ H=>∃E0 E H0 γ r,RS K E0 E H0 H σ γ/\G γ=some r/\pJ K E0 E D.rt r.1 r.2
def spL(K:rH)(n:Nat)(F:List D->Option (D×TT)):Sp:=λvs H Q _=>∃H0 ds r,Same H0 H/\Reps K H0 ds vs/\ds.length=n/\F ds=some r/\pJ K H0 H Q r.1 r.2
structure FnL(P:Program)(w:World)(K:rH)(mg:Str->Option Value)(base:Heap)(k:Nat)(x:Str)(n:Nat)(F:List D->Option (D×TT)):Prop where
 ex : ∃(f:Addr) (fd:FuncData) (ps:List Str),ps.length=n/\FnOk P w K mg base CX0 k f fd ps (spL K ps.length F)/\mg x=some (.ref f)/\sQ K (.ref f)=true/\Binds K fd ps []
section
variable{P:Program}{w:World}{K:rH}{mg:Str->Option Value}{base:Heap}
theorem rA{x:Str}{st:Stmt}{N ps:List Str}{k:Nat}{G:LF}(A:DefAt K mg x st ps)(hd:JN N ps st=true)
 (J : ∀X:Cx,X.prog=P->X.w=w->X.K=K->X.mg=mg->X.base=base->SX X (defScope st) N N k->X.xe=(λ_ _=>False)->PSs X (defBody st) (tL X.K G)) :
 FnL P w K mg base (k+1) x ps.length (cN N.length G):=by
 obtain⟨f,fd,z,M,hm⟩:=A.ex;have S:=xQ hd;refine⟨f,fd,ps,rfl,?_,hm,z.kp,.all M⟩;refine z.ok S (λvs H Q E h=>?_) (λcdv A outer s H vs Q E O h=>⟨_,J _ rfl rfl rfl rfl rfl ⟨rfl,rfl,S.nd,rfl,O,λ_ _=> .inl rfl⟩ rfl,?_⟩)
 ·obtain⟨H0,ds,r,_,r1,I,_⟩:=h
  rw [r1.length,I]
 obtain⟨H0,ds,r,s0,r1,I,Y,q⟩:=h;have a0:ps.length<=N.length:=by have:=congrArg AX S.pre;rw [AD]at this;omega
 exact⟨H0,H,H0,_,r,Zh s0 r1 ⋯,Y,q⟩
end
section
variable{X:Cx}{sc:Scope}{N L:List Str}{k j i n w:Nat}{st:Stmt}{jV:List Stmt}{e e2:Expr}{es:List Expr}{f:CO D}{g:CO (List D)}{pos p:Pos}{x:Str}{al:List (Nat×Pl)}
theorem iB{F:CO Fl}{G:LF}(h1:PSD X st F)(h2:PSs X jV (tL X.K G)):PSs X (st::jV) (tL X.K (nG F G)):=by
 intro pins s σ H D I M;refine(j8 h1 h2) pins s σ H D I ?_;obtain⟨E0,E,H0,γ,r,rs,z,O⟩:=M;obtain⟨J,e1,z⟩:=bind_some z;refine⟨E0,E,H0,γ,J,rs,e1,?_⟩;cases J with
 | next γ'=>exact λσ' H' H0' Y=>⟨E0,E,H0',γ',r,Y,z,O⟩
 | brk γ'=>cases z
 | cont γ'=>cases z
 | ret r=>cases z
theorem Xk{E H:Hp}{c:Addr}(s:Same E H)(h:H c=none):E c=none:=by
 cases q:E c with
 | none=>rfl
 | some o=>rw [s c o q]at h;cases h
theorem nF{O Y:Stmt}{F:YF}{kx:Nat}{tpos:Pos}(h1:PS X O (ZS (oT fX) (xt i)))(h2:PS X Y (tY X.K [(i,.out)] F))(he:PV X e f)(hv:PE X e2 (vZ i))
 (hs:starEach [e,e2] X.env=(false,eval e X.env)::starEach [e2] X.env:=by rfl) (a3:starEach [e2] X.env=(false,eval e2 X.env)::starEach [] X.env:=by rfl) :
 PSs X [O,Y,.Return (some (.Tuple [e,e2] kx tpos)) pos] (tL X.K (fD i F f)):=by
 intro pins s σ H D I hZ;refine(j8 h1 (j8 h2 (xf (yp (bf (zK he (zK hv jw a3) hs)))))) pins s σ H D I ?_;obtain⟨E0,E,H0,γ,r,rs,z,a5⟩:=hZ;unfold fD at z;split at z
 ·next hc=>
  obtain⟨a7,a8⟩:=hc;obtain⟨s2,e1,z⟩:=bind_some z;obtain⟨d,e3,z⟩:=zt z;subst z;refine⟨tZ _,λq J=>?_⟩;have ac:H0 q=none:=z6 rs.rc.sub J;have hE:E q=none:=Xk rs.ext.s1 J;have r1:RS X.K E0 E H0 (upd H q (.lst [])) (σ.set i (some (.ref q))) (γ.set i .no):=(rs.forget (v:=some (.ref q))).step (Ext.hide rs.rc.sub J _);have M : ∀pl,okPl ([]:TT) pl->pl = .out:=λpl o=>by
   cases pl with
   | out=>rfl
   | tab k=>exact absurd (show k<0 from o) (sv _)
   | row k m=>exact absurd (show k<0/\_ from o).1 (sv _)
  refine⟨E0,E,H0,γ.set i .no,[],λ_=>q,s2,⟨r1,a7,λy hy=>?_,⟨λpl o=>?_,λa b o1 o2 _=>by rw [M a o1,M b o2]⟩,λpl o=>⟨ac,hE⟩⟩,e1,λσ' H' H0' ad' y kp=>?_⟩
  ·rw [tK.mp hy]
   exact⟨uc,sM (by rw [rs.rc.len];exact a8)⟩
  ·rw [M pl o,zw];rfl
  ·refine⟨H0',_,d,y.rs.rc,e3,λv H2 as x2 r2=>⟨_,(y.sl _ (tK.mpr rfl)).2,(show 2<=sizeLine by decide),λt ht=>?_⟩⟩
   have y2:=y.step x2;have x3:=Ext.hide y2.rs.rc.sub ht (.tup [v,.ref (ad' .out)]);exact a5 t v ad' _ as (y2.rs.ext.trans x3) r2 zw (y2.n3.step x3.s1) y2.h0
 ·cases z
def tYC(K:rH)(i:Nat)(F:YF)(G:CO Fl):TS:=λD σ H=>∃E0 E H0 γ Z ad r z,Y3 K [(i,.out)] E0 E H0 H σ γ Z ad/\F γ Z=some r/\G (r.1.set i (.val (eJ r.2)))=some z/\Sat K E0 E D z
theorem fJ{G:CO Fl}(h:XW X jV G):PSs X jV (tYC X.K i lQ G):=by
 intro pins s σ H D I z;refine h pins s σ H D I ?_;obtain⟨E0,E,H0,γ,Z,ad,r,J,y,M,O,Y⟩:=z;cases M;obtain⟨G0,rs⟩:=y.shown (tK.mpr rfl);exact⟨E0,E,G0,_,J,rs,O,Y⟩
theorem bM{F J:YF}{G:CO Fl}(h1:PS X st (tY X.K [(i,.out)] F))(h2:PSs X jV (tYC X.K i J G)):PSs X (st::jV) (tYC X.K i (vY F J) G):=by
 intro pins s σ H D I M;refine(j8 h1 h2) pins s σ H D I ?_;obtain⟨E0,E,H0,γ,Z,ad,r,O,y,z,Y,a0⟩:=M;obtain⟨r1,e1,z⟩:=bind_some z;exact⟨E0,E,H0,γ,Z,ad,r1,y,e1,λσ' H' H0' ad' y' _=>⟨E0,E,H0',_,_,ad',r,O,y',z,Y,a0⟩⟩
theorem Ys(w i:Nat){F:YF}{G:CO Fl}{Y:List D->Option (D×TT)}{tg:Expr}(hf:FnL X.prog X.w X.K X.mg X.base j x n Y)(hj:j<=k)(h:SX X sc N L k)(c:xu sc x=true)(ha:PAn X (e::es) n g)(hg:PG X tg (gOf X.K (.tp [w,i])))
 (h2:PSs X jV (tYC X.K i F G)) {a0:Pos}
 (he:starEach (e::es) X.env=(false,eval e X.env)::starEach es X.env:=by rfl) (a4:(backTo pos (starEach es X.env)).any (·.1)=false:=by rfl)
 (hs:swapsWithSole [tg] (.Call (.Name x p) (e::es) [] pos) a0.line X.env=pure false:=by rfl) (hw:swappedStores [tg] (.Call (.Name x p) (e::es) [] pos) X.env=pure none:=by rfl)
 (hh:(assignEach [tg] X.env).map (·.2)=[assign tg X.env]:=by rfl) :
 XW X (.Assign [tg] (.Call (.Name x p) (e::es) [] pos) a0::jV) (zM (Ke w i Y g F) G):=by
 obtain⟨fa,fd,ps,a7,Gf,hm,hk,hb⟩:=hf.ex;subst a7;intro pins s σ H D I hZ;refine(j8 (wJ (xE (E:=E0) Gf (h.room.mono hj) (h.gl c).1 hm hk hb .nil wj ha.1 (h.gl c).2.2 he a4) hg hs hw hh) h2) pins s σ H D I ?_;obtain⟨E0,E,H0,γ,fl,rs,M,ap⟩:=hZ;obtain⟨f1,J,M⟩:=bind_some M;unfold Ke at J;split at J
 ·next O=>
  obtain⟨ar,as,c0⟩:=O;obtain⟨ds,e1,J⟩:=bind_some J;obtain⟨r,e2,J⟩:=bind_some J;obtain⟨s2,e3,J⟩:=zt J;subst J;refine⟨H0,γ,ds,rs.rc,e1,λvs H1 b0 x1 r1=>⟨b0,ds,r,x1.sub,by simpa using r1,ha.2 γ ds e1,e2,?_⟩⟩;intro t v ad H2 b9 x2 rv ht n3 h0;refine⟨t,_,rfl,SqT.of ht,rfl,v,_,rfl,_,_,rfl,rfl,?_⟩;have bg:=(rs.step x1).step x2;have bi:Same E H1:=(rs.step x1).ext.s1;have bl:=(bg.setVal (i:=w) rv).forget (i:=i) (v:=some (.ref (ad .out)));have pn:((γ.set w (.val r.1)).set i .no).all isPl=true:=by
   refine sX.mpr λc O=>?_;obtain⟨m,hm⟩:=Be O;rcases zE hm with⟨_,z,_⟩ | ⟨bm,z⟩
   ·rw [z];rfl
   ·rcases zE z with⟨_,z,_⟩ | ⟨bn,z⟩
    ·rw [z];rfl
    ·refine sX.mp ar c (sy (i:=m) ?_)
     rw [rW (uu bm),rW (uu bn)];exact z
  refine⟨E0,E,b9,_,r.2,ad,s2,fl,⟨bl,pn,λy hy=>?_,n3,λpl o=>⟨(h0 pl o).1,Xk bi (h0 pl o).2⟩⟩,e3,M,ap⟩;rw [tK.mp hy];exact⟨uc,sM (by simp [rs.rc.len];exact as)⟩
 ·cases J
theorem Zi : ∀{rows:List (List D)} {R:List (List Int)} {m:Nat},Yh rows=some R->rows.length=R.length/\∀row,rows[m]? = some row->∃r,R[m]? = some r/\kn row=some r
 | [],R,m,h=>by cases h;exact⟨rfl,λrow e=>by simp at e⟩
 | row::rows,R,m,h=>by
  obtain⟨a,e1,h⟩:=bind_some h;obtain⟨b,e2,h⟩:=zt h;subst h;refine⟨by simp [(Zi (m:=0) e2).1],λz e=>?_⟩;cases m with
  | zero=>cases e;exact⟨a,rfl,e1⟩
  | succ m=>exact(Zi (m:=m) e2).2 z (by simpa using e)
theorem Xs : ∀γ ds,zy γ=some ds->ds.length=0:=λγ ds h=>by cases h;rfl
theorem qX{n:Nat}{f:CO D}{g:CO (List D)}(z : ∀γ ds,g γ=some ds->ds.length=n) : ∀γ ds,za f g γ=some ds->ds.length=n+1:=λγ ds h=>by
 obtain⟨d,_,h⟩:=bind_some h;obtain⟨I,e,h⟩:=zt h;subst h;rw [sP,z γ I e]
theorem VV{f:CO (List (List D))}(hi:(i,Pl.out)∈al)(hn:(al.all λx=>notRow x.2)=true)(h:PE X e (tBM X.K "list" Qe (vZ i) (X8 (tN X.K f) fX)))(hs:swapsWith e none pos.line X.env=pure false:=by rfl) :
 PS X (.Expr e pos) (tY X.K al (fN f)):=qm (Zn h hs) λD σ H hZ=>by
 obtain⟨E0,E,H0,γ,Z,ad,r,y,I,a6⟩:=hZ;obtain⟨R,e1,I⟩:=bind_some I;obtain⟨rows,e2,M⟩:=bind_some e1;split at I
 ·next hl=>
  cases I;refine⟨_,(y.sl _ hi).2,.inl ⟨rfl,_,SqL.of (y.n3.cont .out uc)⟩,H0,γ,rows,y.rs.rc,e2,λa bs H1 a8 x1 J nst=>?_⟩;have y1:=y.step x1;refine⟨_,_,_,rfl,rfl,y1.n3.cont .out uc,?_,?_⟩
  ·rw [show(contOf Z ad .out).length=Z.length by simp [contOf]]
   exact su hl (xi (se _))
  ·have a9 : ∀pl,okPl Z pl->ad pl∉a::bs:=λpl o hm=>by
    have:=J _ hm;rw [y.n3.cont pl o]at this;cases this
   have ac:bs.length=R.length:=by rw [nst.len,(Zi (m:=0) M).1]
   have n3:=y1.n3.app (R:=R) nst.ha (λm b r O hr=>by
    have hm:m<rows.length:=by rw [<- nst.len];exact(rP.mp O).1
    obtain⟨r',Y,g2⟩:=(Zi (m:=m) M).2 _ (rN hm);rw [hr]at Y;cases Y;obtain⟨_,xs,q1,q2⟩:=nst.row m b _ O (rN hm);rw [q1,Y2 g2 q2]) ac nst.nd a9
   have kp:Kp Z ad (Z++[R]) (bI ad Z.length a bs):=⟨by simp,λpl np o=>kX o⟩;refine a6 σ _ a8 _ ⟨y1.rs.swap y1.pn (λc o q=>?_) (λc o q=>?_),y1.pn,λx hx=>?_,n3,λpl o=>?_⟩ kp
   ·rw [zz (λz=>by rw [z,(y1.h0 .out uc).1]at q;cases q)];exact y1.rs.rc.sub c o q
   ·rw [zz (λz=>by rw [z,(y1.h0 .out uc).2]at q;cases q)];exact y1.rs.ext.s1 c o q
   ·have np:notRow x.2=true:=sX.mp hn x hx
    obtain⟨o,g⟩:=y1.sl x hx;exact⟨kp.ok np o,by rw [kp.adr _ np o];exact g⟩
   ·rcases Xj o with o | e | ⟨m,e,hm⟩
    ·rw [kX o];exact y1.h0 pl o
    ·subst e
     rw [show bI ad Z.length a bs (.tab Z.length)=a from if_pos rfl];exact⟨nst.a0,Xk y.rs.ext.s1 (J a rX)⟩
    ·subst e
     have a2:bs[m]? = some (bs[m]'⋯):=rN ⋯;have a3:bs[m]'⋯∈a::bs:=sd _ (sy a2);rw [show bI ad Z.length a bs (.row Z.length m)=bs[m]'⋯by show(if Z.length=Z.length then _ else _)=_;rw [if_pos rfl];exact zX a2];exact⟨(nst.at a3).1,Xk y.rs.ext.s1 (J _ a3)⟩
 ·cases I
theorem Wx{scope:Scope}{own:List Str}{fr:List (Str×Nat)}{elt tg iter:Expr}{src:CO (List D)}{T:Tg}{f:CO (List D)}
 (z:X.calm=true) (ok:CompOk X scope fr) (I : ∀i∈T.idx,i<own.length) (hi:PIC X tg iter src) (J : ∀fp s2 H2,PG (zV X scope (own++fr.map (·.1)) fp s2 H2) tg (gOf X.K T))
 (he : ∀fp s2 H2,PO (zV X scope (own++fr.map (·.1)) fp s2 H2) elt f) (M : ∀x,foldedSetIterable iter X.env x=pure x:=by intro _;rfl) :
 PE X (.ListComp elt [⟨tg,iter,[],0⟩] scope pos) (tN X.K (Je src T own.length (fr.map (·.2)) f)):=
 jO (Zq z ok hi J (λ_ _ _=>Zo) he M) (KH I λσ H Q O=>by obtain⟨H0,γ,b,rc,Y,q⟩:=O;cases Y;exact q H H0 (Ext.refl rc.sub))
theorem mK{a:Expr}{f:CO (List (List D))}(i:Nat){apos cpos np:Pos}(hi:(i,Pl.out)∈al)(hn:(al.all λx=>notRow x.2)=true)(h:SX X sc N L k)(c:ZY sc N i x=true)(ha:PE X a (tN X.K f))(z:starEach [a] X.env=[(false,eval a X.env)]:=by rfl)
 (I:attributeBase (.Name x np) "append" X.env (eval (.Name x np) X.env)=eval (.Name x np) X.env:=by rfl)
 (J:((backTo cpos (starEach [a] X.env)).all (λx=> !x.1) && (backToKw cpos (keywordEach [] X.env)).all (λx=>x.1.isSome)
   && decide ([a].length+([]:List Keyword).length+(if ([]:List Keyword).isEmpty then 0 else 1)<30))=true:=by rfl)
 (M:(apos.endLine==cpos.line)=true:=by rfl) (O:swapsWith (.Call (.Attribute (.Name x np) "append" apos) [a] [] cpos) none pos.line X.env=pure false:=by rfl) :
 PS X (.Expr (.Call (.Attribute (.Name x np) "append" apos) [a] [] cpos) pos) (tY X.K al (fN f)):=
 VV hi hn (dC Bz PySem.F.slot_list_append PySem.F.type_list_append Jz (h.var c) (zK ha jw z) I J M z rfl) O
theorem fK{I:CO D}{F:Nat->YF}{y:Str}{z:Expr}{np J:Pos}(i j:Nat)(hi:(i,Pl.out)∈al)(h:SX X sc N L k)(c:ZY sc N i x=true)(ct:J9 sc N L j y=true)(M:PV X z I)(h2 : ∀k,PSs X jV (tY X.K ((j,.tab k)::al) (F k))){pos':Pos}
 (O:ZL z:=by intro _ _;rfl) (Y:swapsWith (.Subscript (.Name x np) z J) (some (.Name y pos')) pos.line X.env=pure false:=by rfl) :
 PSs X (.Assign [.Name y pos'] (.Subscript (.Name x np) z J) pos::jV) (tY X.K al (fx (al.map (·.1)) j I F)):=
 mJ hi (h.set j ct (dw ix_list (h.var c) M O) Y) h2
theorem yH{tv:TE}{z:Expr}{np I:Pos}{O:CO D}(i:Nat)(h:SX X sc N L k)(c:ZY sc N i x=true)(he:PE X e tv)(Y:PV X z O)
 (ha : ∀v,assign (.Subscript (.Name x np) z I) X.env v=(do
   let J <- holding [v] (eval (.Name x np) X.env);let M <- holding [v,J] (eval z X.env)
   standAt I
   holding [v,J,M] (setItem J M v)
   release [v,J,M] []):=by intro _;rfl)
 (hs:swapsWithSole [.Subscript (.Name x np) z I] e pos.line X.env=pure false:=by rfl) (hw:swappedStores [.Subscript (.Name x np) z I] e X.env=pure none:=by rfl)
 (h1:(assignEach [.Subscript (.Name x np) z I] X.env).map (·.2)=[assign (.Subscript (.Name x np) z I) X.env]:=by rfl):PS X (.Assign [.Subscript (.Name x np) z I] e pos) (ZS tv (mw (vZ i) (tV X.K O) Wm)):=
 wJ he (gY (h.var c) Y Wb ha) hs hw h1
end
section
variable{X:Cx}{sc:Scope}{N L:List Str}{k j n i:Nat}{a b c e:Expr}{es:List Expr}{f:CO D}{g:CO (List D)}{p pos:Pos}{x:Str}{st st3 st4:Stmt}{jV:List Stmt}{F:List D->Option Res}
theorem KJ{k:List Int} : ∀{xs:List (List Int×Addr×Value)},(atKey xs k).isSome=decide (k∈xs.map (·.1)):=λ{xs}=>by
 by_cases h:k∈xs.map (·.1)
 ·rw [decide_eq_true h]
  obtain⟨x,z,e⟩:=uS.mp h;unfold atKey;rw [Option.isSome_map,List.find?_isSome];exact⟨x,z,by simpa using e⟩
 ·rw [decide_eq_false h,XN h];rfl
end
def Wn(i:Nat)(T:Tg)(F:XF):XF:=λγ ks vs=>if yC i T=true/\ks.length<=lim then kD T F (ks.map λk=> .tup (k.map .int)) γ ks vs else none
def We(i:Nat)(z I:CO D)(F:XF):CO Fl:=λγ=>if (γ.set i .no).any isNestB=false/\i<γ.length then ((z (γ.set i .no)).bind W2).bind λk=>(I (γ.set i .no)).bind λv=>(F (γ.set i .no) [k] [v]).bind λr=>if r.2.1.length<=lim then some (.next (r.1.set i (.val (.dct r.2.1 r.2.2))))else none else none
def bC(k d:D):Option D:=match d with
 | .dct ks _=>(W2 k).map λk=> .bl (decide (k∈ks))
 | _=>none
def mZ(c:Str)(f g:CO D):CO D:=λγ=>(f γ).bind λp=>(g γ).map λt=> .ins c p t
def KO(as cs:List Str)(f:CO D):CO D:=λγ=>(f γ).bind λd=>match d with
 | .ins c _ _=>if c∈as then some (.bl (decide (c∈cs)))else none
 | _=>none
def vg(F G:List D->Option Res)(f g:CO D):CO (List D):=λγ=>(f γ).bind λd=>match d with
 | .ins c p t=>(g γ).bind λb=>(if c=("Right" : Str)then F [p,t,b]else if c=("Left" : Str)then G [p,t,b]else none).bind fB
 | _=>none
section
variable{prog:Program}{w:World}{d:Addr}{o:Obj}{es:Array DictEntry}{ep:Nat}{xs:List (List Int×Addr×Value)}
theorem V8(a4:(d==sysModules)=false)(O:o.ExactDict)(Y:o.data = .dict es ep)(he:es.toList=xs.map (λx=>⟨fV x.1,.ref x.2.1,x.2.2⟩)) :
 PySem.W.KdlSrc prog w "dict" d d xs.length (λi v=>∃e,xs[i]? = some e/\v = .ref e.2.1) (λh=>h.get? d=some o) where
 type:=λ_ z=>⟨o,z,O.1⟩
 there:=λ_ z=>⟨sg z,sg z⟩
 keep:=λ_ _ z M=>M d (.inl rfl) o z
 notList:=by decide
 notTuple:=by decide
 hint:=λ_ _ _ _ z hq=>PySem.W.kdl_hint_dict ⟨o,z,O.1⟩ hq
 iter:=λA s hh z=>by
  have hsz:es.size=xs.length:=by rw [<- uG,he,sC]
  have a6:d≠s.heap.objs.size:=sF (sg z);refine⟨_,λi h=>h.IsKeyIter s.heap.objs.size d i xs.length ep/\h.get? d=some o,λ_ _ hq=>YZ a4 z O Y hsz hq,?_,⟨_,sh _ rfl,rfl,rfl⟩,rM _ z⟩;exact {
   sub:=λb I=>by simp at I;simp [I]
   frame:=λ_ _ _ st M=>⟨st.1.at λo e=>M _ ⋯ o e,M d ⋯ o st.2⟩
   item:=λi s Q E hi st J=>by
    have a1:i<es.size:=by omega
    have hx:xs[i]? = some xs[i]:=rN hi;have ek:es[i].key = .ref xs[i].2.1:=by
     have:es.toList[i]? = some es[i]:=by rw [BK,Array.getElem?_eq_getElem a1]
     rw [he,sk,hx]at this;rw [<- sH this]
    refine WN st.1 st.2 Y hsz a1 λh' a8 a3=>?_;exact J _ h' s.toks ⟨_,hx,ek⟩ ⟨a8,a3.extBut d o a6 st.2⟩ λb o I e=>a3.extBut b o (λh=>I (by simp [h])) e
   done:=λs Q E st J=>Jw hh st.1 st.2 Y hsz ⋯ λh' a9=>J h' s.toks λb o I e=>a9 b o (λh=>I (by simp [h])) e
   self:=λ_ _ _ _ st J=>wpAny_pyIter_keyiter st.1 J}
end
def tLK(K:rH)(i:Nat):TE:=λσ H Q=>∃p o xs,σ[i]? = some (some (.ref p))/\H p=some (atO p o)/\(p==sysModules)=false/\DObj o xs/\xs.length<=sizeLine/\∀S,H S=none->Q (.ref S) (upd H S (.lst (xs.map λe=> .ref e.2.1)))
section
variable{X:Cx}{sc:Scope}{N L:List Str}{k i:Nat}{x:Str}{tg iter:Expr}{pos p np:Pos}
theorem WD(h:SX X sc N L k)(c:xu sc "list" = true)(z:X.mg "list" = none)(cv:ZY sc N i x=true)(O:starEach [.Name x np] X.env=[(false,eval (.Name x np) X.env)]:=by rfl):PE X (.Call (.Name "list" p) [.Name x np] [] pos) (tLK X.K i):=by
 intro pins s σ H Q I J;obtain⟨a,o,xs,e1,e2,e3,e4,Y,q⟩:=J;have hh:X.A.handled=none:=I.ok.hd h.calm;refine Ab (xp I (h.gl c).1 z Bm (tX ?_ (by rw [O];rfl) rfl) ⋯ ⋯);rw [O];show wpAny _ _ (spliced ((false,eval (.Name x np) X.env)::[])) _ _ s;refine Ao (thn (h.var cv pins s σ H (λv H1=>v = .ref a/\H1=H) I ⟨_,e1,rfl,rfl⟩) λu s1 J=>?_);obtain⟨v,H1,M,rv,rfl,rfl⟩:=J;cases (show u=sN a from rv);refine BB ?_;obtain⟨a7,es,ep,a8,he,nd⟩:=e4;obtain⟨ho,_⟩:=(show ObjOk X.prog X.w H1 s1.heap a (atO a o)from M.hok a _ e2);refine PySem.W.kdl_call (V8 e3 a7 a8 he) hh ho Y λh' tk acc c' hk hS a0=>?_;have hl:acc.toList.length=xs.length:=by rw [uG];exact a0.1
 have ev:acc.toList=xs.map λe=>sN e.2.1:=by
  refine Af λj=>?_;rw [sk];cases hj:xs[j]? with
  | none=>rw [List.getElem?_eq_none_iff]at hj;exact Aw ⋯
  | some e=>
   have ax:=(rP.mp hj).1;have ha:acc.toList[j]? = some acc.toList[j]:=rN ⋯;obtain⟨e',g1,g2⟩:=a0.2 j acc.toList[j] (by rw [<- BK];exact ha);rw [ha,g2];rw [hj]at g1;cases g1;rfl
 have vv : ∀zs:List (List Int×Addr×Value),Vals (zs.map λe=>V.ref e.2.1) (zs.map λe=>sN e.2.1):=λzs=>by
  induction zs with
  | nil=>exact .nil
  | cons e r ih=>exact .cons rfl ih
 exact⟨.ref s1.heap.objs.size,_,M.laid (o:= .lst (xs.map λe=>V.ref e.2.1)) (t':=tk) hk (se _) (show _/\_ from⟨by rw [sC];exact Y,acc.toList,c',by rw [ev];exact vv xs,by rw [Array.toArray_toList];exact hS⟩),rfl,q _ M.fresh⟩
theorem cP{body:List Stmt}{T:Tg}{F:XF}(hp:PassesOwn (model X.prog X.w) X.A X.env X.xe)(hc:X.calm=true)(hi:PE X iter (tLK X.K i))(hg:PG X tg (gOf X.K T))(hb:PSs X body (tQX X.K i F))
 (hs : ∀x,foldedSetIterable iter X.env x=pure x:=by intro _;rfl):PS X (.For tg iter body [] pos) (tQX X.K i (Wn i T F)):=qm (Jr hp hc (Xg hi) hg hb hs) λD σ H hZ=>by
 obtain⟨p,E0,E,H0,γ,ks,vs,r,xs,J,ax⟩:=hZ;unfold Wn at J;split at J
 ·next b0=>
  obtain⟨b9,ce⟩:=b0;obtain⟨o,es,ys,h1,h2,h3,h4,h5,h6⟩:=xs.ex;have be:es.length=ks.length:=by rw [<- h3,sC]
  have cf:lim<=sizeLine:=by decide
  refine⟨p,o,es,xs.sl,h1,xs.he.2,h2,by omega,λS hS=>?_⟩;have bg:H0 S=none:=z6 xs.rs.rc.sub hS;have x1:Ext H0 H (upd H0 S (.lst (es.map λe=>V.ref e.2.1))) (upd H S (.lst (es.map λe=>V.ref e.2.1))):=Ext.alloc xs.rs.rc.sub hS _;refine⟨S,.L,rfl,⟨_,SqL.of zw⟩,?_⟩;have y:=xs.step x1;have rk:Reps X.K (upd H0 S (.lst (es.map λe=>V.ref e.2.1))) (ks.map λk=> .tup (k.map .int)) (es.map λe=>V.ref e.2.1):=by
   rw [<- h3];have a2 : ∀e∈es,SqT X.K (upd H0 S (.lst (es.map λe=>V.ref e.2.1))) e.2.1 (e.1.map V.int):=λe he=>sameT (zR bg _) (h4 e he);generalize upd H0 S (.lst (es.map λe=>V.ref e.2.1))=G at a2;clear h1 h2 h3 h4 h5 h6 be x1 y J
   induction es with
   | nil=>exact Reps.nil
   | cons e es ih=>exact Reps.cons (show ∃a xs,V.ref e.2.1 = .ref a/\SqT X.K G a xs/\Reps X.K G (e.1.map .int) xs from⟨_,_,rfl,a2 e rX,kK e.1⟩) (ih λe' bn=>a2 e' (sd _ bn))
  have O:Walk X.K (upd H0 S (.lst (es.map λe=>V.ref e.2.1))) (upd H0 S (.lst (es.map λe=>V.ref e.2.1))) (Itk .L X.K S) (ks.map λk=> .tup (k.map .int)):=yI (k:= .L) (SqL.of zw) rk;generalize (ks.map λk=>DL.D.tup (k.map .int))=ds at J O;generalize upd H0 S (.lst (es.map λe=>V.ref e.2.1))=M at O y x1;have hx:=y.rs.ext;refine⟨λn m σ H=>m=ds.length - n/\n<=ds.length/\∃H0 γ ks vs,QS X.K i p M E H0 H σ γ ks vs/\kD T F (ds.drop n) γ ks vs=some r,⟨_,rfl,tZ _,M,γ,ks,vs,⟨⟨y.rs.rc,hx.base,y.rs.fresh,y.rs.fr2⟩,y.nn,y.sl,y.h0,y.he,y.ex⟩,J⟩,?_⟩;rintro n m σ3 Y ⟨rfl,ch,a7,γ3,bx,c0,z,I⟩;have a3:Same M Y:=z.rs.ext.s0.trans z.rs.ext.sub;by_cases a0:n<ds.length
  ·refine .inr ⟨O.go n Y a3 a0,λσ H=>n+1<=ds.length/\∃H0 γ ks vs,QS X.K i p M E H0 H σ γ ks vs/\kD T F (ds.drop (n+1)) γ ks vs=some r,λσ' H' q=>⟨ds.length - (n+1),by omega,rfl,q.1,q.2⟩,λx H' yy=>?_⟩
   obtain⟨d,hd,c2⟩:=O.yld n Y x H' a3 a0 yy;obtain⟨G0,xg,rg⟩:=c2 a7 z.rs.ext.s0 z.rs.rc.sub;have c4:ds.drop n=d::ds.drop (n+1):=by
    have c5:d=ds[n]:=by rw [rN a0]at hd;exact(sH hd).symm
    rw [c5];exact uK a0
   rw [c4]at I;obtain⟨γ4,eb,I⟩:=bind_some I;obtain⟨r4,eF,I⟩:=bind_some I;refine wV (i:=i) xg.sub rg eb b9 λσ4 hσ cc=>?_;have z1:=z.step xg;exact⟨p,M,E,G0,γ4,bx,c0,r4,z1.names (cc M E z1.rs) (JT eb z1.nn) hσ,eF,λσ5 H5 cd q=>⟨a0,cd,_,_,_,q,I⟩⟩
  ·have e:n=ds.length:=by omega
   subst e;rw [AE]at I;cases I;exact .inl ⟨O.stop Y a3,ax σ3 Y a7 ⟨⟨z.rs.rc,hx.rebase z.rs.ext,z.rs.fresh,z.rs.fr2⟩,z.nn,z.sl,z.h0,z.he,z.ex⟩⟩
 ·cases J
def fZ(K:rH)(tk tv:TE):TE:=λσ H Q=>∀p,H p=none->(p==sysModules)=false->tk σ (upd H p (atO p JM)) λz H1=>tv σ H1 λI H2=>∃k b,z = .ref b/\SqT K H2 b (k.map V.int)/\H2 p=some (atO p JM)/\∀o' r,DObj o' [(k,b,r)]->RelV I r->Q (.ref p) (upd H2 p (atO p o'))
theorem dz{a b:Expr}{tk tv:TE}(hu:X.A.units+64<cLine)(hk:PE X a tk)(hv:PE X b tv):PE X (.Dict [some a] [b] pos) (fZ X.K tk tv):=by
 intro pins s σ H Q I h;have a3:(s.heap.objs.size==sysModules)=false:=beq_eq_false_iff_ne.mpr (Ai I.big);have q:=h s.heap.objs.size I.fresh a3;have I1:Inv X pins σ (upd H s.heap.objs.size (atO s.heap.objs.size JM)) {s with heap:=s.heap.push JM}:=I.laid (t':=s.toks) (λ_ _ q=>rM _ q) (se _) (Vx (sh _ rfl));refine wpAny_Dict_any rfl rfl ⋯ (by show 1<=15;decide) ?_;show wpAny _ _ (do let J <- eval a X.env;let Y <- holding [J] (do let x <- eval b X.env;standAt pos;pure x);return (J,Y)::(<- holding [J,Y] (evalPairs []))) _ _ _;refine rK (thn (hk pins _ σ _ _ I1 q) λu1 s1 M=>?_);obtain⟨kx,H1,I2,r1,q⟩:=M;refine rK (uD (rK (thn (hv pins s1 σ _ _ I2 q) λu2 s2 M=>?_)));obtain⟨vx,H2,O,r2,k,c,rfl,g1,g2,q⟩:=M;cases (show u1=sN c from r1);refine rK (CF (rS (rK (uD (rS (rS ?_))))));unfold storeAll;simp only [BM,BZ];have dH:=Qy O g2 nY (λx hx=>nomatch hx);refine rK (rK (wpAny_dictSet_heap (hsz:=tZ _) (show X.A.units<cLine by omega) (Zu O g1) dH λh' a9 ac=>rS (rS ?_)));obtain⟨o',a0,am⟩:=bp a9;exact⟨.ref s.heap.objs.size,_,O.write (x:=s.heap.objs.size) (e:=s.heap.objs.size) (o:=atO s.heap.objs.size o') (t':=_) (h':=h') (by rw [g2];exact uc) (.inl rfl) (λb q hb z=>(ac.2 b hb).trans z) ⟨_,a0⟩ (Vx a0),rfl,q o' u2 am r2⟩
theorem Yt(i:Nat){st:Stmt}{jV:List Stmt}{Y fv:CO D}{F:XF}{G:CO Fl}(h1:PS X st (ZS (fZ X.K (tV X.K Y) (tV X.K fv)) (xt i)))(h2:PSs X jV (tQC X.K i F G)):XW X (st::jV) (zM (We i Y fv F) G):=by
 intro pins s σ H D I hZ;refine(j8 h1 h2) pins s σ H D I ?_;obtain⟨E0,E,H0,γ,fl,rs,M,an⟩:=hZ;obtain⟨f1,z,M⟩:=bind_some M;unfold We at z;split at z
 ·next ap=>
  obtain⟨hn,ar⟩:=ap;obtain⟨k,e1,z⟩:=bind_some z;obtain⟨kd,e2,e3⟩:=bind_some e1;obtain⟨v,e4,z⟩:=bind_some z;obtain⟨r,e5,z⟩:=bind_some z;split at z
  ·next hl=>
   cases z;intro p O a1;have hE:E p=none:=z6 rs.ext.s1 O;have bd:H0 p=none:=z6 rs.rc.sub O;have be:i<σ.length:=by rw [rs.rc.len];exact ar
   have r0:RS X.K E0 E H0 H σ (γ.set i .no):=by
    have:=rs.forget (i:=i) (v:=σ[i])
    rwa [List.set_getElem_self]at this
   have r1:=r0.step (Ext.hide r0.rc.sub O (atO p JM));refine⟨H0,_,kd,r1.rc,e2,λkx H1 a4 x1 rk=>⟨a4,_,v,(r1.step x1).rc,e4,λvx H2 a5 J rv=>?_⟩⟩;obtain⟨b,rfl,bm⟩:=Zw e3 rk;have a6:H1 p=some (atO p JM):=x1.s1 _ _ zw;have a7:H2 p=some (atO p JM):=J.s1 _ _ a6;have bn:a4 p=none:=x1.new p bd (by rw [zw];simp);have a8:a5 p=none:=J.new p bn (by rw [a6];simp);have a9:=sameT J.s0 bm;refine⟨k,b,rfl,sameT J.sub a9,a7,λo' r' od rr=>?_⟩;have r3:=(((r1.step x1).step J).repl (u':=atO p o') hn a7 QE a8 hE).forget (i:=i) (v:=some (.ref p));rw [List.set_set]at r3;have bx:(σ.set i (some (V.ref p)))[i]? = some (some (.ref p)):=sM be;exact⟨p,E0,E,a5,γ.set i .no,[k],[v],r,fl,a1,⟨r3,hn,bx,a8,⟨hE,a1⟩,o',[(k,b,r')],[vx],zw,od,rfl,λe he=>by rw [tK.mp he];exact a9,Reps.cons rv Reps.nil,.cons rr .nil⟩,e5,hl,M,an⟩
  ·cases z
 ·cases z
end
structure NewAt(P:Program)(w:World)(K:rH)(mg:Str->Option Value)(base:Heap)(j:Nat)(x:Str)(C:Addr):Prop where
 ex : ∃(f:Addr) (fd:FuncData),Mk K C f/\FnOk P w K mg base CX0 j f fd ["self","p","table"] (spInit C)/\mg x=some (.ref C)/\Binds K fd ["self","p","table"] []/\insAt K x=some C
structure MethB(P:Program)(w:World)(K:rH)(mg:Str->Option Value)(base:Heap)(j:Nat)(x mm:Str)(F:List D->Option Res):Prop where
 ex : ∃(C f:Addr) (fd:FuncData),insAt K x=some C/\Meth K C mm f/\FnOk P w K mg base CX0 j f fd ["self","base"] (spForth K C F)/\Binds K fd ["self","base"] []
section
variable{X:Cx}{sc:Scope}{N L:List Str}{k j jr jl i:Nat}{a b:Expr}{p pos apos np p2:Pos}{fa fb:CO D}{F G:List D->Option Res}{x y mm:Str}{C:Addr}
theorem aW(hN:NewAt X.prog X.w X.K X.mg X.base j x C)(h:SX X sc N L k)(ha:PV X a fa)(hb:PV X b fb)(hj:j+1<=k:=by decide)(cx:xu sc x=true:=by decide +kernel)
 (he:starEach [a,b] X.env=(false,eval a X.env)::starEach [b] X.env:=by rfl) (a9:starEach [b] X.env=(false,eval b X.env)::starEach [] X.env:=by rfl) (ac:(backTo pos (starEach [b] X.env)).any (·.1)=false:=by rfl) :
 PV X (.Call (.Name x p) [a,b] [] pos) (mZ x fa fb):=by
 intro pins s σ H Q I hZ;obtain⟨H0,γ,d,rc,Y,q⟩:=hZ;obtain⟨dp,e1,Y⟩:=bind_some Y;obtain⟨dt,e2,e3⟩:=zt Y;subst e3;obtain⟨f,fd,M,Fn,hm,bi,hi⟩:=hN.ex;refine du M Fn (h.room.mono hj) (h.gl cx).1 hm bi .nil wj (zK ha (zK hb jw a9) he) (h.gl cx).2.2 he ac pins s σ H Q I ?_;refine⟨H0,γ,dp,rc,e1,λz H1 as x1 r1=>⟨as,γ,dt,rc.ext x1,e2,λJ H2 O x2 r2=>λo dx h1 h2 ax=>⟨o,dx,z,J,rfl,zw,rfl,?_⟩⟩⟩;rw [J8];have y1:Ext O H2 (upd O dx (.own o)) (upd H2 dx (.own o)):=Ext.alloc x2.sub h2 _;have y2:=Ext.alloc y1.sub (by rw [zz (uu ax)];exact h1:upd H2 dx (.own o) o=none) (.ins C dx (fs2 z J));have xa:=x1.trans (x2.trans (y1.trans y2));exact q _ _ _ xa (show ∃a C' dy vp vt,V.ref o = .ref a/\insAt X.K x=some C'/\upd (upd O dx (.own o)) o (.ins C dx (fs2 z J)) a=some (HO.ins C' dy (fs2 vp vt))/\Rep X.K (upd (upd O dx (.own o)) o (.ins C dx (fs2 z J))) dp vp/\Rep X.K (upd (upd O dx (.own o)) o (.ins C dx (fs2 z J))) dt vt from⟨o,C,dx,z,J,rfl,hi,zw,r1.mono (x2.trans (y1.trans y2)).s0,r2.mono (y1.trans y2).s0⟩)
theorem Ql(hR:MethB X.prog X.w X.K X.mg X.base jr "Right" mm F)(hL:MethB X.prog X.w X.K X.mg X.base jl "Left" mm G)(h:SX X sc N L k)(ho:PV X a fa)(hb:PV X b fb)(hf : ∀z J,(fs2 z J).lookup mm=none)(h2:jr<=k:=by decide)(h3:jl<=k:=by decide)
 (a7:starEach [b] X.env=(false,eval b X.env)::starEach [] X.env:=by rfl) (as:(backTo pos (starEach [] X.env)).any (·.1)=false:=by rfl)
 {pl:Sem Bool} (ht:eval (.Call (.Attribute a mm apos) [b] [] pos) X.env=(do
  let ov <- eval a X.env
  standAt apos.atName
  let (f,first) <- holding [ov] (getMethod ov mm pl)
  callWith pos f first (backTo pos (starEach [b] X.env)) (backToKw pos (keywordEach [] X.env))):=by rfl) :
 PO X (.Call (.Attribute a mm apos) [b] [] pos) (vg F G fa fb):=by
 intro pins s σ H Q I hZ;obtain⟨H0,γ,ds,rc,O,q⟩:=hZ;obtain⟨d,e1,O⟩:=bind_some O;cases d with
 | ins c dp dt=>
  obtain⟨db,e2,O⟩:=bind_some O;obtain⟨r,e3,e4⟩:=bind_some O;cases r with
  | val _=>cases e4
  | own c6=>
   cases e4;have go : ∀(jc:Nat) (Fc:List D->Option Res),MethB X.prog X.w X.K X.mg X.base jc c mm Fc->jc<=k->Fc [dp,dt,db]=some (.own ds)->wpAny (model X.prog X.w) X.A (eval (.Call (.Attribute a mm apos) [b] [] pos) X.env) (EP X pins σ Q) X.xe s:=λjc Fc M hj hF=>by
    obtain⟨C,fm,ca,hi,Mm,Gm,bm⟩:=M.ex;refine dq (pl:=pl) (E:=E0) ho (Y6 (yQ hi)) Mm Gm (h.room.mono hj) bm .nil wj (zK hb jw a7) a7 as ht pins s σ H Q I ?_;refine⟨H0,γ,_,rc,e1,λv1 H1 a1 x1 r1=>?_⟩;obtain⟨o,C',dx,z,J,rfl,g1,g2,g3,g4⟩:=(show ∃a C dx z J,v1 = .ref a/\insAt X.K c=some C/\a1 a=some (.ins C dx (fs2 z J))/\Rep X.K a1 dp z/\Rep X.K a1 dt J from r1);rw [hi]at g1;cases g1;refine⟨o,dx,fs2 z J,rfl,x1.sub _ _ g2,hf z J,a1,γ,db,rc.ext x1,e2,λv4 H4 bx Y r4=>?_⟩;refine⟨o,dx,z,J,v4,bx,dp,dt,db,ds,rfl,Y.s1 _ _ (x1.sub _ _ g2),Y.sub,g3.mono Y.s0,g4.mono Y.s0,r4,hF,?_⟩;exact λa' xs H' H0' x5 f1 f2 f3 f4=>q a' xs H' H0' (x1.trans (Y.trans x5)) (kG (x1.trans Y).s1 f1) f2 f3 f4
   split at e3
   ·next hc=>subst hc;exact go jr F hR h2 e3
   ·split at e3
    ·next hc=>subst hc;exact go jl G hL h3 e3
    ·cases e3
 | _=>cases O
def isCB(K:rH)(z:Addr)(as cs:List Str):Bool:=as.all λc=>match insAt K c with
 | some C=>uw K (.ref C) (.ref z)==some (decide (c∈cs))
 | none=>true
structure ClsAt(K:rH)(mg:Str->Option Value)(x:Str)(as cs:List Str):Prop where
 ex : ∃C,mg x=some (.ref C)/\isCB K C as cs=true
theorem Yn{as cs:List Str}(A:ClsAt X.K X.mg x as cs)(h:SX X sc N L k)(z:X.mg "isinstance" = none)(ha:PV X a fa)(c:xu sc "isinstance" = true:=by decide +kernel)(c2:xu sc x=true:=by decide +kernel)
 (hs:starEach [a,.Name x p2] X.env=[(false,eval a X.env),(false,eval (.Name x p2) X.env)]:=by rfl):PV X (.Call (.Name "isinstance" p) [a,.Name x p2] [] pos) (KO as cs fa):=by
 intro pins s σ H Q I O;obtain⟨H0,γ,d,rc,J,q⟩:=O;obtain⟨d1,e1,J⟩:=bind_some J;cases d1 with
 | ins Y dp dt=>
  dsimp only at J;split at J
  ·next hc=>
   cases J;obtain⟨CA,hm,hB⟩:=A.ex;refine Ab (xp I (h.gl c).1 z BX ?_ ⋯ ⋯);refine AJ ?_ (by rw [hs];rfl) rfl;rw [hs];show wpAny _ _ (spliced ((false,eval a X.env)::backTo pos [(false,eval (.Name x p2) X.env)])) _ _ s;refine Ao (thn (ha pins s σ H _ I ⟨H0,γ,_,rc,e1,λv H' H0' x r=>(show(λv H'=>∃H0',Ext H0 H H0' H'/\Rep X.K H0' (.ins Y dp dt) v) v H' from⟨H0',x,r⟩)⟩) λu s1 O=>?_);obtain⟨v,H1,I1,r1,M,x1,rr⟩:=O;show wpAny _ _ (spliced ((false,eval (.Name x p2) X.env)::[])) _ _ s1;refine Ao (Qu I1 (h.gl c2).1 hm ?_ (h.gl c2).2.2);refine BB ?_;obtain⟨o,C,dx,vp,vt,rfl,g1,g2,_,_⟩:=(show ∃a C dx vp vt,v = .ref a/\insAt X.K Y=some C/\M a=some (.ins C dx (fs2 vp vt))/\Rep X.K M dp vp/\Rep X.K M dt vt from rr);have e:=sX.mp hB Y hc;rw [g1]at e;exact vH I1 r1 (bw (yQ g1) (x1.sub _ _ g2)) (by simpa using e) λtk=>⟨.bl _,H1,I1.tok tk,rfl,q _ H1 M x1 rfl⟩
  ·cases J
 | _=>cases J
def rf(K:rH):R2:=λx y H Q=>∃a b o zs k,x = .ref b/\y = .ref a/\(a==sysModules)=false/\H a=some (atO a o)/\DObj o zs/\(∀z∈zs,SqT K H z.2.1 (z.1.map V.int))/\SqT K H b (k.map V.int)/\Q (.bl (atKey zs k).isSome) H
theorem iu(hu:X.A.units+64<cLine):OpR X (compareOp .In) (rf X.K):=by
 intro pins s σ H x y v u Q I z J h;obtain⟨a,b,o,zs,k,rfl,rfl,M,h1,h2,O,Y,q⟩:=h;cases (show v=sN b from z);cases (show u=sN a from J);exact wpAny_in_heap (tupleKind_room_in1 ⋯) (Zu I Y) M (Qy I h1 h2 O) ⟨.bl _,H,I.tok _,rfl,q⟩
theorem da(h:SX X sc N L k)(ha:PV X a fa)(M:PV X b fb)(hm:behindInMarks .In b=false:=by with_unfolding_all rfl):PTD X (.Compare a [.In] [b] pos) (sB (zh bC fa fb)):=
 Kl (Yr (iu h.u64) ha M hm) λσ H Q hZ=>by
  obtain⟨H0,γ,t,rc,J,q⟩:=hZ;obtain⟨db,O,eb⟩:=bind_some J;obtain⟨x,e2,O⟩:=bind_some O;obtain⟨d,e4,J⟩:=bind_some O;cases d with
  | dct ks vs=>
   obtain⟨k,e3,e5⟩:=zt J;subst e5;cases eb;refine⟨H0,γ,x,rc,e2,λv1 H1 a5 x1 r1=>⟨a5,γ,_,rc.ext x1,e4,λv2 H2 Y I r2=>?_⟩⟩;obtain⟨b,rfl,M⟩:=Zw e3 r1;obtain⟨a,xs,rfl,⟨hs,o,zs,h1,h2,h3,h4,h5,h6⟩,_⟩:=(show ∃a xs,v2 = .ref a/\DRt X.K Y a ks xs/\Reps X.K Y vs xs from r2);refine⟨a,b,o,zs,k,rfl,rfl,hs,I.sub _ _ h1,h2,λz hz=>sameT I.sub (h5 z hz),sameT I.sub (sameT I.s0 M),_,rfl,?_⟩;rw [KJ,h3];exact q H2 Y (x1.trans I)
  | _=>cases J
end
structure ArrB(K:rH)(mg:Str->Option Value)(sI sR sL tR tL:Stmt):Prop where
 ex : ∃(CR CL fI fR fL bR bL:Addr) (dI dR dL eR eL:FuncData),Mk K CR fI/\Mk K CL fI/\ClsA K CR/\ClsA K CL/\Meth K CR "forth" fR/\Meth K CL "forth" fL/\Meth K CR "back" bR/\Meth K CL "back" bL/\
  L2.Fun K "__init__" "Arrow.__init__" sI fI dI/\L2.Fun K "forth" "Right.forth" sR fR dR/\L2.Fun K "forth" "Left.forth" sL fL dL/\L2.Fun K "back" "Right.back" tR bR eR/\L2.Fun K "back" "Left.back" tL bL eL/\
  Binds K dI ["self","p","table"] []/\Binds K dR ["self","base"] []/\Binds K dL ["self","base"] []/\Binds K eR ["self","base"] []/\Binds K eL ["self","base"] []/\
  mg "Right" = some (.ref CR)/\mg "Left" = some (.ref CL)/\insAt K "Right" = some CR/\insAt K "Left" = some CL/\ClsAt K mg "Arrow" ["Right","Left"] ["Right","Left"]/\ClsAt K mg "Right" ["Right","Left"] ["Right"]/\ClsAt K mg "Left" ["Right","Left"] ["Left"]
section
variable{K:rH}{mg:Str->Option Value}{h:Heap}
theorem Xv{c:Str}{C:Addr}(n:Ap K mainGlobals c=some (some (.ref C)))(b:vM K C=true):insAt K c=some C:=by
 unfold insAt;rw [n];exact if_pos b
theorem arr_mk2{sI sR sL tR tL:Stmt}{CR CL J fI fR fL z I:Addr}{oI oR oL ac am:Value}{eI eR eL ar as aI aR aL bb bd:Option Addr}{lI lR lL bl bm:Array (Option Value)}{kI dI pI O tI kR dR pR Y c4 kL dL pL a0 c7 kS dS pS cS tS kU dU pU cU tU:Value}(M:K.In h)(G:h.Ns mainGlobals mg)
 (nR:Ap K mainGlobals "Right" = some (some (.ref CR))) (nL:Ap K mainGlobals "Left" = some (some (.ref CL))) (nA:Ap K mainGlobals "Arrow" = some (some (.ref J)))
 (iR:sD K (.ref CR) "__init__" = some (some (.ref fI))) (iL:sD K (.ref CL) "__init__" = some (some (.ref fI)))
 (mR:sD K (.ref CR) "forth" = some (some (.ref fR))) (mL:sD K (.ref CL) "forth" = some (some (.ref fL)))
 (cl:sD K (.ref CR) "back" = some (some (.ref z))) (cm:sD K (.ref CL) "back" = some (some (.ref I)))
 (uI:K.lookup fI=some ⟨oI,eI,.func (ue "__init__" "Arrow.__init__" (defArgs sI) (defBody sI) (defScope sI) .none kI dI pI aI O tI),lI⟩)
 (uR:K.lookup fR=some ⟨oR,eR,.func (ue "forth" "Right.forth" (defArgs sR) (defBody sR) (defScope sR) .none kR dR pR aR Y c4),lR⟩)
 (uL:K.lookup fL=some ⟨oL,eL,.func (ue "forth" "Left.forth" (defArgs sL) (defBody sL) (defScope sL) .none kL dL pL aL a0 c7),lL⟩)
 (xR:K.lookup z=some ⟨ac,ar,.func (ue "back" "Right.back" (defArgs tR) (defBody tR) (defScope tR) .none kS dS pS bb cS tS),bl⟩)
 (xL:K.lookup I=some ⟨am,as,.func (ue "back" "Left.back" (defArgs tL) (defBody tL) (defScope tL) .none kU dU pU bd cU tU),bm⟩)
 (vI:uY K O "Arrow.__init__" = true) (vR:uY K Y "Right.forth" = true) (vL:uY K a0 "Left.forth" = true) (yR:uY K cS "Right.back" = true) (yL:uY K cU "Left.back" = true)
 (w1:sQ K (.ref fI)=true) (w2:sQ K (.ref fR)=true) (w3:sQ K (.ref fL)=true) (w4:sQ K (.ref z)=true) (w5:sQ K (.ref I)=true)
 (z1:AB K (.ref fI)=true) (z2:AB K (.ref fR)=true) (z3:AB K (.ref fL)=true) (z4:AB K (.ref z)=true) (z5:AB K (.ref I)=true)
 (bR:ao K CR=true) (bL:ao K CL=true) (cR:vM K CR=true) (cL:vM K CL=true) (dA:isCB K J ["Right","Left"] ["Right","Left"]=true) (co:isCB K CR ["Right","Left"] ["Right"]=true) (cq:isCB K CL ["Right","Left"] ["Left"]=true)
 (gI : ∀(kV doc pm:Value) (an:Option Addr) (cdv ct:Value) (us:List Value),us.length=3->bindArgs (ue "__init__" "Arrow.__init__" (defArgs sI) (defBody sI) (defScope sI) .none kV doc pm an cdv ct) ⟨us,[]⟩=pure ((["self","p","table"]:List Str).zip us))
 (gR : ∀(kV doc pm:Value) (an:Option Addr) (cdv ct:Value) (us:List Value),us.length=2->bindArgs (ue "forth" "Right.forth" (defArgs sR) (defBody sR) (defScope sR) .none kV doc pm an cdv ct) ⟨us,[]⟩=pure ((["self","base"]:List Str).zip us))
 (gL : ∀(kV doc pm:Value) (an:Option Addr) (cdv ct:Value) (us:List Value),us.length=2->bindArgs (ue "forth" "Left.forth" (defArgs sL) (defBody sL) (defScope sL) .none kV doc pm an cdv ct) ⟨us,[]⟩=pure ((["self","base"]:List Str).zip us))
 (hR : ∀(kV doc pm:Value) (an:Option Addr) (cdv ct:Value) (us:List Value),us.length=2->bindArgs (ue "back" "Right.back" (defArgs tR) (defBody tR) (defScope tR) .none kV doc pm an cdv ct) ⟨us,[]⟩=pure ((["self","base"]:List Str).zip us))
 (hL : ∀(kV doc pm:Value) (an:Option Addr) (cdv ct:Value) (us:List Value),us.length=2->bindArgs (ue "back" "Left.back" (defArgs tL) (defBody tL) (defScope tL) .none kV doc pm an cdv ct) ⟨us,[]⟩=pure ((["self","base"]:List Str).zip us)):ArrB K mg sI sR sL tR tL:=by
 obtain⟨c1,c2,c3⟩:=Vm bR;obtain⟨d1,d2,d3⟩:=Vm bL;have FI:=wR uI vI w1;have FR:=wR uR vR w2;have FL:=wR uL vL w3;have FS:=wR xR yR w4;have FU:=wR xL yL w5;have gr:=By M G nR;have gl:=By M G nL;exact⟨CR,CL,fI,fR,fL,z,I,_,_,_,_,_,⟨c2,iR,z1,c3⟩,⟨d2,iL,z1,d3⟩,c1,d1,⟨mR,z2,w2⟩,⟨mL,z3,w3⟩,⟨cl,z4,w4⟩,⟨cm,z5,w5⟩,FI,FR,FL,FS,FU,FI.binds gI,FR.binds gR,FL.binds gL,FS.binds hR,FU.binds hL,gr,gl,Xv nR cR,Xv nL cL,⟨J,By M G nA,dA⟩,⟨CR,gr,co⟩,⟨CL,gl,cq⟩⟩
end
def xA(lo:Int)(n:Nat):List D:=(rO n).map λ(i:Nat)=>D.int (lo - (i:Int))
def k5(f g e:CO D):CO (List D):=λγ=>((f γ).bind asI).bind λm=>((g γ).bind asI).bind λn=>((e γ).bind asI).bind λc=>if (inR m=true/\inR n=true)/\c = -1 then some (xA m (m - n).toNat)else none
end DL
namespace L2
open PySem PySem.Spec PyProof.Rows
def Itn(lo:Int)(n:Nat):It:=⟨λi _=>i<n,λi H x H'=>H'=H/\x = .int (lo - i),λi _=>n<=i⟩
theorem K1{P:Program}{w:World}{K:rH}{tg:Expr}(it:Addr)(lo:Int)(n:Nat):Turn P w K tg (Itn lo n) [it] it (λi h=>IsRangeIter h it (lo+(i:Nat) * -1) ((n:Int) - (i:Nat)) (-1)) where
 mem:=by simp
 obj:=λi h st b J=>by
  have e:b=it:=by simpa using J
  subst e;exact⟨_,st,λv z=>by
   have z':Data.fields _=Data.cell v:=z;cases z'⟩
 keep:=λi h h' st k=>k it ⋯ _ st
 item:=by
  intro X O hw Y hc i pins s σ H E I M st hg;subst O hw Y;obtain⟨f0,f1,f2,f3,f4,f5⟩:=M it ⋯;refine(Walks.range (prog:=X.prog) (w:=X.w) (I.ok.hd hc) it lo (-1) n).item i s _ _ hg st λv h' tk hv a7 kk=>?_;obtain⟨t,rfl⟩:=hv;have I1:Inv X pins σ H {s with heap:=h',toks:=tk}:=I.turned (λb o J e=>kk b o (by simpa using J) e) f0 f1 f3 f4 f5;refine⟨_,rfl,W7 (s:={s with heap:=h',toks:=tk}) (n:="range_iterator") a7 rfl rfl ⋯ ⟨.int (lo - i),H,I1,⟨t,?_⟩,⟨rfl,rfl⟩,a7,λb J=>(M b J).1⟩⟩;congr 1;omega
 done:=by
  intro X O hw Y hc i pins s σ H E I M st hg;subst O hw Y;obtain⟨f0,f1,f2,f3,f4,f5⟩:=M it ⋯;exact wpAny_pyNext_range_end (I.ok.hd hc) st (by have:n<=i:=hg;omega) λh' eb=>⟨rfl,I.turned (t':=s.toks) (λb o J e=>eb b o J e) f0 f1 f3 f4 f5⟩
 self:=λ_ _ _ _ _ st h=>wpAny_pyIter_rangeiter st h
section
variable{X:Cx}{tg:Expr}
theorem Z5(a b:Int):Ay a b (-1)=if a>b then a - b else 0:=by
 unfold Ay;rw [if_neg ⋯];split
 ·rw [show -(-1:Int)=1 by decide,Int.ediv_one];omega
 ·rfl
theorem Kc{a b:Int}(ha : -(2 ^ 62)<=a)(z:a<2 ^ 62)(I : -(2 ^ 62)<=b)(J:b<2 ^ 62):Builtin.Range.small a b (-1)=true:=by
 unfold Builtin.Range.small;rw [Z5];simp only [Builtin.Range.rangeFitsLong,sr,uo,decide_eq_true_eq,beq_iff_eq,show ¬((-1:Int)>0)by decide,if_false];split<;>omega
theorem eE{pins:List (Addr×Obj)}{σ:St}{H:Hp}{s:Shared}{R:It->Hp->Prop}{E:Value->Shared->Prop}{lo hi:Int}{t u v:Tok}{tk:Nat}(I:Inv X pins σ H s)(h1 : -(2 ^ 62)<=lo)(h2:lo<2 ^ 62)(M : -(2 ^ 62)<=hi)(O:hi<2 ^ 62)
 (q:R (Itn lo (lo - hi).toNat) H):wpAny (model X.prog X.w) X.A (pyIter (.ref s.heap.objs.size)) (PIE X pins σ tg R) E {s with heap:=s.heap.push {cls:= .type "range",data:= .fields #[.int lo t,.int hi u,.int (-1) v]},toks:=tk}:=by
 refine wpAny_pyIter_range (IsRange.new ..) (Kc h1 h2 M O) ?_;have z:Inv X pins σ H {s with heap:=s.heap.push {cls:= .type "range",data:= .fields #[.int lo t,.int hi u,.int (-1) v]},toks:=tk}:=I.kept λb o e=>rM _ e;refine⟨_,[_],_,_,H,rfl,z.kept (t':=tk) λb o e=>rM _ e,K1 _ lo (lo - hi).toNat,?_,λb J=>?_,q⟩
 ·have e1:lo+((0:Nat):Int) * -1=lo:=by simp
  have e2:(((lo - hi).toNat:Nat):Int) - ((0:Nat):Int)=Ay lo hi (-1):=by rw [Z5];split<;>omega
  show IsRangeIter _ _ (lo+((0:Nat):Int) * -1) ((((lo - hi).toNat:Nat):Int) - ((0:Nat):Int)) (-1);rw [e1,e2];exact sh _ rfl
 ·rw [tK]at J
  subst J;exact z.fpOk (se _) (z.hok.fresh (se _))
def nN(ta:TA):TI:=λσ H R=>ta σ H λvs H1=>∃i j:Int,vs=[.int i,.int j,.int (-1)]/\(-(2 ^ 62)<=i/\i<2 ^ 62/\ -(2 ^ 62)<=j/\j<2 ^ 62)/\R (Itn i (i - j).toNat) H1
theorem YC{a b c:Expr}{ta:TA}{p pos:Pos}(M:Gl X "range")(hm:X.mg "range" = none)(ha:PA X [a,b,c] ta)(O:starEach [a,b,c] X.env=(false,eval a X.env)::starEach [b,c] X.env)(Y:starEach [b,c] X.env=[(false,eval b X.env),(false,eval c X.env)]) :
 PI X tg (.Call (.Name "range" p) [a,b,c] [] pos) (nN ta):=by
 intro pins s σ H R I h;refine Call_ (xp I M hm boot_range (tX (thn (ha pos pins s σ H _ I h) λus s1 hZ=>?_) O (by rw [Y];rfl)));obtain⟨vs,H1,I1,r1,J⟩:=hZ;obtain⟨i,j,e,⟨J,q2,q3,q4⟩,q⟩:=J;subst e;cases r1 with
 | cons r z=>
  cases z with
  | cons r' z=>
   cases z with
   | cons r2 z=>
    cases z;obtain⟨t,rfl⟩:=r;obtain⟨t',rfl⟩:=r';obtain⟨t2,rfl⟩:=r2;exact call_range_3 ⋯ (eE I1 J q2 q3 q4 q) (.inl (PyProof.noPylong_small ⋯))
end
end L2
namespace DL
open PySem PySem.Spec PyProof.Rows L2
theorem KS{K:rH}{H0 Hs:Hp}(lo:Int)(n:Nat):Walk K H0 Hs (Itn lo n) (xA lo n):=by
 have z:(xA lo n).length=n:=by simp [xA]
 refine⟨λi H1 s hi=>?_,λH1 s=>?_,λi H1 x H1' s hi y=>?_⟩
 ·rw [z]at hi;exact hi
 ·rw [z];exact se _
 ·rw [z]at hi
  obtain⟨e1,e2⟩:=y;subst e1 e2;exact⟨.int (lo - i),by simp [xA,hi],λG0 s1 s2=>⟨G0,Ext.refl s2,(show V.int (lo - i) = .int (lo - i)from rfl)⟩⟩
section
variable{X:Cx}{sc:Scope}{N L:List Str}{k:Nat}{e a b c:Expr}{pos p p2:Pos}{f g j:CO D}
theorem Xf{tg:Expr}(h:SX X sc N L k)(z0:xu sc "range" = true)(z:X.mg "range" = none)(ha:PV X a f)(hb:PV X b g)(hc:PV X c j)(O:starEach [a,b,c] X.env=(false,eval a X.env)::starEach [b,c] X.env:=by rfl)(Y:starEach [b,c] X.env=[(false,eval b X.env),(false,eval c X.env)]:=by rfl)(a0:starEach [c] X.env=[(false,eval c X.env)]:=by rfl) :
 PIF X tg (.Call (.Name "range" p) [a,b,c] [] pos) (k5 f g j):=
 Zp (YC (h.gl z0).1 z (zK ha (zK hb (zK hc jw a0) (by rw [Y,a0])) O) O Y) λσ H R hZ=>by
  obtain⟨H0,γ,ds,rc,I,q⟩:=hZ;obtain⟨m,e1,I⟩:=bind_some I;obtain⟨d,e0,e1⟩:=bind_some e1;obtain⟨n,J,I⟩:=bind_some I;obtain⟨c,e2,J⟩:=bind_some J;obtain⟨s,M,I⟩:=bind_some I;obtain⟨c',e4,M⟩:=bind_some M;by_cases hn:(inR m=true/\inR n=true)/\s = -1
  ·rw [if_pos hn]at I;cases I
   refine⟨H0,γ,d,rc,e0,λv H' H0' x r=>⟨H0',γ,c,rc.ext x,e2,λv2 H2 a9 x2 r2=>⟨a9,γ,c',(rc.ext x).ext x2,e4,λv3 H3 an x3 r3=>?_⟩⟩⟩;rw [jy e1]at r;rw [jy J]at r2;rw [jy M,hn.2]at r3;obtain⟨h1,h2⟩:=yc hn.1.1;obtain⟨h3,h4⟩:=yc hn.1.2;exact⟨m,n,by rw [show v = .int m from r,show v2 = .int n from r2,show v3 = .int (-1)from r3],⟨h1,h2,h3,h4⟩,q _ H3 an ((x.trans x2).trans x3) (KS m (m - n).toNat)⟩
  ·rw [if_neg hn]at I;cases I
end
def wZ:List D->Option Res:=jv 1 (zM (sIf (Jc (qd (sB (sIs .str (zd 0)))) (sB (zh dGe (Kf (zd 0)) (zk (.int 6))))) (qB (zk (.bl false))) jS) (qB (Wi (jb (zB (aN (zd 0)) (.nm 0) 1 [] z7 (oV (zd 0) (zC (zk (.tup [.str "r",.str "l"])))))))))
def yx:List D->Option Res:=jv 2 (zM (sIf (Jc (qd (sB (zx QJ (za (zd 1) (za (zk (.int 2)) zy))))) (Jc (qd (sB (zx J3 (za (zd 0) (za (sIx (zf 1) (zk (.int 0))) zy))))) (qd (sB (zx J3 (za (zd 0) (za (sIx (zf 1) (zk (.int 1))) zy))))))) (qB (zk (.bl false))) jS) (qB (zh dLe (sIx (zf 1) (zk (.int 0))) (sIx (zf 1) (zk (.int 1))))))
def VH:List D->Option Res:=jv 2 (xc (zB (vh (zd 0)) (.tp [0,1]) 2 [1] (sB (ym dLe dLe (sIx (zf 1) (zk (.int 0))) (zd 2) (sIx (zf 1) (zk (.int 1))))) (zd 0)))
def QL:List D->Option Res:=jv 3 (zM (zW 2 (ja (zB (zA (zf 0)) (.nm 0) 1 [1] z7 (zI (jb (zB (zA (zf 1)) (.nm 0) 1 [0] z7 (cK (sB (zh dEq (zd 1) (zd 0))) (zk (.int 1)) (zk (.int 0))))))))) (qB (yK (za (wg (zf 0)) (za (wg (zf 1)) (za (zI (zf 2)) zy))))))
def F_law_cell:List D->Option Res:=jv 5 (zM (sIf (vi (sB (zh dGt (wg (zf 0)) (zk (.int 1)))) (sB (zh dEq (zh jA (sIx (zf 0) (zk (.int 0))) (zk (.int 2))) (zk (.int 1))))) (zM (zW 2 (sIx (zf 0) (zh j4 (zk (.int 1)) (zh jA (zd 1) (zh xw (wg (zf 0)) (zk (.int 1))))))) (zM (xY (zJ (cJ (zk (.int 60)) (zh ko (zd 1) (zh xw (wg (zf 0)) (zk (.int 1)))))) (.nm 3) (zW 2 (zh ko (zd 2) (zh eH (zk (.int 10)) (zk (.int 9)))))) (qB (zh jA (zd 2) (zh eH (zk (.int 10)) (zk (.int 9))))))) jS) (zM (zW 4 (zd 1)) (zM (sIf (sB (zh dGt (wg (zf 0)) (zk (.int 0)))) (zW 4 (sIx (zf 0) (zh jA (zd 1) (wg (zf 0))))) jS) (qB (zh jA (zh qg (zh jA (zh j4 (zh j4 (zh j4 (zh qg (zh jA (zd 4) (zh eH (zk (.int 10)) (zk (.int 30)))) (zk (.int 48271))) (zh qg (zh qg (zk (.int 7)) (zd 1)) (zd 1))) (zh qg (zk (.int 13)) (zd 1))) (zk (.int 5))) (zk (.int 2147483647))) (zk (.int 69621))) (zk (.int 1000000007)))))))
def F_led_on:List D->Option Res:=jv 3 (xc (zP F_base_of (za (zd 0) (za (sIx (zf 1) (zk (.int 0))) (za (ja (zB (zA (zf 2)) (.nm 0) 1 [0,1] z7 (zx F_led (za (zd 1) (za (zd 2) (za (zd 0) zy)))))) zy)))))
def F_law_less_k22:List D->Option Res:=jv 4 (xc (zB (Z8 (zd 1) (zd 2)) (.tp [0,1]) 2 [0,3] z7 (zh jA (zh xw (zd 0) (zh qg (zd 3) (zd 1))) (zd 2))))
def F_law_base_k22:List D->Option Res:=jv 9 (zM (zW 3 (ja (zB (zA (zf 2)) (.nm 0) 1 [] z7 (ja (ql (zf 0)))))) (zM (zW 4 (ja (jI zy))) (zM (xY (zJ (zd 1)) (.nm 5) (zM (zW 6 (ja (zB (zA (zf 3)) (.nm 0) 1 [5] (sB (zh dNe (sIx (zf 0) (zd 1)) (zk (.int 0)))) (zd 0)))) (sIf (sB (zh dGt (wg (zf 6)) (zk (.int 0)))) (zM (zW 7 (sIx (jb (zB (zJ (zd 0)) (.nm 0) 1 [0,5,6] (sB (zh dEq (zh jA (zh qg (zd 0) (sIx (zC (sIx (zf 3) (zk (.int 0)))) (zd 2))) (zd 1)) (zk (.int 1)))) (zd 0))) (zk (.int 0)))) (zM (zW 8 (ja (zB (zA (zC (sIx (zf 6) (zk (.int 0))))) (.nm 0) 1 [0,7] z7 (zh jA (zh qg (zd 2) (zd 0)) (zd 1))))) (zM (zW 3 (ja (zB (zA (zf 3)) (.nm 0) 1 [0,5,8] z7 (ja (zP F_law_less_k22 (za (zd 1) (za (zd 0) (za (zd 3) (za (sIx (zf 0) (zd 2)) zy))))))))) (zW 4 (ja (Qc (jb (zB (zA (zf 4)) (.nm 0) 1 [0,5,8] z7 (ja (zP F_law_less_k22 (za (zd 1) (za (zd 0) (za (zd 3) (za (sIx (zf 0) (zd 2)) zy)))))))) (jb (jI (za (zd 8) zy))))))))) jS))) (xc (zB (zA (zf 4)) (.nm 0) 1 [] z7 (zI (zf 0)))))))
def F_law_led_k22:List D->Option Res:=jv 3 (qB (zI (jb (zB (zA (zf 1)) (.nm 0) 1 [0,2] z7 (zh jA (cG (jb (zB (Z8 (zd 0) (zd 2)) (.tp [0,1]) 2 [] z7 (zh qg (zd 0) (zd 1))))) (zd 1))))))
def F_law_all_k22:List D->Option Res:=jv 6 (zM (zW 2 (ja (jI (za (yK zy) zy)))) (zM (xY (zJ (zd 1)) (.nm 3) (zM (qQ 4 (jI zy)) (zM (xY (zA (zC (zd 2))) (.nm 5) (Zg 4 (zB (zJ (zd 0)) (.nm 0) 1 [5] z7 (zh j4 (zd 1) (yK (za (zd 0) zy)))))) (aO 4 (zW 2 (zd 4)))))) (qZ 2)))
def F_law_is_base_k22:List D->Option Res:=jv 4 (zM (sIf (Jc (qd (sB (sIs .list (zd 0)))) (sB (zh dNe (wg (zf 0)) (wg (zf 1))))) (qB (zk (.bl false))) jS) (zM (xY (Z8 (zd 0) (zd 1)) (.tp [2,3]) (sIf (Jc (qd (sB (sIs .tuple (zd 2)))) (Jc (qd (sB (Wi (jb (zB (zA (zf 2)) (.nm 0) 1 [] z7 (zx F_law_whole (za (zd 0) zy))))))) (sB (zh dNe (zd 2) (zd 3))))) (qB (zk (.bl false))) jS)) (qB (zk (.bl true)))))
def F_law_ends_k22:List D->Option Res:=jv 2 (zM (sIf (sB (zh dEq (zd 1) (zk (.str "r")))) (qB (yK (za (zd 0) (za (zh j4 (zd 0) (zk (.int 1))) zy)))) jS) (qB (yK (za (zh j4 (zd 0) (zk (.int 1))) (za (zd 0) zy)))))
def F_law_row_k22:List D->Option Res:=jv 9 (zM (qQ 4 (jI zy)) (zM (xY (qG (zd 1)) (.tp [5,6]) (zM (Jb (.tp [7,8]) (zx F_law_ends_k22 (za (zd 5) (za (zd 6) zy)))) (qH 4 (yK (za (zd 6) (za (yK (za (sIx (zf 2) (zd 8)) (za (sIx (zf 2) (zd 7)) (za (zI (jb (zB (zA (zC (sIx (zf 3) (zd 5)))) (.nm 0) 1 [] z7 (zI (zf 0))))) zy)))) zy)))))) (qB (yK (za (zd 0) (za (zI (zf 2)) (za (zI (zf 4)) zy)))))))
def F_law_ways_k22:List D->Option Res:=jv 4 (zM (zW 2 (zk (.str ""))) (zM (xY (zJ (zh xw (zd 1) (zk (.int 1)))) (.nm 3) (zM (zW 2 (Wh (zd 2) (Z9 (zk (.str "rl")) (zh jA (zd 0) (zk (.int 2)))))) (zW 0 (zh ko (zd 0) (zk (.int 2)))))) (qZ 2)))
def xM:List D->Option Res:=jv 8 (zM (qQ 4 (jI zy)) (zM (xY (zJ (zd 2)) (.nm 5) (zM (zW 6 (zx F_law_cell (za (zd 0) (za (zh j4 (zd 1) (zd 5)) zy)))) (zM (zW 7 (zh jA (zd 6) (zd 3))) (qH 4 (yK (za (zd 7) (za (zh j4 (zd 7) (zh jA (zh ko (zd 6) (zd 3)) (zh xw (zd 3) (zd 7)))) zy))))))) (xc (Ja (zf 4)))))
def F_law_span:List D->Option Res:=jv 7 (zM (We 3 (zI (jb (zB (zJ (zd 1)) (.nm 0) 1 [] z7 (zk (.int 0))))) (zk (.bl true)) (nk (aT 3 (zA (zC (zd 2))) (.nm 4) (Wn 3 (.nm 5) (aT 3 (qk (zk (.int 1)) (zd 0)) (.nm 6) (nq (zI (jb (zB (Z8 (zd 5) (zd 4)) (.tp [0,1]) 2 [0,6] z7 (zh jA (zh j4 (zd 0) (zh qg (zd 3) (zd 1))) (zd 2))))) (zk (.bl true)))))) lW)) (qZ 3))
def qs:List D->Option Res:=jv 6 (zM (qQ 4 (jI zy)) (zM (xY (zJ (zh jA (zx F_law_cell (za (zd 0) (za (zd 1) zy))) (zk (.int 4)))) (.nm 5) (qH 4 (zI (jb (zB (zJ (zd 3)) (.nm 0) 1 [0,1,2,5] z7 (zh jA (zh ko (zx F_law_cell (za (zd 1) (za (zh j4 (zh j4 (zh j4 (zd 2) (zk (.int 1))) (zh qg (zk (.int 5)) (zd 4))) (zd 0)) zy))) (zk (.int 4))) (zd 3))))))) (qZ 4)))
def qO:List D->Option Res:=jv 8 (zM (Jb (.tp [4,5,6]) (zd 1)) (zM (sIf (sB (zd 3)) (xc (zP F_law_base_k22 (za (zd 0) (za (zd 4) (za (ja (zB (zA (zf 2)) (.nm 0) 1 [0,6] z7 (zx F_law_led_k22 (za (zd 1) (za (zd 2) (za (zd 0) zy)))))) zy))))) jS) (zM (zW 7 (zx F_law_span (za (zd 0) (za (zd 4) (za (zd 2) zy))))) (xc (zP F_law_base_k22 (za (zd 0) (za (zd 5) (za (ja (zB (zA (zC (zx F_law_all_k22 (za (zd 0) (za (zd 5) zy))))) (.nm 0) 1 [0,6,7] (sB (zh bC (zx F_law_led_k22 (za (zd 1) (za (zd 2) (za (zd 0) zy)))) (zd 3))) (zd 0))) zy))))))))
def wu:List D->Option Res:=jv 8 (zM (zW 6 (ja (ql (zf 4)))) (zM (zW 7 (ja (zP qO (za (zd 1) (za (zd 2) (za (zd 4) (za (zd 3) zy))))))) (zM (sIf (Jc (qd (sB (zx F_law_is_base_k22 (za (ja (vg F_led_on F_led_into (zd 0) (zd 6))) (za (zd 7) zy))))) (sB (zh dNe (zd 6) (zd 4)))) (qB (zk (.bl false))) jS) (zM (zW 6 (ja (ql (zf 5)))) (zM (zW 7 (ja (zP qO (za (zd 1) (za (zd 2) (za (zd 5) (za (cH (zd 3)) zy))))))) (qB (cM (zx F_law_is_base_k22 (za (ja (vg F_led_into F_led_on (zd 0) (zd 6))) (za (zd 7) zy))) (zh dEq (zd 6) (zd 5)))))))))
abbrev dsq(k:Sk)(xs:List D):D:=match k with | .T=>D.tup xs | .L=>D.lst xs
@[simp] theorem pk(k xs):jE (dsq k xs)=some (k,xs):=by cases k<;>rfl
theorem wY{p:Int}{n:Nat}(k:Sk)(f:Nat->Int)(z:0<p)(hn:n<=lim) :
 F_rests [.int p,dsq k (zD n f)]=some (.val (.tup (zD n λi=>f i%p))):=by
 simp [F_rests,jv,jP,jn,hn,j9];unfold zD;rw [zu (r:=λi=>D.int (f i%p))]
 ·simp
 ·intro i hi
  refine zv rfl rfl ?_;simp [z]
theorem VF{p:Int}{n:Nat}(f:Nat->Int)(z:0<p)(hn:n<=lim) :
 F_rests [.int p,.tup (zD n f)]=some (.val (.tup (zD n λi=>f i%p))):=wY .T f z hn
theorem vX{p:Int}{n:Nat}(f:Nat->Int)(z:0<p)(hn:n<=lim) :
 F_rests [.int p,.lst (zD n f)]=some (.val (.tup (zD n λi=>f i%p))):=wY .L f z hn
theorem aD{p:Int}{h w:Nat}(k:Sk)(f:Nat->Nat->Int)(g:Nat->Int)(I:0<p)(z:h<=lim)(hw:w<=lim)(J : ∀i j,i<h->j<w->0<=f i j/\f i j<100) :
 F_led [.int p,xU h w f,dsq k (zD w g)]=some (.val (.tup (zD h λi=>sumTo (λj=>f i j*g j) w%p))):=by
 simp [F_led,jv,jP,jn,z,j9,xU,rY];unfold zG;rw [zu (r:=λi=>D.int (sumTo (λj=>f i j*g j) w))]
 ·simp
  rw [show(uy (λi=>D.int (sumTo (λj=>f i j*g j) w)) (rO h))=zD h λi=>sumTo (λj=>f i j*g j) w from rfl,vX _ I z];rfl
 ·intro i hi
  refine zv rfl rfl ?_;simp [jn,xN,hw];rw [zu (r:=λj=>D.int (f i j*g j))]
  ·simp
   rw [show(uy (λj=>D.int (f i j*g j)) (rO w))=zD w λj=>f i j*g j from rfl,y9]
  ·intro j M
   refine zv rfl rfl ?_;have:=J i j (rV.mp hi) (rV.mp M);simp [qi (f i j) (g j) ⋯ ⋯]
theorem VG{h w:Nat}(f:Nat->Nat->Int)(z:h<=lim)(hw:w<=lim):F_turned_over [xU h w f]=some (.val (xU w h λi j=>f j i)):=by
 simp [F_turned_over,jv,jP,jn,z,hw,j9,xU,rY,jh,je];rw [zF w λi=>(i:Int)];rw [zu (r:=λj=>D.tup (zD h λi=>f i j))]
 ·simp
  rfl
 ·intro j I
  refine zv rfl rfl ?_;simp [jn,z,j9];unfold zG;rw [zu (r:=λi=>D.int (f i j))]
  ·simp
   rfl
  ·intro i hi
   refine zv rfl rfl ?_;have h1:=rV.mp I;simp [h1,yU _ h1]
theorem VE{n:Nat}(hn:n<=lim):F_same_table [.int n]=some (.val (xU n n λi j=>if i=j then 1 else 0)):=by
 simp [F_same_table,jv,jP,jh,hn,jn,j9,rY,je];rw [zF n λi=>(i:Int)];rw [zu (r:=λi=>D.tup (zD n λj=>if i=j then 1 else 0))]
 ·simp
  rfl
 ·intro i hi
  refine zv rfl rfl ?_;simp [hn,jn,rY,je,j9];rw [zF n λi=>(i:Int)];rw [zu (r:=λj=>D.int (if i=j then 1 else 0))]
  ·simp
   rfl
  ·intro j z
   refine zv rfl rfl ?_;simp;by_cases e:i=j
   ·simp [e]
   ·rw [if_neg ⋯,if_neg e]
def xV(ns:List Int):D:= .lst (ns.map D.int)
mutual
theorem eqD_refl : ∀d:D,eqD d d=true
 | .non=>rfl
 | .bl b=>by simp [eqD]
 | .int i=>by simp [eqD]
 | .str x=>by simp [eqD]
 | .tup xs=>by simp only [eqD];exact eqDs_refl xs
 | .lst xs=>by simp only [eqD];exact eqDs_refl xs
 | .exc c n=>by simp [eqD]
 | .dic a b=>by simp only [eqD];rw [eqDs_refl a,eqDs_refl b];rfl
 | .dct a b=>by simp only [eqD];rw [eqDs_refl b];simp
 | .ins a b c=>by simp only [eqD];rw [eqD_refl b,eqD_refl c];simp
theorem eqDs_refl : ∀ds:List D,eqDs ds ds=true
 | []=>rfl
 | d::ds=>by simp only [eqDs,eqD_refl d,eqDs_refl ds,Bool.and_self]
end
theorem ZC : ∀{l:List D} {n:Nat},(∀d∈l,deep d<=n)->deeps l<=n
 | [],n,_=>tZ n
 | d::ds,n,h=>by
  simp only [deeps];exact Nat.max_le.mpr ⟨h d rX,ZC λe he=>h e (sd _ he)⟩
theorem XB(n f):deep (.tup (zD n f))<=1:=by
 simp only [deep];have:deeps (zD n f)<=0:=ZC λd hd=>by
  simp [zD]at hd;obtain⟨i,_,rfl⟩:=hd;exact se _
 omega
theorem ae(h w f):deep (.tup (zG h w f))<=2:=by
 simp only [deep];have:deeps (zG h w f)<=1:=ZC λd hd=>by
  simp [zG]at hd;obtain⟨i,_,rfl⟩:=hd;exact XB _ _
 omega
theorem Qp : ∀{l:List D},(∀d∈l,okS d=true)->okSs l=true
 | [],_=>rfl
 | d::ds,h=>by simp only [okSs,h d rX,Qp λe he=>h e (sd _ he),Bool.and_self]
theorem bo{d:D}{n:Nat}(h:deep d<=n)(hn:n<=20)(h2:okS d=true):okD d=true:=by
 unfold okD;rw [h2,Bool.and_true];exact decide_eq_true (tP h hn)
theorem YM(n f):okS (.tup (zD n f))=true:=by
 simp only [okS];exact Qp λd hd=>by
  simp [zD]at hd;obtain⟨i,_,rfl⟩:=hd;rfl
theorem dM(h w f):okS (.tup (zG h w f))=true:=by
 simp only [okS];exact Qp λd hd=>by
  simp [zG]at hd;obtain⟨i,_,rfl⟩:=hd;exact YM _ _
theorem dN(n f):okD (.tup (zD n f))=true:=bo (XB n f) ⋯ (YM n f)
theorem ZD{d:D}(h:okD d=true):dNe d d=some (.bl false):=by unfold dNe;rw [if_pos ⟨h,h⟩,eqD_refl];rfl
theorem QH(i:Int):F_law_whole [.int i]=some (.val (.bl true)):=by
 simp [F_law_whole,jv,jP,Y0]
theorem ZZ{α:Type}(l:List α):y7 (l.map λ_=>D.bl true)=some (l.map λ_=>true):=by
 induction l with
 | nil=>rfl
 | cons a l z=>simp [y7,lS,z]
theorem aB{α:Type}(l:List α):((l.map λ_=>true).all id)=true:=by
 induction l with
 | nil=>rfl
 | cons a l z=>simp [z]
theorem Kt{m:Int}(k:Int)(z:0<k) : ∃n:Nat,m%k=n/\(n:Int)<k:=by
 have h1:=sU m (show k≠0 by omega);have h2:=sG m z;obtain⟨n,hn⟩:=tW h1;exact⟨n,hn,by omega⟩
def wch(b:Bool):Nat:=if b then 108 else 114
def qt(c:Nat):Str:=⟨#[c]⟩
theorem wM : ∀(l:List Nat),(Str.join "" (l.map qt)).cps.toList=l
 | []=>rfl
 | [c]=>rfl
 | c::d::l=>by
  have z:=wM (d::l);show((qt c++("" : Str))++Str.join "" ((d::l).map qt)).cps.toList=_;have e : ∀a b:Str,(a++b).cps.toList=a.cps.toList++b.cps.toList:=λa b=>by
   show(a.cps++b.cps).toList=_;simp
  rw [e,e,z];rfl
def qc(m:Nat)(w:Nat->Bool):Str:=Str.join "" ((rO m).map λk=>qt (wch (w k)))
theorem xP(m w):(qc m w).cps.toList=(rO m).map λk=>wch (w k):=by
 have:=wM ((rO m).map λk=>wch (w k));rw [uh]at this;exact this
theorem QQ(m w):(qc m w).length=m:=by
 show(qc m w).cps.size=m;rw [<- uG,xP];simp
theorem xO{m:Nat}(w)(hm:m<=1000):jg (qc m w)=true:=decide_eq_true (by rw [QQ];exact hm)
def hiW(w:Nat->Bool)(wd:Nat->Nat)(k:Nat):Nat:=if w k then wd k else wd (k+1)
def wiW(w:Nat->Bool)(wd:Nat->Nat)(k:Nat):Nat:=if w k then wd (k+1)else wd k
def bF(w:Nat->Bool)(wd:Nat->Nat)(T:Nat->Nat->Nat->Int)(k:Nat):D:= .tup [.str (qt (wch (w k))),xU (hiW w wd k) (wiW w wd k) (T k)]
def xJ(m:Nat)(w:Nat->Bool)(wd:Nat->Nat)(T:Nat->Nat->Nat->Int):List D:=(rO m).map (bF w wd T)
def qv(p:Int)(m:Nat)(w:Nat->Bool)(wd:Nat->Nat)(T:Nat->Nat->Nat->Int):D:= .tup [.int p,.tup (zD (m+1) λk=>(wd k:Int)),.tup (xJ m w wd T)]
@[simp] theorem lD(m w wd T):(xJ m w wd T).length=m:=by simp [xJ]
theorem iw(b:Bool):okD (.str (qt (wch b)))=true:=by cases b<;>decide +kernel
theorem eB(b:Bool):dEq (.str (qt (wch b))) (.str "r")=some (.bl (!b)):=by
 have e : ∀b:Bool,(qt (wch b)==(uB "r")) = !b:=by decide +kernel
 have z:okD (.str (uB "r"))=true:=by decide +kernel
 unfold dEq;rw [if_pos ⟨iw b,z⟩];show some (D.bl (qt (wch b)==uB "r"))=_;rw [e]
section
variable{p:Int}
def jQ(h w:Nat)(f:Nat->Nat->Int):List D:=(rO h).map λi=>D.lst (zD w (f i))
@[simp] theorem ll(h w f):(jQ h w f).length=h:=by simp [jQ]
end
theorem j6{f g:Nat->Int} : ∀{n:Nat},(∀k,k<n->f k=g k)->sumTo f n=sumTo g n
 | 0,_=>rfl
 | n+1,h=>by
  simp only [sumTo];rw [j6 (n:=n) λk z=>h k ⋯,h n ⋯]
theorem qj(n:Nat):sumTo (λ_=>0) n=0:=by
 induction n with
 | zero=>rfl
 | succ n z=>simp [sumTo,z]
theorem j5{f:Nat->Int}{n i:Nat}(hi:i<n)(h : ∀k,k<n->k≠i->f k=0):sumTo f n=f i:=by
 induction n with
 | zero=>omega
 | succ n z=>
  simp only [sumTo];by_cases e:i=n
  ·subst e
   rw [j6 (g:=λ_=>0) (λk I=>h k ⋯ ⋯),qj];omega
  ·rw [z ⋯ λk I=>h k ⋯,h n ⋯ ⋯]
   omega
theorem qT(f g:Nat->Int)(n:Nat):sumTo (λk=>f k+g k) n=sumTo f n+sumTo g n:=by
 induction n with
 | zero=>rfl
 | succ n z=>simp only [sumTo,z];omega
theorem kZ(f:Nat->Int)(c:Int)(n:Nat):sumTo (λk=>c*f k) n=c*sumTo f n:=by
 induction n with
 | zero=>simp [sumTo]
 | succ n z=>simp only [sumTo,z,Cm]
theorem jT{p:Int}{f g:Nat->Int} : ∀{n:Nat},(∀k,k<n->f k%p=g k%p)->sumTo f n%p=sumTo g n%p
 | 0,_=>rfl
 | n+1,h=>by
  simp only [sumTo];rw [sA,jT (n:=n) (λk z=>h k ⋯),h n ⋯,<- sA]
abbrev Vc:=Nat->Int
def Pr(p:Int):Prop:=p=2\/p=3\/p=5\/p=7
theorem Pr.pos{p:Int}(h:Pr p):0<p:=by unfold Pr at h;omega
theorem Pr.two{p:Int}(h:Pr p):2<=p:=by unfold Pr at h;omega
theorem Pr.le{p:Int}(h:Pr p):p<=7:=by unfold Pr at h;omega
theorem Pr.one{p:Int}(h:Pr p):(1:Int)%p=1:=Ax ⋯ (by have:=h.two;omega)
inductive Span(p:Int)(n:Nat)(G:Vc->Prop):Vc->Prop where
 | zero {v:Vc}:(∀i,i<n->v i%p=0)->Span p n G v
 | step {v w g:Vc} {c:Int}:G g->Span p n G w->(∀i,i<n->v i%p=(w i+c*g i)%p)->Span p n G v
section
variable{p:Int}{n:Nat}{G G':Vc->Prop}
theorem Span.congr{v z:Vc}(h:Span p n G v)(e : ∀i,i<n->z i%p=v i%p):Span p n G z:=by
 cases h with
 | zero h=>exact .zero λi hi=>by rw [e i hi,h i hi]
 | step I hw h=>exact .step I hw λi hi=>by rw [e i hi,h i hi]
theorem Span.gen{g:Vc}(h:G g):Span p n G g:= .step (c:=1) h (.zero (v:=λ_=>0) λi _=>by simp) λi _=>by simp
theorem Span.add{v w:Vc}(z:Span p n G v)(hw:Span p n G w) : ∀c:Int,Span p n G λi=>w i+c*v i:=by
 induction z with
 | zero h=>
  intro c;refine hw.congr λi hi=>?_;rw [sA,so,h i hi];simp
 | @step v w' g c' I M h J=>
  intro c;refine .step (c:=c*c') I (J c) λi hi=>?_;have e:(c*v i)%p=(c*(w' i+c'*g i))%p:=by rw [so,h i hi,<- so]
  rw [sA,e,<- sA];congr 1;rw [Cm,<- Int.mul_assoc,Int.add_assoc]
theorem Span.smul{v:Vc}(z:Span p n G v)(c:Int):Span p n G λi=>c*v i:=
 (z.add (w:=λ_=>0) (.zero λi _=>by simp) c).congr λi _=>by simp
theorem Span.le{v:Vc}(h:Span p n G v)(z : ∀g,G g->Span p n G' g):Span p n G' v:=by
 induction h with
 | zero h=>exact .zero h
 | step I hw h J=>exact((z _ I).add J _).congr h
end
structure IsB(p:Int)(n r:Nat)(B:Nat->Vc)(l:Nat->Nat):Prop where
 lt : ∀k,k<r->l k<n
 mono : ∀k m,k<m->m<r->l k<l m
 one : ∀k,k<r->B k (l k)=1
 bef : ∀k j,k<r->j<l k->B k j=0
 oth : ∀k m,k<r->m<r->m≠k->B k (l m)=0
 rng : ∀k i,k<r->i<n->0<=B k i/\B k i<p
def Fam(r:Nat)(B:Nat->Vc):Vc->Prop:=λv=>∃k,k<r/\v=B k
section
variable{p:Int}{n r r':Nat}{B B':Nat->Vc}{l l':Nat->Nat}
theorem eO(I:IsB p n r B l){v:Vc}(h:Span p n (Fam r B) v) : ∀i,i<n->v i%p=sumTo (λk=>v (l k)*B k i) r%p:=by
 induction h with
 | @zero v h=>
  intro i hi;rw [h i hi];have:sumTo (λk=>v (l k)*B k i) r%p=sumTo (λ_=>0) r%p:=jT λk z=>by rw [so,h _ (I.lt k z)];simp
  rw [this,qj];rfl
 | @step v w g c J hw h M=>
  intro i hi;obtain⟨m,hm,rfl⟩:=J;rw [h i hi];have e1:sumTo (λk=>v (l k)*B k i) r%p=sumTo (λk=>w (l k)*B k i+c*B m (l k)*B k i) r%p:=jT λk z=>by
   rw [so,h _ (I.lt k z),<- so,Int.add_mul]
  have e2:sumTo (λk=>c*B m (l k)*B k i) r=c*B m i:=by
   rw [j5 (i:=m) hm λk z O=>by rw [I.oth m k hm z O];simp,I.one m hm];simp
  rw [e1,qT,e2,sA,M i hi,<- sA]
theorem YX(z:IsB p n r B l){v:Vc}(h:Span p n (Fam r B) v){j:Nat}(J:j<n)(h0:v j%p≠0)(M : ∀i,i<j->v i%p=0) : ∃k,k<r/\l k=j:=by
 apply uX;intro O;apply h0;rw [eO z h j J];have:sumTo (λk=>v (l k)*B k j) r%p=sumTo (λ_=>0) r%p:=jT λk I=>by
  have Y:l k≠j:=λe=>O ⟨k,I,e⟩;rcases ud (l k) j with q | q
  ·rw [so,M _ q];simp
  ·rw [z.bef k j I ⋯];simp
 rw [this,qj];rfl
theorem Xu(J : ∀k m,k<m->m<r->l k<l m)(M : ∀k m,k<m->m<r'->l' k<l' m)(s1 : ∀k,k<r->∃m,m<r'/\l' m=l k)(s2 : ∀k,k<r'->∃m,m<r/\l m=l' k) :
 ∀k,k<r->k<r'/\l k=l' k:=by
 intro k
 induction k using Nat.strongRecOn with
 | ind k O=>
  intro Y;obtain⟨m,hm,em⟩:=s1 k Y;have a2:k<=m:=by
   rcases ud m k with q | q
   ·have:=(O m q ⋯).2
    have:=J m k q Y;omega
   ·exact q
  have I:k<r':=by omega
  refine⟨I,?_⟩;obtain⟨q,hq,eq⟩:=s2 k I;have a4:k<=q:=by
   rcases ud q k with z | z
   ·have:=(O q z ⋯).2
    have:=M q k z I;omega
   ·exact z
  rcases ud k m with z | z
  ·have h1:=M k m z hm
   have h2:l k<=l q:=by
    rcases ud k q with y | y
    ·exact BS (J k q y hq)
    ·have:k=q:=by omega
     subst this;exact se _
   omega
  ·have:m=k:=by omega
   subst this;exact em.symm
theorem JZ(Y:Pr p)(I:IsB p n r B l)(J:IsB p n r' B' l')(h1 : ∀v,Span p n (Fam r B) v->Span p n (Fam r' B') v)(h2 : ∀v,Span p n (Fam r' B') v->Span p n (Fam r B) v) :
 r=r'/\(∀k,k<r->l k=l' k)/\∀k i,k<r->i<n->B k i=B' k i:=by
 have one:=Y.one;have s1 : ∀k,k<r->∃m,m<r'/\l' m=l k:=λk z=>YX J (h1 _ (.gen ⟨k,z,rfl⟩)) (I.lt k z) (by rw [I.one k z,one];decide) λi hi=>by rw [I.bef k i z hi];simp
 have s2 : ∀k,k<r'->∃m,m<r/\l m=l' k:=λk z=>YX I (h2 _ (.gen ⟨k,z,rfl⟩)) (J.lt k z) (by rw [J.one k z,one];decide) λi hi=>by rw [J.bef k i z hi];simp
 have e1:=Xu I.mono J.mono s1 s2;have e2:=Xu J.mono I.mono s2 s1;have er:r=r':=by
  rcases Nat.lt_trichotomy r r' with q | q | q
  ·exact absurd (e2 r q).1 (uz _)
  ·exact q
  ·exact absurd (e1 r' q).1 (uz _)
 subst er;refine⟨rfl,λk z=>(e1 k z).2,λk i z hi=>?_⟩;have c:=eO J (h1 _ (.gen ⟨k,z,rfl⟩)) i hi;rw [j5 (i:=k) z λm hm a1=>by rw [<- (e1 m hm).2,I.oth k m z hm a1];simp,<- (e1 k z).2,I.one k z,Int.one_mul]at c;have M:=I.rng k i z hi;have O:=J.rng k i z hi;rw [Ax M.1 M.2,Ax O.1 O.2]at c;exact c
end
theorem ju{α:Type}{T:Tg}{k:CO Bool}{f:CO D}{γ:Ctx}{g:α->D}(q:α->Bool)(r:α->D) : ∀(l:List α),(∀x∈l,∃γ1,jx T (g x) γ=some γ1/\k γ1=some (q x)/\(q x=true->f γ1=some (r x)))->
 zN T k f γ (l.map g)=some ((l.filter q).map r)
 | [],_=>rfl
 | x::l,h=>by
  obtain⟨γ1,h1,h2,I⟩:=h x rX;have z:=ju q r l λy J=>h y (sd _ J);simp only [sJ,zN,h1,h2,rL];cases e:q x with
  | true=>simp [I e,z,e]
  | false=>simp [z,e]
theorem iP{p x:Int}(z:Pr p)(h0:0<x)(h1:x<p) : ∃y:Nat,1<=y/\(y:Int)<p/\(y:Int)*x%p=1:=by
 rcases z with rfl | rfl | rfl | rfl
 ·obtain rfl:x=1:=by omega
  exact⟨1,by decide,by decide,by decide⟩
 ·rcases (show x=1\/x=2 by omega)with rfl | rfl
  ·exact⟨1,by decide,by decide,by decide⟩
  ·exact⟨2,by decide,by decide,by decide⟩
 ·rcases (show x=1\/x=2\/x=3\/x=4 by omega)with rfl | rfl | rfl | rfl
  ·exact⟨1,by decide,by decide,by decide⟩
  ·exact⟨3,by decide,by decide,by decide⟩
  ·exact⟨2,by decide,by decide,by decide⟩
  ·exact⟨4,by decide,by decide,by decide⟩
 ·rcases (show x=1\/x=2\/x=3\/x=4\/x=5\/x=6 by omega)with rfl | rfl | rfl | rfl | rfl | rfl
  ·exact⟨1,by decide,by decide,by decide⟩
  ·exact⟨4,by decide,by decide,by decide⟩
  ·exact⟨5,by decide,by decide,by decide⟩
  ·exact⟨2,by decide,by decide,by decide⟩
  ·exact⟨3,by decide,by decide,by decide⟩
  ·exact⟨6,by decide,by decide,by decide⟩
theorem JK{q:Nat->Bool}{n a:Nat}{jV:List Nat}(h:(rO n).filter q=a::jV):a<n/\q a=true/\∀i,i<a->q i=false:=by
 have hm:a∈(rO n).filter q:=by rw [h];exact rX
 refine⟨rV.mp (sT.mp hm).1,(sT.mp hm).2,λi hi=>?_⟩;apply uX;intro z;have I:q i=true:=by simpa using z
 have J:i∈a::jV:=by rw [<- h];exact sT.mpr ⟨rV.mpr (by have:=rV.mp (sT.mp hm).1;omega),I⟩
 have M:(a::jV).Pairwise (· < ·):=by rw [<- h];exact List.Pairwise.filter _ List.pairwise_lt_range
 rcases si.mp J with e | e
 ·omega
 ·have:=(List.pairwise_cons.mp M).1 i e;omega
theorem YO{q:Nat->Bool}{n:Nat}(h:(rO n).filter q=[]) : ∀i,i<n->q i=false:=λi hi=>by
 apply uX;intro z;have:i∈(rO n).filter q:=sT.mpr ⟨rV.mpr hi,by simpa using z⟩;rw [h]at this;simp at this
theorem yz{p x:Int}(z:Pr p)(h0:0<x)(h1:x<p) : ∃y,F_inverse [.int p,.int x]=some (.val (.int y))/\1<=y/\y<p/\x*y%p=1:=by
 rcases z with rfl | rfl | rfl | rfl
 ·have:x=1:=by omega
  subst this;exact⟨1,rfl,by decide,by decide,by decide⟩
 ·have:x=1\/x=2:=by omega
  rcases this with rfl | rfl
  ·exact⟨1,rfl,by decide,by decide,by decide⟩
  ·exact⟨2,rfl,by decide,by decide,by decide⟩
 ·have:x=1\/x=2\/x=3\/x=4:=by omega
  rcases this with rfl | rfl | rfl | rfl
  ·exact⟨1,rfl,by decide,by decide,by decide⟩
  ·exact⟨3,rfl,by decide,by decide,by decide⟩
  ·exact⟨2,rfl,by decide,by decide,by decide⟩
  ·exact⟨4,rfl,by decide,by decide,by decide⟩
 ·have:x=1\/x=2\/x=3\/x=4\/x=5\/x=6:=by omega
  rcases this with rfl | rfl | rfl | rfl | rfl | rfl
  ·exact⟨1,rfl,by decide,by decide,by decide⟩
  ·exact⟨4,rfl,by decide,by decide,by decide⟩
  ·exact⟨5,rfl,by decide,by decide,by decide⟩
  ·exact⟨2,rfl,by decide,by decide,by decide⟩
  ·exact⟨3,rfl,by decide,by decide,by decide⟩
  ·exact⟨6,rfl,by decide,by decide,by decide⟩
theorem yA{p:Int}(I:Pr p){n t:Nat}(hn:n<=lim)(z:t<n)(w P:Nat->Int)(hw : ∀i,i<n->0<=w i/\w i<p) :
 F_cleared [.int p,.tup (zD n w),.tup (zD n P),.int t]=some (.val (.tup (zD n λi=>(w i - w t*P i)%p))):=by
 have M:=hw t z;have O:=I.le;have J : ∀x,yw (w t) x=true:=λx=>qi _ _ ⋯ ⋯;by_cases h0:w t=0
 ·simp [F_cleared,jv,jP,jh,z,h0]
  apply Xy;intro i hi;rw [Ax (hw i hi).1 (hw i hi).2]
 ·simp [F_cleared,jv,jP,jh,z,h0,xN,hn,jn,j9,rY]
  rw [zu (r:=λi=>D.int (w i - w t*P i))]
  ·rw [<- zF]
   simp [vX _ I.pos hn]
  ·intro i hi
   refine zv rfl rfl ?_;simp [J]
theorem Zt{l:Nat->Nat}{r t:Nat}(hm : ∀k m,k<m->m<r->l k<l m)(z : ∀k,k<r->l k<t):r<=t:=by
 have I : ∀k,k<r->k<=l k:=by
  intro k
  induction k with
  | zero=>intro _;exact tZ _
  | succ k J=>
   intro M;have h1:=J ⋯;have h2:=hm k (k+1) ⋯ M;omega
 cases r with
 | zero=>exact tZ _
 | succ r=>
  have h1:=I r ⋯;have h2:=z r ⋯;omega
def yW:CO Fl:=(zM (zW 6 (ja (zB (zA (zf 3)) (.nm 0) 1 [5] (sB (zh dNe (sIx (zf 0) (zd 1)) (zk (.int 0)))) (zd 0)))) (zM (sIf (qd (Wd (zf 6))) Wg jS) (zM (zW 7 (zx F_inverse (za (zd 0) (za (sIx (zC (sIx (zf 6) (zk (.int 0)))) (zd 5)) zy)))) (zM (zW 8 (zx F_rests (za (zd 0) (za (ja (zB (zA (zC (sIx (zf 6) (zk (.int 0))))) (.nm 0) 1 [7] z7 (zh qg (zd 1) (zd 0)))) zy)))) (zM (zW 3 (ja (zB (zA (zf 3)) (.nm 0) 1 [0,5,8] z7 (zx F_cleared (za (zd 1) (za (zd 0) (za (zd 3) (za (zd 2) zy)))))))) (qQ 4 (Qc (jb (zB (zA (zf 4)) (.nm 0) 1 [0,5,8] z7 (zx F_cleared (za (zd 1) (za (zd 0) (za (zd 3) (za (zd 2) zy))))))) (jb (jI (za (zd 8) zy))))))))))
def Un(r:Nat)(B:Nat->Vc)(m:Nat)(W:Nat->Vc):Vc->Prop:=λv=>Fam r B v\/Fam m W v
structure BInv(p:Int)(n m:Nat)(W:Nat->Vc)(t r:Nat)(B:Nat->Vc)(l:Nat->Nat)(Wt:Nat->Vc):Prop where
 rng : ∀j i,j<m->i<n->0<=Wt j i/\Wt j i<p
 zer : ∀j i,j<m->i<t->Wt j i=0
 isb:IsB p n r B l
 lt : ∀k,k<r->l k<t
 span : ∀v,Span p n (Un r B m Wt) v↔Span p n (Fam m W) v
section
variable{p:Int}{n m:Nat}{W:Nat->Vc}{t r:Nat}{B:Nat->Vc}{l:Nat->Nat}{Wt:Nat->Vc}
theorem BInv.skip(h:BInv p n m W t r B l Wt)(I : ∀j,j<m->Wt j t=0):BInv p n m W (t+1) r B l Wt:=
 ⟨h.rng,λj i z hi=>by
  rcases ud i t with q | q
  ·exact h.zer j i z q
  ·have:i=t:=by omega
   subst this;exact I j z,h.isb,λk J=>tJ (h.lt k J),h.span⟩
def clr(p:Int)(P:Vc)(t:Nat)(w:Vc):Vc:=λi=>(w i - w t*P i)%p
def Jy(p:Int)(P:Vc)(t r:Nat)(B:Nat->Vc):Nat->Vc:=λk=>if k<r then clr p P t (B k)else P
def WO(t r:Nat)(l:Nat->Nat):Nat->Nat:=λk=>if k<r then l k else t
theorem XI{G:Vc->Prop}{P w:Vc}(z:Span p n G P)(hw:Span p n G w):Span p n G (clr p P t w):=
 (z.add hw (-(w t))).congr λi _=>by unfold clr;rw [tD];congr 1;rw [Int.neg_mul];omega
theorem aK{G:Vc->Prop}{P w:Vc}(z:Span p n G P)(hw:Span p n G (clr p P t w)):Span p n G w:=
 (z.add hw (w t)).congr λi _=>by
   unfold clr;rw [sA,tD,<- sA];congr 1;omega
theorem BInv.next(hp:Pr p)(h:BInv p n m W t r B l Wt)(ht:t<n){M:Nat}(a7:M<m){y:Int}(hy:Wt M t*y%p=1){P:Vc}(O : ∀i,i<n->P i=y*Wt M i%p) :
 BInv p n m W (t+1) (r+1) (Jy p P t r B) (WO t r l) (λj=>clr p P t (Wt j)):=by
 have p0:=hp.pos;have one:=hp.one;have Pt:P t=1:=by rw [O t ht,CB];exact hy
 have Pz : ∀i,i<t->P i=0:=λi hi=>by rw [O i ⋯,h.zer M i a7 hi];simp
 have ap : ∀i,i<n->0<=P i/\P i<p:=λi hi=>by rw [O i hi];exact⟨sU _ ⋯,sG _ p0⟩
 have cr : ∀(w:Vc) i,0<=clr p P t w i/\clr p P t w i<p:=λw i=>⟨sU _ ⋯,sG _ p0⟩;have Y : ∀(w:Vc) i,i<t->0<=w i->w i<p->clr p P t w i=w i:=λw i hi h1 h2=>by
  unfold clr;rw [Pz i hi,Bu,Int.sub_zero];exact Ax h1 h2
 have ct : ∀w:Vc,clr p P t w t=0:=λw=>by unfold clr;rw [Pt,Ck,Int.sub_self];simp
 refine⟨λj i J hi=>cr _ _,λj i J hi=>?_,⟨λk I=>?_,λk q ar hq=>?_,λk I=>?_,λk j I J=>?_,λk q I hq ax=>?_,λk i I hi=>?_⟩,λk I=>?_,λv=>?_⟩
 ·rcases ud i t with q | q
  ·have e:=h.zer j i J q
   rw [Y _ i q ⋯ ⋯];exact e
  ·have:i=t:=by omega
   subst this;exact ct _
 ·unfold WO;split
  ·rename_i q;exact h.isb.lt k q
  ·exact ht
 ·unfold WO
  have I:k<r:=by omega
  rw [if_pos I];split
  ·rename_i z;exact h.isb.mono k q ar z
  ·exact h.lt k I
 ·unfold WO Jy;split
  ·rename_i q
   have e:=h.isb.one k q;have hl:=h.lt k q;rw [Y _ _ hl ⋯ (by have:=hp.two;omega)];exact e
  ·exact Pt
 ·unfold Jy;unfold WO at J;split at J
  ·rename_i q
   have e:=h.isb.bef k j q J;have hl:=h.lt k q;rw [if_pos q,Y _ _ ⋯ ⋯ ⋯];exact e
  ·rename_i q
   rw [if_neg q];exact Pz j J
 ·unfold Jy WO
  by_cases z1:k<r
  ·rw [if_pos z1]
   by_cases z2:q<r
   ·rw [if_pos z2]
    have e:=h.isb.oth k q z1 z2 ax;have hl:=h.lt q z2;rw [Y _ _ hl ⋯ ⋯];exact e
   ·rw [if_neg z2];exact ct _
  ·rw [if_neg z1]
   have z2:q<r:=by omega
   rw [if_pos z2];exact Pz _ (h.lt q z2)
 ·unfold Jy;split
  ·exact cr _ _
  ·exact ap i hi
 ·unfold WO;split
  ·rename_i q;exact tJ (h.lt k q)
  ·exact uC _
 ·rw [<- h.span v]
  have a3:Span p n (Un r B m Wt) P:=((Span.gen (p:=p) (n:=n) (G:=Un r B m Wt) (g:=Wt M) (.inr ⟨M,a7,rfl⟩)).smul y).congr λi hi=>by rw [O i hi,tD]
  have am:Span p n (Un (r+1) (Jy p P t r B) m λj=>clr p P t (Wt j)) P:= .gen (.inl ⟨r,uC r,by unfold Jy;rw [if_neg (uz r)]⟩);constructor
  ·refine λhv=>hv.le λg hg=>?_
   rcases hg with⟨k,I,rfl⟩ | ⟨j,J,rfl⟩
   ·unfold Jy;split
    ·rename_i q;exact XI a3 (.gen (.inl ⟨k,q,rfl⟩))
    ·exact a3
   ·exact XI a3 (.gen (.inr ⟨j,J,rfl⟩))
  ·refine λhv=>hv.le λg hg=>?_
   rcases hg with⟨k,I,rfl⟩ | ⟨j,J,rfl⟩
   ·refine aK (t:=t) am (.gen (.inl ⟨k,tJ I,?_⟩))
    unfold Jy;rw [if_pos I]
   ·exact aK (t:=t) am (.gen (.inr ⟨j,J,rfl⟩))
theorem BInv.done(h:BInv p n m W n r B l Wt)(v:Vc):Span p n (Fam r B) v↔Span p n (Fam m W) v:=by
 rw [<- h.span v];constructor
 ·exact λI=>I.le λg z=> .gen (.inl z)
 ·refine λI=>I.le λg z=>?_
  rcases z with z | ⟨j,J,rfl⟩
  ·exact .gen z
  ·exact .zero λi hi=>by rw [h.zer j i J hi];simp
theorem Vi(I:True)(P:Vc):zG (r+1) n (Jy p P t r B)=zG r n (λk=>clr p P t (B k))++[.tup (zD n P)]:=by
 unfold zG;rw [uN,uf];congr 1
 ·apply sf
  intro k z;have:=rV.mp z;simp [Jy,this]
 ·simp [Jy]
end
theorem yB{p:Int}(Y:Pr p){n m:Nat}(hn:n<=100)(hm:m<=lim)(kk:Sk)(W:Nat->Vc) :
 ∃r B l,F_base_of [.int p,.int n,dsq kk (zG m n W)]=some (.own (zG r n B))/\IsB p n r B l/\∀v,Span p n (Fam r B) v↔Span p n (Fam m W) v:=by
 have hl:=jt;have a0:n<=lim:=by omega
 have p0:=Y.pos;have a9:=vN (T:= .nm 5) (F:=yW)
  (λt γ=>∃r B l Wt c5 c6 c7 c8,γ=[.val (.int p),.val (.int n),.val (dsq kk (zG m n W)),.val (.lst (zG m n Wt)),.own (zG r n B),c5,c6,c7,c8]/\BInv p n m W t r B l Wt)
  ((rO n).map λ(i:Nat)=>D.int i) 0 [.val (.int p),.val (.int n),.val (dsq kk (zG m n W)),.val (.lst (zG m n λj i=>W j i%p)),.own [],.no,.no,.no,.no]
  ⟨0,λ_ _=>0,λ_=>0,λj i=>W j i%p,.no,.no,.no,.no,rfl,λj i _ _=>⟨sU _ ⋯,sG _ p0⟩,λj i _ hi=>absurd hi (sv _),
   ⟨λk I=>absurd I (sv _),λk q _ I=>absurd I (sv _),λk I=>absurd I (sv _),λk j I=>absurd I (sv _),λk q I=>absurd I (sv _),λk i I=>absurd I (sv _)⟩,
   λk I=>absurd I (sv _),λv=>⟨λhv=>hv.le λg hg=>by
    rcases hg with⟨k,I,_⟩ | ⟨j,M,rfl⟩
    ·exact absurd I (sv _)
    ·exact(Span.gen (p:=p) (n:=n) (G:=Fam m W) (g:=W j) ⟨j,M,rfl⟩).congr λi _=>tD _ _,λhv=>hv.le λg hg=>by
    obtain⟨j,M,rfl⟩:=hg;exact(Span.gen (p:=p) (n:=n) (G:=Un 0 (λ_ _=>0) m λj i=>W j i%p) (g:=λi=>W j i%p) (.inr ⟨j,M,rfl⟩)).congr λi _=>(tD _ _).symm⟩⟩ (by
   rintro t d γ hd ⟨r,B,l,Wt,c5,c6,c7,c8,rfl,J⟩;rw [uP]at J ⊢;have O:t<n:=by have:=(rP.mp hd).1;simpa using this
   have ac:d = .int t:=by simp [O]at hd;exact hd.symm
   subst ac;have a2:zN (.nm 0) (sB (zh dNe (sIx (zf 0) (zd 1)) (zk (.int 0)))) (zd 0) [Cell.no,Cell.val (.int t)] (zG m n Wt)=some (((rO m).filter λj=> !decide (Wt j t=0)).map λj=>D.tup (zD n (Wt j))):=by
    unfold zG;refine ju _ _ _ λj M=>⟨_,rfl,?_,λ_=>rfl⟩;simp [O]
   have hr:r<=t:=Zt J.isb.mono J.lt;have am:r<=lim:=by omega
   cases hf:(rO m).filter λj=> !decide (Wt j t=0)with
   | nil=>
    have hz : ∀j,j<m->Wt j t=0:=λj M=>by
     apply uX;intro a6;have:j∈(rO m).filter λj=> !decide (Wt j t=0):=sT.mpr ⟨rV.mpr M,by simp [a6]⟩;rw [hf]at this;simp at this
    rw [hf]at a2;refine⟨_,.inr ?_,r,B,l,Wt,.val (.int t),.val (.lst []),c7,c8,rfl,J.skip hz⟩;simp only [xo,rL,sW,sV,yW];rw [jh];simp [jh,jn,j9,rY,a2,hm]
   | cons z jV=>
    have a7:z∈(rO m).filter λj=> !decide (Wt j t=0):=by rw [hf];exact rX
    have a8:z<m:=rV.mp (sT.mp a7).1;have a6:Wt z t≠0:=by simpa using (sT.mp a7).2
    have ap:=J.rng z t a8 O;obtain⟨y,ey,y1,y2,yy⟩:=yz Y (x:=Wt z t) ⋯ ap.2;rw [hf]at a2;have nx:=J.next Y O a8 yy (P:=λi=>y*Wt z i%p) λi _=>rfl;refine⟨_,.inl ?_,r+1,Jy p (λi=>y*Wt z i%p) t r B,WO t r l,λj=>clr p (λi=>y*Wt z i%p) t (Wt j),.val (.int t),.val (.lst ((z::jV).map λj=>D.tup (zD n (Wt j)))),.val (.int y),.val (.tup (zD n λi=>y*Wt z i%p)),rfl,nx⟩;have bn:=Y.le;have cy : ∀x,yw y x=true:=λx=>qi _ _ ⋯ ⋯;have b0:zN (.nm 0) z7 (zh qg (zd 1) (zd 0)) [Cell.no,Cell.val (.int y)] (zD n (Wt z))=some (zD n λi=>y*Wt z i):=by
     rw [zF,zF];refine zu _ _ λi hi=>zv rfl rfl ?_;simp [cy]
    have b9:zN (.nm 0) z7 (zx F_cleared (za (zd 1) (za (zd 0) (za (zd 3) (za (zd 2) zy))))) [Cell.no,Cell.val (.int p),Cell.val (.int t),Cell.val (.tup (zD n λi=>y*Wt z i%p))] (zG m n Wt)=some (zG m n λj=>clr p (λi=>y*Wt z i%p) t (Wt j)):=by
     unfold zG;refine zu _ _ λj M=>zv rfl rfl ?_;simp [yA Y a0 O (Wt j) (λi=>y*Wt z i%p) λi hi=>J.rng j i (rV.mp M) hi];rfl
    have bb:zN (.nm 0) z7 (zx F_cleared (za (zd 1) (za (zd 0) (za (zd 3) (za (zd 2) zy))))) [Cell.no,Cell.val (.int p),Cell.val (.int t),Cell.val (.tup (zD n λi=>y*Wt z i%p))] (zG r n B)=some (zG r n λj=>clr p (λi=>y*Wt z i%p) t (B j)):=by
     unfold zG;refine zu _ _ λj M=>zv rfl rfl ?_;simp [yA Y a0 O (B j) (λi=>y*Wt z i%p) λi hi=>J.isb.rng j i (rV.mp M) hi];rfl
    have bd:r+1<=lim:=by omega
    rw [Vi trivial];simp only [xo,rL,sW,sV,yW];rw [jh];simp [jh,jn,j9,rY,a2,hm,a0,O,ey,b0,vX _ p0 a0,b9,bb,am,bd])
 obtain⟨γ',e1,r,B,l,Wt,c5,c6,c7,c8,rfl,J⟩:=a9;simp only [sC,tf,uP]at J;refine⟨r,B,l,?_,J.isb,J.done⟩;have be:zN (.nm 0) z7 (zx F_rests (za (zd 1) (za (zd 0) zy))) [Cell.no,Cell.val (.int p)] (zG m n W)=some (zG m n λj i=>W j i%p):=by
  unfold zG;refine zu _ _ λj M=>zv rfl rfl ?_;simp [VF _ p0 a0]
 have e0:F_base_of [.int p,.int n,dsq kk (zG m n W)]=jv 9 (zM (zW 3 (ja (zB (zA (zf 2)) (.nm 0) 1 [0] z7 (zx F_rests (za (zd 1) (za (zd 0) zy)))))) (zM (qQ 4 (jI zy)) (zM (xY (zJ (zd 1)) (.nm 5) yW) (qZ 4)))) [.int p,.int n,dsq kk (zG m n W)]:=rfl;rw [e0];simp [jv,jP,jh,hm,jn,j9,rY,be,a0,je];rw [zF n λi=>(i:Int),e1];simp
theorem Vj(h w f):deep (.lst (zG h w f))<=2:=ae h w f
theorem WK(h w f):okS (.lst (zG h w f))=true:=dM h w f
theorem WL(h w f):okD (.lst (zG h w f))=true:=bo (Vj h w f) ⋯ (WK h w f)
def XM:CO Fl:=(zM (zW 6 (ja (zB (zA (zf 3)) (.nm 0) 1 [5] (sB (zh dNe (sIx (zf 0) (zd 1)) (zk (.int 0)))) (zd 0)))) (sIf (sB (zh dGt (wg (zf 6)) (zk (.int 0)))) (zM (zW 7 (sIx (jb (zB (zJ (zd 0)) (.nm 0) 1 [0,5,6] (sB (zh dEq (zh jA (zh qg (zd 0) (sIx (zC (sIx (zf 3) (zk (.int 0)))) (zd 2))) (zd 1)) (zk (.int 1)))) (zd 0))) (zk (.int 0)))) (zM (zW 8 (ja (zB (zA (zC (sIx (zf 6) (zk (.int 0))))) (.nm 0) 1 [0,7] z7 (zh jA (zh qg (zd 2) (zd 0)) (zd 1))))) (zM (zW 3 (ja (zB (zA (zf 3)) (.nm 0) 1 [0,5,8] z7 (ja (zP F_law_less_k22 (za (zd 1) (za (zd 0) (za (zd 3) (za (sIx (zf 0) (zd 2)) zy))))))))) (zW 4 (ja (Qc (jb (zB (zA (zf 4)) (.nm 0) 1 [0,5,8] z7 (ja (zP F_law_less_k22 (za (zd 1) (za (zd 0) (za (zd 3) (za (sIx (zf 0) (zd 2)) zy)))))))) (jb (jI (za (zd 8) zy))))))))) jS))
theorem KI:F_law_base_k22=jv 9 (zM (zW 3 (ja (zB (zA (zf 2)) (.nm 0) 1 [] z7 (ja (ql (zf 0)))))) (zM (zW 4 (ja (jI zy))) (zM (xY (zJ (zd 1)) (.nm 5) XM) (xc (zB (zA (zf 4)) (.nm 0) 1 [] z7 (zI (zf 0))))))):=rfl
@[simp] theorem yh(h w f):(jQ h w f).length=h:=by simp [jQ]
theorem dX{p:Int}(I:Pr p){n:Nat}(hn:n<=lim)(w P:Vc){x:Int}(Y:0<=x/\x<p):F_law_less_k22 [.int p,.lst (zD n w),.lst (zD n P),.int x]=some (.own (zD n λi=>(w i - x*P i)%p)):=by
 have J:=I.pos;have a0:=I.le;have M : ∀z,yw x z=true:=λz=>qi _ _ ⋯ ⋯;have O:zN (.tp [0,1]) z7 (zh jA (zh xw (zd 0) (zh qg (zd 3) (zd 1))) (zd 2)) [Cell.no,Cell.no,Cell.val (.int p),Cell.val (.int x)] ((rO n).map λi=>D.tup [.int (w i),.int (P i)])=some (zD n λi=>(w i - x*P i)%p):=by
  rw [zF];refine zu _ _ λi hi=>zv rfl rfl ?_;simp [M,J]
 simp [F_law_less_k22,jv,jP,xN,hn,jn,j9,rY,O]
theorem KD{p:Int}{n t r:Nat}{B:Nat->Vc}(P:Vc):jQ (r+1) n (Jy p P t r B)=jQ r n (λk=>clr p P t (B k))++[.lst (zD n P)]:=by
 unfold jQ;rw [uN,uf];congr 1
 ·apply sf
  intro k z;have:=rV.mp z;simp [Jy,this]
 ·simp [Jy]
theorem yF{p:Int}(hp:Pr p){n m:Nat}(hn:n<=100)(hm:m<=lim)(kk:Sk)(W:Nat->Vc)(hW : ∀j i,j<m->i<n->0<=W j i/\W j i<p) :
 ∃r B l,F_law_base_k22 [.int p,.int n,dsq kk (zG m n W)]=some (.own (zG r n B))/\IsB p n r B l/\r<=n/\∀v,Span p n (Fam r B) v↔Span p n (Fam m W) v:=by
 have hl:=jt;have a3:n<=lim:=by omega
 have p0:=hp.pos;have cf:=hp.le;obtain⟨pn,as⟩:=tW (show 0<=p by omega);have a8:pn<=lim:=by omega
 have ax:=vN (T:= .nm 5) (F:=XM)
  (λt γ=>∃r B l Wt c5 c6 c7 c8,γ=[.val (.int p),.val (.int n),.val (dsq kk (zG m n W)),.val (.lst (jQ m n Wt)),.val (.lst (jQ r n B)),c5,c6,c7,c8]/\BInv p n m W t r B l Wt)
  ((rO n).map λ(i:Nat)=>D.int i) 0 [.val (.int p),.val (.int n),.val (dsq kk (zG m n W)),.val (.lst (jQ m n W)),.val (.lst []),.no,.no,.no,.no]
  ⟨0,λ_ _=>0,λ_=>0,W,.no,.no,.no,.no,rfl,hW,λj i _ hi=>absurd hi (sv _),
   ⟨λk I=>absurd I (sv _),λk q _ I=>absurd I (sv _),λk I=>absurd I (sv _),λk j I=>absurd I (sv _),λk q I=>absurd I (sv _),λk i I=>absurd I (sv _)⟩,
   λk I=>absurd I (sv _),λv=>⟨λhv=>hv.le λg O=>by
    rcases O with⟨k,I,_⟩ | O
    ·exact absurd I (sv _)
    ·exact .gen O,λhv=>hv.le λg O=> .gen (.inr O)⟩⟩ (by
   rintro t d γ hd ⟨r,B,l,Wt,c5,c6,c7,c8,rfl,J⟩;rw [uP]at J ⊢;have Y:t<n:=by have:=(rP.mp hd).1;simpa using this
   have b0:d = .int t:=by simp [Y]at hd;exact hd.symm
   subst b0;have a2:zN (.nm 0) (sB (zh dNe (sIx (zf 0) (zd 1)) (zk (.int 0)))) (zd 0) [Cell.no,Cell.val (.int t)] (jQ m n Wt)=some (((rO m).filter λj=> !decide (Wt j t=0)).map λj=>D.lst (zD n (Wt j))):=by
    unfold jQ;refine ju _ _ _ λj M=>⟨_,rfl,?_,λ_=>rfl⟩;simp [Y]
   have hr:r<=t:=Zt J.isb.mono J.lt;have a5:r<=lim:=by omega
   cases hf:(rO m).filter λj=> !decide (Wt j t=0)with
   | nil=>
    have hz : ∀j,j<m->Wt j t=0:=λj M=>by
     apply uX;intro a9;have:j∈(rO m).filter λj=> !decide (Wt j t=0):=sT.mpr ⟨rV.mpr M,by simp [a9]⟩;rw [hf]at this;simp at this
    rw [hf]at a2;refine⟨_,.inl ?_,r,B,l,Wt,.val (.int t),.val (.lst []),c7,c8,rfl,J.skip hz⟩;simp only [xo,rL,sW,sV,XM];rw [jh];simp [jh,jn,j9,rY,a2,hm]
   | cons z jV=>
    have ac:z∈(rO m).filter λj=> !decide (Wt j t=0):=by rw [hf];exact rX
    have am:z<m:=rV.mp (sT.mp ac).1;have a9:Wt z t≠0:=by simpa using (sT.mp ac).2
    have bb:=J.rng z t am Y;obtain⟨y',ey,y1,y2,be⟩:=yz hp (x:=Wt z t) ⋯ bb.2;have a6:zN (.nm 0) (sB (zh dEq (zh jA (zh qg (zd 0) (sIx (zC (sIx (zf 3) (zk (.int 0)))) (zd 2))) (zd 1)) (zk (.int 1)))) (zd 0) [Cell.no,Cell.val (.int p),Cell.val (.int t),Cell.val (.lst ((z::jV).map λj=>D.lst (zD n (Wt j))))] (zD pn λi=>(i:Int)) =
     some (((rO pn).filter λ(x:Nat)=>decide ((x:Int)*Wt z t%p=1)).map λ(x:Nat)=>D.int x):=by
     rw [zF];refine ju _ _ _ λx hx=>⟨_,rfl,?_,λ_=>rfl⟩;have hx:=rV.mp hx;have cx:yw (x:Int) (Wt z t)=true:=qi _ _ ⋯ ⋯;simp [Y,cx,p0]
    cases O:(rO pn).filter λ(x:Nat)=>decide ((x:Int)*Wt z t%p=1)with
    | nil=>
     exfalso;obtain⟨yn,bm⟩:=tW (show 0<=y' by omega);have:yn∈(rO pn).filter λ(x:Nat)=>decide ((x:Int)*Wt z t%p=1):=sT.mpr ⟨rV.mpr ⋯,by rw [<- bm,CB];simp [be]⟩;rw [O]at this;simp at this
    | cons y ys=>
     have ap:y∈(rO pn).filter λ(x:Nat)=>decide ((x:Int)*Wt z t%p=1):=by rw [O];exact rX
     have cm:y<pn:=rV.mp (sT.mp ap).1;have yy:Wt z t*(y:Int)%p=1:=by rw [CB];simpa using (sT.mp ap).2
     rw [O]at a6;rw [hf]at a2;have nx:=J.next hp Y am yy (P:=λi=>(y:Int)*Wt z i%p) λi _=>rfl;refine⟨_,.inl ?_,r+1,Jy p (λi=>(y:Int)*Wt z i%p) t r B,WO t r l,λj=>clr p (λi=>(y:Int)*Wt z i%p) t (Wt j),.val (.int t),.val (.lst ((z::jV).map λj=>D.lst (zD n (Wt j)))),.val (.int y),.val (.lst (zD n λi=>(y:Int)*Wt z i%p)),rfl,nx⟩;have cy : ∀x,yw (y:Int) x=true:=λx=>qi _ _ ⋯ ⋯;have bx:zN (.nm 0) z7 (zh jA (zh qg (zd 2) (zd 0)) (zd 1)) [Cell.no,Cell.val (.int p),Cell.val (.int y)] (zD n (Wt z))=some (zD n λi=>(y:Int)*Wt z i%p):=by
      rw [zF,zF];refine zu _ _ λi hi=>zv rfl rfl ?_;simp [cy,p0]
     have cl : ∀(k:Nat) (V:Nat->Vc),(∀j,j<k->0<=V j t/\V j t<p)->zN (.nm 0) z7 (ja (zP F_law_less_k22 (za (zd 1) (za (zd 0) (za (zd 3) (za (sIx (zf 0) (zd 2)) zy)))))) [Cell.no,Cell.val (.int p),Cell.val (.int t),Cell.val (.lst (zD n λi=>(y:Int)*Wt z i%p))] (jQ k n V)=some (jQ k n λj=>clr p (λi=>(y:Int)*Wt z i%p) t (V j)):=λk V hV=>by
      unfold jQ;refine zu _ _ λj M=>zv rfl rfl ?_;have:=dX hp a3 (V j) (λi=>(y:Int)*Wt z i%p) (hV j (rV.mp M));simp [Y,this];rfl
     have c1:=cl m Wt λj M=>J.rng j t M Y;have c2:=cl r B λj M=>J.isb.rng j t M Y;have c3:r+1<=lim:=by omega
     have lp:(0:Int)<((z::jV).map λj=>D.lst (zD n (Wt j))).length:=by simp
     rw [KD];simp only [xo,rL,sW,sV,XM];simp only [sJ]at a6;have c4:inR p=true:=by rw [as];exact qR a8
     have tn:p.toNat=pn:=by omega
     simp [jh,jn,j9,rY,a2,hm,c4,tn,a8,je,a6,a3,bx,c1,c2,a5,c3])
 obtain⟨γ',e1,r,B,l,Wt,c5,c6,c7,c8,rfl,J⟩:=ax;simp only [sC,tf,uP]at J;have ca:r<=n:=Zt J.isb.mono J.lt;have a5:r<=lim:=by omega
 refine⟨r,B,l,?_,J.isb,ca,J.done⟩;have cc:zN (.nm 0) z7 (ja (ql (zf 0))) [Cell.no] (zG m n W)=some (jQ m n W):=by
  unfold zG jQ;refine zu _ _ λj M=>zv rfl rfl ?_;simp
 have cd:zN (.nm 0) z7 (zI (zf 0)) [Cell.no] (jQ r n B)=some (zG r n B):=by
  unfold zG jQ;refine zu _ _ λj M=>zv rfl rfl ?_;simp
 rw [KI];have sq:jE (dsq kk (zG m n W))=some (kk,zG m n W):=by cases kk<;>rfl
 simp [jv,jP,jh,hm,jn,j9,rY,cc,a3,je,sq];rw [zF n λi=>(i:Int),e1];simp [a5,jn,rY,cd]
theorem qK{p:Int}(z:Pr p){n m:Nat}(hn:n<=100)(hm:m<=lim)(W:Nat->Vc)(I : ∀j i,j<m->i<n->0<=W j i/\W j i<p) :
 ∃r B l,F_law_base_k22 [.int p,.int n,.lst (zG m n W)]=some (.own (zG r n B))/\IsB p n r B l/\r<=n/\∀v,Span p n (Fam r B) v↔Span p n (Fam m W) v:=yF z hn hm .L W I
section
variable{p:Int}{n m r:Nat}{G:Vc->Prop}
theorem Span.sum{u:Nat->Vc}(c:Nat->Int) : ∀{m:Nat},(∀k,k<m->Span p n G (u k))->Span p n G λi=>sumTo (λk=>c k*u k i) m
 | 0,_=> .zero λi _=>by simp [sumTo]
 | m+1,h=>(((h m ⋯).add (Span.sum c (m:=m) λk z=>h k ⋯) (c m))).congr λi _=>by simp [sumTo]
end
section
variable{p:Int}{n m r h w:Nat}
theorem Q1{l:Nat->Nat}(h:Nat) : ∀{r:Nat},(∀k m,k<m->m<r->l k<l m)->∃s,s<=r/\(∀k,k<s->l k<h)/\∀k,s<=k->k<r->h<=l k
 | 0,_=>⟨0,se _,λk I=>absurd I (sv _),λk _ I=>absurd I (sv _)⟩
 | r+1,hm=>by
  obtain⟨s,h1,h2,J⟩:=Q1 h (r:=r) λk m I M=>hm k m I ⋯;by_cases e:l r<h
  ·refine⟨r+1,se _,λk I=>?_,λk h1 h2=>by omega⟩
   rcases ud k r with z | z
   ·have:=hm k r z ⋯;omega
   ·have:k=r:=by omega
    subst this;exact e
  ·refine⟨s,by omega,h2,λk I O=>?_⟩
   rcases ud k r with z | z
   ·exact J k I z
   ·have:k=r:=by omega
    subst this;omega
theorem Qw{q:Nat->Bool}{s r:Nat}(I:s<=r)(h1 : ∀k,k<s->q k=false)(h2 : ∀k,s<=k->k<r->q k=true):(rO r).filter q=(rO (r - s)).map (s + ·):=by
 obtain⟨d,rfl⟩ : ∃d,r=s+d:=⟨r - s,by omega⟩;rw [BY,List.filter_append];have e1:(rO s).filter q=[]:=List.filter_eq_nil_iff.mpr λk z=>by rw [h1 k (rV.mp z)];decide
 have e2:((rO d).map (s + ·)).filter q=(rO d).map (s + ·):=List.filter_eq_self.mpr λk z=>by
  obtain⟨i,hi,rfl⟩:=uS.mp z;exact h2 _ ⋯ (by have:=rV.mp hi;omega)
 rw [e1,e2,Ak];rfl
def v9(h:Nat)(u v:Vc):Vc:=λi=>if i<h then u i else v (i - h)
def VI(j:Nat):Vc:=λk=>if j=k then 1 else 0
theorem qu{u v:Vc}{i:Nat}(hi:i<h):v9 h u v i=u i:=if_pos hi
theorem qh{u v:Vc}(i:Nat):v9 h u v (h+i)=v i:=by unfold v9;rw [if_neg ⋯,Ak]
theorem ZA(h w:Nat)(u v:Vc):zD h u++zD w v=zD (h+w) (v9 h u v):=by
 unfold zD;rw [BY,uf];congr 1
 ·exact sf λi hi=>by rw [qu (rV.mp hi)]
 ·rw [uh]
  exact sf λi _=>by simp only [Function.comp];rw [qh]
theorem Ve(h w:Nat)(v:Vc):(zD (h+w) v).take h=zD h v:=by
 unfold zD;rw [<- List.map_take,List.take_range,Nat.min_eq_left (ug h w)]
theorem Vf(h w:Nat)(v:Vc):(zD (h+w) v).drop h=zD w λj=>v (h+j):=by
 unfold zD;rw [BY,uf,List.drop_append_of_le_length ⋯,List.drop_eq_nil_of_le ⋯,uh];rfl
theorem aj(h w:Nat)(v:Vc):VM (zD (h+w) v) none (some (h:Int))=zD h v:=by
 have c : ¬((h:Int)<0):=by omega
 have e:min h (h+w)=h:=Nat.min_eq_left (ug h w);simp [VM,KG,c,e,Ve]
theorem ai(h w:Nat)(v:Vc):VM (zD (h+w) v) (some (h:Int)) none=zD w λj=>v (h+j):=by
 have c : ¬((h:Int)<0):=by omega
 have e:min h (h+w)=h:=Nat.min_eq_left (ug h w);have t : ∀g:Vc,(zD w g).take w=zD w g:=λg=>AW ⋯;simp [VM,KG,c,e,Vf,t]
theorem V3(v:Vc) : ∀n,y7 (zD n v)=some ((rO n).map λi=>v i != 0)
 | 0=>rfl
 | n+1=>by
  have z : ∀l:List Nat,y7 (l.map λi=>D.int (v i))=some (l.map λi=>v i != 0):=by
   intro l
   induction l with
   | nil=>rfl
   | cons a l I=>simp [y7,lS,I]
  exact z _
theorem QK{B:Nat->Vc}{l:Nat->Nat}(I:IsB p (h+w) r B l)(M:r<=lim){s:Nat}(O:s<=r)(h1 : ∀k,k<s->l k<h)(h2 : ∀k,s<=k->k<r->h<=l k) :
 F_behind_noughts [.int h,.lst (zG r (h+w) B)]=some (.own (zG (r - s) w λk j=>B (s+k) (h+j))):=by
 have J:zN (.nm 0) (qd (sB (lT (zC (fy (zd 0) fz (sBd (zd 1))))))) (fy (zd 0) (sBd (zd 1)) fz) [Cell.no,Cell.val (.int h)] (zG r (h+w) B)=some (((rO r).filter λk=>decide (h<=l k)).map λk=>D.tup (zD w λj=>B k (h+j))):=by
  unfold zG;refine ju (λk=>decide (h<=l k)) _ _ λk z=>⟨_,rfl,?_,λY=>?_⟩
  ·have z:=rV.mp z
   simp [aj,V3];by_cases e:h<=l k
   ·simp [e]
    intro i hi;have:=I.bef k i z ⋯;simp [this]
   ·simp [e]
    exact⟨l k,by omega,by rw [I.one k z];decide⟩
  ·simp [ai]
 rw [Qw O (λk z=>decide_eq_false (by have:=h1 k z;omega)) (λk a b=>decide_eq_true (h2 k a b))]at J;simp [F_behind_noughts,jv,jP,M,jn,j9,rY,J];unfold zG;rfl
end
section
variable{p:Int}{h w q r:Nat}
def app(f:Nat->Nat->Int)(w:Nat)(v:Vc):Vc:=λi=>sumTo (λj=>f i j*v j) w
theorem vT{f:Nat->Nat->Int}{u g v:Vc}{c:Int}(he : ∀j,j<w->v j%p=(u j+c*g j)%p)(i:Nat):app f w v i%p=(app f w u i+c*app f w g i)%p:=by
 unfold app;have e:sumTo (λj=>f i j*v j) w%p=sumTo (λj=>f i j*u j+c*(f i j*g j)) w%p:=jT λj z=>by
  rw [so,he j z,<- so,Cm,Int.mul_left_comm]
 rw [e,qT,kZ]
theorem kT{f:Nat->Nat->Int}{v:Vc}(z : ∀j,j<w->v j%p=0)(i:Nat):app f w v i%p=0:=by
 unfold app;have:sumTo (λj=>f i j*v j) w%p=sumTo (λ_=>0) w%p:=jT λj I=>by rw [so,z j I];simp
 rw [this,qj];rfl
theorem Vy{f:Nat->Nat->Int}{u v:Vc}(he : ∀j,j<w->v j%p=u j%p)(i:Nat):app f w v i%p=app f w u i%p:=by
 unfold app;exact jT λj z=>by rw [so,he j z,<- so]
theorem QI(hp:Pr p)(hh:h<=100)(hw:w<=lim)(hq:q<=lim)(f:Nat->Nat->Int)(hf : ∀i j,i<h->j<w->0<=f i j/\f i j<100)(K:Nat->Vc) :
 ∃r B l,F_led_on [.int p,xU h w f,.lst (zG q w K)]=some (.own (zG r h B))/\IsB p h r B l/\∀v,Span p h (Fam r B) v ↔ ∃y,Span p w (Fam q K) y/\∀i,i<h->v i%p=app f w y i%p:=by
 have hl:=jt;obtain⟨r,B,l,e,hb,a6⟩:=yB hp hh hq .L λk i=>app f w (K k) i%p;refine⟨r,B,l,?_,hb,λv=>(a6 v).trans ⟨λz=>?_,λ⟨y,J,z⟩=>?_⟩⟩
 ·have a7:zN (.nm 0) z7 (zx F_led (za (zd 1) (za (zd 2) (za (zd 0) zy)))) [Cell.no,Cell.val (.int p),Cell.val (xU h w f)] (zG q w K)=some (zG q h λk i=>app f w (K k) i%p):=by
   unfold zG;refine zu _ _ λk I=>zv rfl rfl ?_;have:=aD (p:=p) .T f (K k) hp.pos (show h<=lim by omega) hw hf;simp only [dsq]at this;simp [this];rfl
  simp only [dsq]at e;have sq:jE (xU h w f)=some (.T,[.int h,.int w,.tup (zG h w f)]):=rfl;simp [F_led_on,jv,jP,hq,jn,j9,rY,a7,sq,e]
 ·induction z with
  | @zero v M=>exact⟨λ_=>0,.zero λi _=>by simp,λi hi=>by rw [M i hi,kT (p:=p) (λ_ _=>by simp)]⟩
  | @step v u g c O hu he Y=>
   obtain⟨y,J,a8⟩:=Y;obtain⟨k,I,rfl⟩:=O;refine⟨λj=>y j+c*K k j,(Span.gen (g:=K k) ⟨k,I,rfl⟩).add J c,λi hi=>?_⟩;rw [vT (p:=p) (u:=y) (g:=K k) (c:=c) (λ_ _=>rfl) i,he i hi,sA,a8 i hi,so,tD,<- so,<- sA]
 ·induction J generalizing v with
  | @zero y M=>exact .zero λi hi=>by rw [z i hi];exact kT M i
  | @step y u g c O hu he Y=>
   obtain⟨k,I,rfl⟩:=O;have h1:=Y (app f w u) ⟨u,hu,λ_ _=>rfl⟩ λi hi=>rfl;refine((Span.gen (g:=λi=>app f w (K k) i%p) ⟨k,I,rfl⟩).add h1 c).congr λi hi=>?_;rw [z i hi,vT (p:=p) he i,sA,so,<- tD (app f w (K k) i),<- so,<- sA,tD]
theorem X7(J:IsB p (h+w) r B l){s:Nat}(hs:s<=r)(s1 : ∀k,k<s->l k<h)(s2 : ∀k,s<=k->k<r->h<=l k) :
 IsB p w (r - s) (λk j=>B (s+k) (h+j)) (λk=>l (s+k) - h)/\∀v,Span p w (Fam (r - s) λk j=>B (s+k) (h+j)) v↔Span p (h+w) (Fam r B) (v9 h (λ_=>0) v):=by
 refine⟨{
  lt:=λk I=>by have:=J.lt (s+k) ⋯;have:=s2 (s+k) ⋯ ⋯;omega
  mono:=λk m I hm=>by have:=J.mono (s+k) (s+m) ⋯ ⋯;have:=s2 (s+k) ⋯ ⋯;omega
  one:=λk I=>by
   have:=s2 (s+k) ⋯ ⋯;rw [show h+(l (s+k) - h)=l (s+k)by omega];exact J.one _ ⋯
  bef:=λk j I Y=>J.bef _ _ ⋯ ⋯
  oth:=λk m I hm a4=>by
   have:=s2 (s+m) ⋯ ⋯;rw [show h+(l (s+m) - h)=l (s+m)by omega];exact J.oth _ _ ⋯ ⋯ ⋯
  rng:=λk i I hi=>J.rng _ _ ⋯ ⋯},λv=>⟨λM=>?_,λM=>?_⟩⟩
 ·induction M with
  | @zero v hz=>
   refine .zero λi hi=>?_;rcases ud i h with z | z
   ·rw [qu z];simp
   ·obtain⟨k,rfl⟩ : ∃k,i=h+k:=⟨i - h,by omega⟩
    rw [qh];exact hz k ⋯
  | @step v u g c hg hu he O=>
   obtain⟨k,I,rfl⟩:=hg;refine .step (g:=B (s+k)) (c:=c) ⟨s+k,by omega,rfl⟩ O λi hi=>?_;rcases ud i h with z | z
   ·rw [qu z,qu z,J.bef (s+k) i ⋯ (by have:=s2 (s+k) ⋯ ⋯;omega)];simp
   ·obtain⟨j,rfl⟩ : ∃k,i=h+k:=⟨i - h,by omega⟩
    rw [qh,qh];exact he j ⋯
 ·have co:=eO J M
  refine(Span.sum (u:=λk j=>B (s+k) (h+j)) (λk=>v9 h (λ_=>0) v (l (s+k))) (m:=r - s) λk I=> .gen ⟨k,I,rfl⟩).congr λj Y=>?_;have:=co (h+j) ⋯;rw [qh]at this;rw [this];obtain⟨d,rfl⟩ : ∃d,r=s+d:=⟨r - s,by omega⟩;rw [Ak];have sp : ∀(F:Nat->Int) (d:Nat),(∀k,k<s->F k=0)->sumTo F (s+d)=sumTo (λk=>F (s+k)) d:=by
   intro F d hF
   induction d with
   | zero=>
    show sumTo F s=0;rw [j6 (g:=λ_=>0) hF,qj]
   | succ d O=>rw [<- Nat.add_assoc];simp only [sumTo];rw [O]
  rw [sp _ d λk I=>by rw [qu (s1 k I)];simp]
end
section
variable{p:Int}{h w q:Nat}
def j3(h w:Nat)(f:Nat->Nat->Int)(g:Nat->Vc):Nat->Vc:=λm=>if m<w then v9 h (λi=>f i m) (VI m)else v9 h (g (m - w)) (λ_=>0)
theorem Vh(f:Nat->Nat->Int)(g:Nat->Vc):zG w (h+w) (λj=>v9 h (λi=>f i j) (VI j))++zG q (h+w) (λk=>v9 h (g k) λ_=>0)=zG (w+q) (h+w) (j3 h w f g):=by
 unfold zG;rw [BY,uf,uh];congr 1
 ·refine sf λm hm=>?_
  unfold j3;rw [if_pos (rV.mp hm)]
 ·refine sf λm hm=>?_
  simp only [Function.comp];unfold j3;rw [if_neg ⋯,Ak]
theorem ay(f:Nat->Nat->Int){j:Nat}(z:j<w)(i:Nat):app f w (VI j) i=f i j:=by
 unfold app;rw [j5 (f:=λk=>f i k*VI j k) z λk _ I=>by simp [VI,uu I]];simp [VI]
theorem YJ{f:Nat->Nat->Int}{g:Nat->Vc}{z:Vc}(I:Span p (h+w) (Fam (w+q) (j3 h w f g)) z):Span p h (Fam q g) λi=>z i - app f w (λj=>z (h+j)) i:=by
 induction I with
 | @zero z I=>
  refine .zero λi hi=>?_;rw [BU,I i ⋯,kT (p:=p) (λj hj=>I (h+j) ⋯) i];simp
 | @step z u g' c hg hu he O=>
  obtain⟨m,hm,rfl⟩:=hg;have e2:=λi=>vT (p:=p) (w:=w) (f:=f) (u:=λj=>u (h+j)) (g:=λj=>j3 h w f g m (h+j)) (v:=λj=>z (h+j)) (c:=c) (λj hj=>he (h+j) ⋯) i;have Y : ∀i,i<h->(z i - app f w (λj=>z (h+j)) i)%p=((u i - app f w (λj=>u (h+j)) i)+c*(j3 h w f g m i - app f w (λj=>j3 h w f g m (h+j)) i))%p:=λi hi=>by
   rw [BU,he i ⋯,e2 i,<- BU];congr 1;rw [Int.mul_sub];omega
  rcases ud m w with J | J
  ·refine O.congr λi hi=>?_
   rw [Y i hi];have t:app f w (λj=>j3 h w f g m (h+j)) i=f i m:=by
    have:(λj=>j3 h w f g m (h+j))=VI m:=by
     funext j;unfold j3;rw [if_pos J,qh]
    rw [this,ay f J]
   have M:j3 h w f g m i=f i m:=by unfold j3;rw [if_pos J,qu hi]
   rw [t,M];simp
  ·refine .step (g:=g (m - w)) (c:=c) ⟨m - w,by omega,rfl⟩ O λi hi=>?_
   rw [Y i hi];have t:app f w (λj=>j3 h w f g m (h+j)) i=0:=by
    have:(λj=>j3 h w f g m (h+j))=λ_=>0:=by
     funext j;unfold j3;rw [if_neg ⋯,qh]
    rw [this];unfold app;simp [qj]
   have M:j3 h w f g m i=g (m - w) i:=by unfold j3;rw [if_neg ⋯,qu hi]
   rw [t,M];simp
theorem el{f:Nat->Nat->Int}{g:Nat->Vc}{y:Vc}(I:Span p h (Fam q g) y):Span p (h+w) (Fam (w+q) (j3 h w f g)) (v9 h y λ_=>0):=by
 induction I with
 | @zero y J=>
  refine .zero λi hi=>?_;rcases ud i h with z | z
  ·rw [qu z];exact J i z
  ·obtain⟨k,rfl⟩ : ∃k,i=h+k:=⟨i - h,by omega⟩
   rw [qh];simp
 | @step y u g' c M Y he O=>
  obtain⟨k,hk,rfl⟩:=M;refine .step (g:=j3 h w f g (w+k)) (c:=c) ⟨w+k,by omega,rfl⟩ O λi hi=>?_;have e:j3 h w f g (w+k)=v9 h (g k) λ_=>0:=by
   unfold j3;rw [if_neg ⋯,Ak]
  rw [e];rcases ud i h with z | z
  ·rw [qu z,qu z,qu z];exact he i z
  ·obtain⟨j,rfl⟩ : ∃k,i=h+k:=⟨i - h,by omega⟩
   rw [qh,qh,qh];simp
theorem ZM(hp:Pr p)(hh:h<=20)(hw:w<=20)(hq:q<=100)(f:Nat->Nat->Int)(g:Nat->Vc) :
 ∃r B l,F_led_into [.int p,xU h w f,.lst (zG q h g)]=some (.own (zG r w B))/\IsB p w r B l/\∀v,Span p w (Fam r B) v↔Span p h (Fam q g) (app f w v):=by
 have hl:=jt;have ap:h<=lim:=by omega
 have I:w<=lim:=by omega
 have M:h+w<=lim:=by omega
 have ar:q<=lim:=by omega
 have O:w+q<=lim:=by omega
 obtain⟨r,B,l,e,J,a4⟩:=yB hp (show h+w<=100 by omega) O .L (j3 h w f g);have as:r<=h+w:=Zt J.mono J.lt;obtain⟨s,Y,s1,s2⟩:=Q1 h J.mono;have eb:=QK J ⋯ Y s1 s2;obtain⟨a6,tl⟩:=X7 J Y s1 s2;refine⟨r - s,_,_,?_,a6,λv=>(tl v).trans ((a4 _).trans ⟨λhv=>?_,λhv=>?_⟩)⟩
 ·have ov:=VG f ap I
  have sm:=VE (n:=w) I;have a7:zN (.tp [0,1]) z7 (zh j4 (zd 0) (zd 1)) [Cell.no,Cell.no] ((rO w).map λj=>D.tup [.tup (zD h λi=>f i j),.tup (zD w λk=>if j=k then 1 else 0)])=some (zG w (h+w) λj=>v9 h (λi=>f i j) (VI j)):=by
   unfold zG;refine zu _ _ λj hj=>zv rfl rfl ?_;simp [j4,M,ZA];rfl
  have zp:XX (zG w h λi j=>f j i) (zG w w λi j=>if i=j then 1 else 0)=(rO w).map λj=>D.tup [.tup (zD h λi=>f i j),.tup (zD w λk=>if j=k then 1 else 0)]:=by
   unfold XX zG;rw [List.zip_map'];simp
  have a9:inR (w:Int)=true:=qR I;have zr:qg (.tup [.int 0]) (.int w)=some (.tup (zD w λ_=>0)):=by
   show(if [D.int 0].length*(w:Int).toNat<=lim/\inR (w:Int)=true then some (D.tup (rY (w:Int).toNat [D.int 0]).flatten)else none)=_;rw [if_pos ⟨by simpa using I,a9⟩];congr 2;rw [tm];clear a7 zp sm ov eb a6 tl a4 J e a9 O M I hw hq s1 s2 Y as
   induction w with
   | zero=>rfl
   | succ w ih=>rw [List.replicate_succ',List.flatten_append,ih];unfold zD;rw [uN,uf];rfl
  have fr:zN (.nm 0) z7 (zh j4 (zd 0) (zh qg (yK (za (zk (.int 0)) zy)) (sIx (zf 1) (zk (.int 1))))) [Cell.no,Cell.val (xU h w f)] (zG q h g)=some (zG q (h+w) λk=>v9 h (g k) λ_=>0):=by
   unfold zG;refine zu _ _ λk hk=>zv rfl rfl ?_;have sq:jE (xU h w f)=some (.T,[.int h,.int w,.tup (zG h w f)]):=rfl;simp [sq,zr,j4,M,ZA]
  have c1:((h:Int)+(w:Int))=((h+w:Nat):Int):=by omega
  simp only [dsq]at e;rw [<- c1,<- Vh]at e;have sq:jE (xU h w f)=some (.T,[.int h,.int w,.tup (zG h w f)]):=rfl;unfold xU at ov sm fr ⊢;simp [F_led_into,jv,jP,jh,ov,sm,zp,I,ar,O,jn,j9,rY,a7,fr,e,eb]
 ·have:=YJ hv
  refine(this.smul (-1)).congr λi hi=>?_;congr 1;show app f w v i = -1*(v9 h (λ_=>0) v i - app f w (λj=>v9 h (λ_=>0) v (h+j)) i);rw [qu hi,show(λj=>v9 h (λ_=>0) v (h+j))=v from funext λj=>qh j];omega
 ·have a:=Span.sum (p:=p) (n:=h+w) (G:=Fam (w+q) (j3 h w f g)) (u:=λj=>j3 h w f g j) v (m:=w) λj hj=> .gen ⟨j,by omega,rfl⟩
  have b:=el (w:=w) (f:=f) hv;refine(b.add a (-1)).congr λi hi=>?_;congr 1;rcases ud i h with z | z
  ·rw [qu z,qu z]
   have:sumTo (λk=>v k*j3 h w f g k i) w=app f w v i:=by
    unfold app;exact j6 λk hk=>by unfold j3;rw [if_pos hk,qu z,CB]
   rw [this];omega
  ·obtain⟨k,rfl⟩ : ∃k,i=h+k:=⟨i - h,by omega⟩
   rw [qh,qh];have:sumTo (λj=>v j*j3 h w f g j (h+k)) w=v k:=by
    rw [j5 (f:=λj=>v j*j3 h w f g j (h+k)) (i:=k) ⋯ λj hj bb=>by unfold j3;rw [if_pos hj,qh];simp [VI,bb]];unfold j3;rw [if_pos (show k<w by omega),qh];simp [VI]
   rw [this];simp
end
@[simp] theorem oA(γ:Ctx)(f g):cJ f g γ=((f γ).bind asI).bind λi=>((g γ).bind asI).map λj=> .int (if j<i then j else i):=rfl
def oH(m m':Nat)(w w':Nat->Bool):Prop:=m=m'/\∀k,k<m->w k=w' k
instance (m m':Nat) (w w':Nat->Bool):Decidable (oH m m' w w'):=inferInstanceAs (Decidable (m=m'/\∀k,k<m->w k=w' k))
section
variable{p:Int}{m:Nat}{w:Nat->Bool}{wd:Nat->Nat}{T:Nat->Nat->Nat->Int}{a:Nat}
abbrev lk(p:Int)(m:Nat)(w:Nat->Bool)(wd:Nat->Nat)(T:Nat->Nat->Nat->Int)(i j:Int)(a:Nat)(ds:List D)(c:Cell):Ctx:=[.val (qv p m w wd T),.val (.int i),.val (.int j),.val (xU a a λi j=>if i=j then 1 else 0),.own ds,c]
end
@[simp] theorem VB(γ:Ctx)(i f):Zg i f γ=(xn γ[i]?).bind λds=>(f γ).bind λes=>if ds.length+es.length<=lim then some (.next (γ.set i (.own (ds++es))))else none:=rfl
def yZ(q:Nat):Nat->List Vc
 | 0=>[λ_=>0]
 | n+1=>(yZ q n).flatMap λv=>(rO q).map λ(x:Nat)=>v9 n v λ_=>(x:Int)
theorem yY(q:Nat) : ∀n,(yZ q n).length=q ^ n
 | 0=>rfl
 | n+1=>by
  unfold yZ;rw [List.length_flatMap];simp only [sC,tf];have e : ∀l:List Vc,(l.map λ_=>q).sum=l.length*q:=λl=>by
   induction l with
   | nil=>simp
   | cons a l z=>simp [z,Nat.succ_mul];omega
  rw [e,yY q n,Nat.pow_succ]
theorem XT{q:Nat} : ∀{n:Nat} {v:Vc},v∈yZ q n->∀i,i<n->0<=v i/\v i<q
 | 0,v,_,i,hi=>absurd hi (sv _)
 | n+1,v,hv,i,hi=>by
  unfold yZ at hv;obtain⟨u,J,I⟩:=List.mem_flatMap.mp hv;obtain⟨x,M,rfl⟩:=uS.mp I;have I:=rV.mp M;rcases ud i n with z | z
  ·rw [qu z];exact XT J i z
  ·have O:i=n+0:=by omega
   rw [O,qh];omega
theorem ZK{q:Nat} : ∀{n:Nat} (v:Vc),(∀i,i<n->0<=v i/\v i<q)->∃u∈yZ q n,∀i,i<n->u i=v i
 | 0,v,_=>⟨λ_=>0,tK.mpr rfl,λi hi=>absurd hi (sv _)⟩
 | n+1,v,hv=>by
  obtain⟨u,I,e⟩:=ZK (n:=n) v λi hi=>hv i ⋯;have hn:=hv n ⋯;obtain⟨x,J⟩:=tW hn.1;refine⟨v9 n u λ_=>(x:Int),?_,λi hi=>?_⟩
  ·unfold yZ
   exact List.mem_flatMap.mpr ⟨u,I,uS.mpr ⟨x,rV.mpr ⋯,rfl⟩⟩
  ·rcases ud i n with z | z
   ·rw [qu z];exact e i z
   ·have M:i=n+0:=by omega
    rw [M,qh];exact J.symm
def qw(n:Nat)(L:List Vc):List D:=L.map λv=>D.tup (zD n v)
@[simp] theorem KZ(n L):(qw n L).length=L.length:=by simp [qw]
def fG:CO Fl:=(Zg 4 (zB (zJ (zd 0)) (.nm 0) 1 [5] z7 (zh j4 (zd 1) (yK (za (zd 0) zy)))))
theorem fu:F_law_all_k22=jv 6 (zM (zW 2 (ja (jI (za (yK zy) zy)))) (zM (xY (zJ (zd 1)) (.nm 3) (zM (qQ 4 (jI zy)) (zM (xY (zA (zC (zd 2))) (.nm 5) fG) (aO 4 (zW 2 (zd 4)))))) (qZ 2))):=rfl
def bJ(q n:Nat)(v:Vc):List D:=qw (n+1) ((rO q).map λ(x:Nat)=>v9 n v λ_=>(x:Int))
theorem J2{q n:Nat}(M:q<=lim)(hn:n+1<=lim)(z I J:Cell) : ∀(L:List Vc) (acc:List D) (c:Cell),acc.length+L.length*q<=lim->∃c',qo (.nm 5) fG (qw n L) [.val (.int q),z,I,J,.own acc,c]=some (.next [.val (.int q),z,I,J,.own (acc++qw (n+1) (L.flatMap λv=>(rO q).map λ(x:Nat)=>v9 n v λ_=>(x:Int))),c'])
 | [],acc,c,_=>⟨c,by simp [qw,qo]⟩
 | v::L,acc,c,h=>by
  have h':acc.length+q+L.length*q<=lim:=by
   have:(v::L).length*q=q+L.length*q:=by simp [Nat.succ_mul];omega
   omega
  obtain⟨c',e⟩:=J2 M hn z I J L (acc++bJ q n v) (.val (.tup (zD n v))) (by simp [bJ];omega);refine⟨c',?_⟩;have O:zN (.nm 0) z7 (zh j4 (zd 1) (yK (za (zd 0) zy))) [Cell.no,Cell.val (.tup (zD n v))] (zD q λi=>(i:Int))=some (bJ q n v):=by
   rw [zF q];unfold bJ qw;rw [uh];refine zu _ _ λx hx=>zv rfl rfl ?_;have:j4 (.tup (zD n v)) (.tup [.int (x:Int)])=some (.tup (zD (n+1) (v9 n v λ_=>(x:Int)))):=by
    show(if (zD n v).length + [D.int (x:Int)].length<=lim then _ else _)=_;rw [if_pos (by simpa using hn)];have:=ZA n 1 v λ_=>(x:Int);rw [<- this];rfl
   simp [this]
  have st:fG [.val (.int q),z,I,J,.own acc,.val (.tup (zD n v))]=some (.next [.val (.int q),z,I,J,.own (acc++bJ q n v),.val (.tup (zD n v))]):=by
   have Y:acc.length+(bJ q n v).length<=lim:=by simp [bJ];omega
   unfold fG;simp only [VB,qb,qa,zT,rQ,rR,xm,zo,rL,z9,qR M,if_true,tm,je,qr,M];rw [show jn 1 [5] [Cell.val (D.int (q:Int)),z,I,J,Cell.own acc,Cell.val (D.tup (zD n v))]=[Cell.no,Cell.val (.tup (zD n v))]from rfl,O];simp only [rL,Y,if_true];rfl
  have e1:qw n (v::L)=D.tup (zD n v)::qw n L:=rfl;rw [e1,jj];show((fG [.val (.int q),z,I,J,.own acc,.val (.tup (zD n v))]).bind _)=_;rw [st];show qo _ _ _ _=_;rw [e];simp [bJ,qw,List.flatMap_cons]
theorem ZQ{q n:Nat}(O:q<=7)(hn:n<=3):F_law_all_k22 [.int q,.int n]=some (.val (.lst (qw n (yZ q n)))):=by
 have hl:=jt;have Y:q<=lim:=by omega
 have a0:n<=lim:=by omega
 have a1 : ∀(k s:Nat) (z c4 c5:Cell),s+k=n->∃I J M,qo (.nm 3) (zM (qQ 4 (jI zy)) (zM (xY (zA (zC (zd 2))) (.nm 5) fG) (aO 4 (zW 2 (zd 4))))) ((Bh s k).map λ(i:Nat)=>D.int i) [.val (.int q),.val (.int n),.val (.lst (qw s (yZ q s))),z,c4,c5]=some (.next [.val (.int q),.val (.int n),.val (.lst (qw n (yZ q n))),I,J,M]):=by
  intro k
  induction k with
  | zero=>
   intro s z c4 c5 h;obtain rfl:s=n:=by omega
   exact⟨z,c4,c5,rfl⟩
  | succ k ih=>
   intro s z c4 c5 h;have a3:([]:List D).length+(yZ q s).length*q<=lim:=by
    rw [yY];have:q ^ s*q=q ^ (s+1):=(Nat.pow_succ ..).symm;have h2:q ^ (s+1)<=7 ^ (s+1):=AI O _;have h3:7 ^ (s+1)<=7 ^ 3:=AA ⋯ ⋯;simp;omega
   obtain⟨d5,e⟩:=J2 (n:=s) Y ⋯ (.val (.int n)) (.val (.lst (qw s (yZ q s)))) (.val (.int s)) (yZ q s) [] c5 a3;obtain⟨I,J,M,e'⟩:=ih (s+1) (.val (.int s)) (.val (.lst (qw (s+1) (yZ q (s+1))))) d5 ⋯;refine⟨I,J,M,?_⟩;rw [Am,sJ,jj];simp only [xo,rL,sW,sV];rw [jh];simp only [fg,fi,kW,rL,Bi,WT,if_true,sj,sW,sV];rw [jh,XS];simp only [xX,qN,zT,rQ,rR,zo,rL,xI,sj];rw [e];simp only [rL,lK,rQ,rR,xm,XQ,zT,sW,sV,zo,sj,List.nil_append];exact e'
 obtain⟨z,c4,c5,e⟩:=a1 n 0 .no .no .no ⋯;rw [<- uQ]at e;rw [fu];simp [jv,jP,jh,rY,a0,je];rw [zF n λi=>(i:Int)];have e0:qw 0 (yZ q 0)=[D.tup []]:=rfl;rw [e0]at e;rw [e];simp
theorem Xt{p:Int}{h w:Nat}(f:Nat->Nat->Int)(g:Nat->Int)(z:0<p)(I:h<=lim)(hw:w<=lim)(J : ∀i j,i<h->j<w->0<=f i j/\f i j<100) :
 F_law_led_k22 [.int p,.tup (zG h w f),.tup (zD w g)]=some (.val (.tup (zD h λi=>app f w g i%p))):=by
 have M:zN (.nm 0) z7 (zh jA (cG (jb (zB (Z8 (zd 0) (zd 2)) (.tp [0,1]) 2 [] z7 (zh qg (zd 0) (zd 1))))) (zd 1)) [Cell.no,Cell.val (.int p),Cell.val (.tup (zD w g))] (zG h w f)=some (zD h λi=>app f w g i%p):=by
  unfold zG;rw [zF h];refine zu _ _ λi hi=>zv rfl rfl ?_;have hi:=rV.mp hi;have O:zN (.tp [0,1]) z7 (zh qg (zd 0) (zd 1)) [Cell.no,Cell.no] ((rO w).map λj=>D.tup [.int (f i j),.int (g j)])=some (zD w λj=>f i j*g j):=by
   rw [zF w];refine zu _ _ λj Y=>zv rfl rfl ?_;have:=J i j hi (rV.mp Y);simp [qi (f i j) (g j) ⋯ ⋯]
  simp [xN,hw,jn,rY,O,y9,z];rfl
 simp [F_law_led_k22,jv,jP,I,jn,j9,rY,M]
theorem Vo(xs:List D)(n:Nat)(hn:xs.length=n)(a4 : ∀i (h:i<n),∃z,xs[i]'(hn ▸ h) = .int z)(bn:n<=63)(k:Int)(hk:0<=k)(bv:k<100000) :
 ∃m,F_law_cell [.lst xs,.int k]=some (.val (.int m))/\0<=m/\m<1000000007:=by
 have J : ∀x:Int,yw x 48271=true:=λx=>Vu _ _ ⋯ ⋯;have M : ∀x:Int,yw 7 x=true:=λx=>qi _ _ ⋯ ⋯;have O : ∀x:Int,yw 13 x=true:=λx=>qi _ _ ⋯ ⋯;have c4 : ∀x:Int,yw x 69621=true:=λx=>Vu _ _ ⋯ ⋯;have c5:yw (7*k) k=true:=Vu _ _ ⋯ ⋯;have I:ly 10 9=true:=by decide
 have Y:ly 10 30=true:=by decide
 have hl:lim=2500:=rfl;by_cases an:n=0
 ·subst an
  have e0:xs=[]:=sS hn;subst e0;simp [F_law_cell,jv,jP,jh,J,M,O,c4,c5,I,Y];omega
 ·have hp:0<n:=by omega
  obtain⟨i,hi⟩:=tW (sU k (show(n:Int)≠0 by omega));have a5:i<n:=by have:=sG k (show(0:Int)<n by omega);omega
  obtain⟨zi,ei⟩:=a4 i a5;have ii:ixD n (i:Int)=some i:=by rw [jq,if_pos a5]
  by_cases h1:n=1
  ·subst h1
   have i0:i=0:=by omega
   subst i0;have k1:k%1=0:=by omega
   simp [F_law_cell,jv,jP,jh,J,M,O,c4,c5,I,Y,hn,ei];omega
  ·obtain⟨z0,e0⟩:=a4 0 hp
   have i0:ixD n 0=some 0:=by have:=jq n 0;rw [if_pos hp]at this;exact this
   have q1:(0:Int)<(n:Int) - 1:=by omega
   have q2:(1:Int)<(n:Int):=by omega
   have am:1<n:=by omega
   have q3:(n:Int) - 1<1073741824:=by omega
   have q4:(0:Int)<(n:Int):=by omega
   obtain⟨j,hj⟩:=tW (sU k (show(n:Int) - 1≠0 by omega));have a6:1+j<n:=by have:=sG k q1;omega
   obtain⟨zj,ej⟩:=a4 (1+j) a6;have ij:ixD n (1+(j:Int))=some (1+j):=by
    have:=jq n (1+j);rw [if_pos a6]at this;rw [<- this];congr 1
   have hd:0<=k/((n:Int) - 1)/\k/((n:Int) - 1)<=k:=⟨Int.ediv_nonneg hk ⋯,Int.ediv_le_self _ hk⟩;obtain⟨t,ht⟩:=tW hd.1;by_cases ha:z0%2=1
   ·obtain⟨t',bg,c7⟩ : ∃t':Nat,(if (t:Int)<60 then (t:Int)else 60)=t'/\t'<=60:=by
     split
     ·exact⟨t,rfl,by omega⟩
     ·exact⟨60,rfl,by omega⟩
    have bi:inR (t':Int)=true:=yv ⋯ ⋯;simp [F_law_cell,jv,jP,jh,J,M,O,c4,c5,hn,hp,a6,q2,am,e0,i0,q1,q3,ha,hj,ij,ej,ht,I,Y];rw [bg,if_pos bi];simp only [rL,je,tm];rw [zF t' λi=>(i:Int)];have bl : ∀(m s:Nat) (v:Int) (c:Cell),∃v' c',qo (.nm 3) (zW 2 (zh ko (zd 2) (zh eH (zk (D.int 10)) (zk (D.int 9))))) ((Bh s m).map λ(i:Nat)=>D.int i) [.val (.lst xs),.val (.int k),.val (.int v),c,.no] =
     some (.next [.val (.lst xs),.val (.int k),.val (.int v'),c',.no]):=by
     intro m
     induction m with
     | zero=>intro s v c;exact⟨v,c,rfl⟩
     | succ m ih=>
      intro s v c;rw [Am,sJ,jj];obtain⟨v',c',h⟩:=ih (s+1) (v/10 ^ 9) (.val (.int s));refine⟨v',c',?_⟩;rw [<- h];simp [I]
    obtain⟨v',c',h⟩:=bl t' 0 zj .no;rw [<- uQ]at h;rw [h];simp [I];omega
   ·simp [F_law_cell,jv,jP,jh,J,M,O,c4,c5,hn,q2,am,q4,hp,e0,i0,ha,hi,ei,a5,ii,I,Y]
    omega
theorem eQ(ns:List Int)(hn:ns.length<=63)(k:Int)(z:0<=k)(I:k<100000) : ∃m,F_law_cell [xV ns,.int k]=some (.val (.int m))/\0<=m/\m<1000000007:=
 Vo (ns.map D.int) ns.length ⋯ (λi hi=>⟨ns[i],by simp⟩) hn k z I
def qJ(ns:List Int)(k:Int):Int:=match F_law_cell [xV ns,.int k]with
 | some (.val (.int m))=>m
 | _=>0
theorem yi{ns:List Int}(hn:ns.length<=63){k:Int}(z:0<=k)(I:k<100000):F_law_cell [xV ns,.int k]=some (.val (.int (qJ ns k)))/\0<=qJ ns k/\qJ ns k<1000000007:=by
 obtain⟨m,h,h1,h2⟩:=eQ ns hn k z I;have e:qJ ns k=m:=by unfold qJ;rw [h]
 rw [e];exact⟨h,h1,h2⟩
def jk(bs:List (Int×Int)):List D:=bs.map λb=>D.tup [.int b.1,.int b.2]
@[simp] theorem kQ(bs):(jk bs).length=bs.length:=by simp [jk]
theorem wK : ∀bs,yu (jk bs)=some bs
 | []=>rfl
 | b::bs=>by
  have z:=wK bs;unfold jk at z;simp [jk,yu,WG,z]
def Qb(bs:List (Int×Int)):List (Int×Int):=(qL bs).map λi=>bs.getD i (0,0)
theorem wC(bs):(Qb bs).Perm bs:=by
 have:=(qF bs).map λi=>bs.getD i (0,0);rw [ka]at this;exact this
theorem Yb{bs:List (Int×Int)}(h:bs.length<64):Kb (jk bs)=some (jk (Qb bs)):=by
 unfold Kb;rw [wK];show(if (jk bs).length<64 then some ((qL bs).map λi=>(jk bs).getD i .non)else none)=_;rw [kQ,if_pos h];unfold Qb;congr 1;unfold jk;rw [uh];refine sf λi hi=>?_;have hi:i<bs.length:=rV.mp ((qF bs).mem_iff.mp hi);simp [hi]
def bK(n:Int)(b:Int×Int):Prop:=0<=b.1/\b.1<=b.2/\b.2<n
@[simp] theorem mC(γ f):Ja f γ=(f γ).bind λa=>match a.1 with
 | .L=>Kb a.2
 | _=>none:=rfl
@[simp] theorem fC(r):j9 (.nest r) = .no:=rfl
@[simp] theorem iy(r):j9 (.own r) = .no:=rfl
@[simp] theorem ix(d):j9 (.val d) = .val d:=rfl
@[simp] theorem lX:j9 .no = .no:=rfl
theorem JO{T:Tg}{f:CO (List D)}{γ:Ctx}{g:Nat->D}{R:Nat->List D} : ∀(l:List Nat),(∀k∈l,∃γ1,jx T (g k) γ=some γ1/\f γ1=some (R k))->kr T f γ (l.map g)=some (l.map R)
 | [],_=>rfl
 | k::l,h=>by
  obtain⟨γ1,h1,h2⟩:=h k rX;have z:=JO l λx I=>h x (sd _ I);simp [kr,h1,h2,z]
def begR(w:Nat->Bool)(k:Nat):Nat:=if w k then k+1 else k
def endR(w:Nat->Bool)(k:Nat):Nat:=if w k then k else k+1
theorem JD(w:Nat->Bool)(wd:Nat->Nat)(k):hiW w wd k=wd (endR w k):=by unfold hiW endR;split<;>rfl
theorem ZW(w:Nat->Bool)(wd:Nat->Nat)(k):wiW w wd k=wd (begR w k):=by unfold wiW begR;split<;>rfl
theorem Vw(w:Nat->Bool){k m:Nat}(h:k<m):begR w k<m+1:=by unfold begR;split<;>omega
theorem Vd(w:Nat->Bool){k m:Nat}(h:k<m):endR w k<m+1:=by unfold endR;split<;>omega
section
variable{p:Int}{m:Nat}{w:Nat->Bool}{wd:Nat->Nat}{f g T:Nat->Nat->Nat->Int}
theorem KC(m:Nat)(F:Nat->D):xl ((rO m).map F)=(rO m).map λ(k:Nat)=>D.tup [.int k,F k]:=by
 unfold xl;rw [sC,tf];apply sf;intro k z;have z:=rV.mp z;simp [z]
end
@[simp] theorem vU(γ:Ctx)(f):qG f γ=(f γ).bind λd=>match d with
 | .str z=>if jg z=true then some (xl (qz z))else none
 | _=>none:=rfl
@[simp] theorem aA(γ:Ctx)(f g):Wh f g γ=(f γ).bind λd=>(g γ).bind λe=>match d,e with
 | .str x,.str y=>if jg x=true/\jg y=true then some (.str (x++y))else none
 | _,_=>none:=rfl
theorem yf(m:Nat)(w:Nat->Bool):xl (qz (qc m w))=(rO m).map λ(k:Nat)=>D.tup [.int k,.str (qt (wch (w k)))]:=by
 have e:qz (qc m w)=(rO m).map λk=>D.str (qt (wch (w k))):=by
  unfold qz;rw [xP,uh];rfl
 unfold xl;rw [e];simp only [sC,tf];refine sf λk z=>?_;simp [rV.mp z]
theorem Qx(w:Nat->Bool)(k:Nat):F_law_ends_k22 [.int k,.str (qt (wch (w k)))]=some (.val (.tup [.int ((begR w k:Nat):Int),.int ((endR w k:Nat):Int)])):=by
 have q:=eB (w k);cases h:w k<;>rw [h]at q<;>simp [F_law_ends_k22,jv,jP,jh,q,begR,endR,h]
theorem KR(s:Nat)(w:Nat->Bool):qc s w++qt (wch (w s))=qc (s+1) w:=by
 have h:(qc s w++qt (wch (w s))).cps.toList=(qc (s+1) w).cps.toList:=by
  show((qc s w).cps++(qt (wch (w s))).cps).toList=_;rw [Array.toList_append,xP,xP,uN,uf];rfl
 have h2:=Array.toList_inj.mp h;generalize qc s w++qt (wch (w s))=a at h2;generalize qc (s+1) w=b at h2;cases a;cases b;exact congrArg Str.mk h2
theorem fO{c:Int}(hc:0<=c){m:Nat}(hm:m<=5) : ∃w,F_law_ways_k22 [.int c,.int (1+(m:Int))]=some (.val (.str (qc m w))):=by
 have hl:=jt;have M:m<=lim:=by omega
 refine⟨λk=>decide (c/2 ^ k%2=1),?_⟩;generalize hw:(λk:Nat=>decide (c/2 ^ k%2=1))=w;have O : ∀(k s:Nat) (z:Cell),s+k=m->∃I J,qo (.nm 3) (zM (zW 2 (Wh (zd 2) (Z9 (zk (.str "rl")) (zh jA (zd 0) (zk (.int 2)))))) (zW 0 (zh ko (zd 0) (zk (.int 2))))) ((Bh s k).map λ(i:Nat)=>D.int i) [.val (.int (c/2 ^ s)),.val (.int (1+(m:Int))),.val (.str (qc s w)),z] =
  some (.next [I,.val (.int (1+(m:Int))),.val (.str (qc m w)),J]):=by
  intro k
  induction k with
  | zero=>
   intro s z h;obtain rfl:s=m:=by omega
   exact⟨_,z,rfl⟩
  | succ k Y=>
   intro s z h;obtain⟨I,J,e⟩:=Y (s+1) (.val (.int s)) ⋯;refine⟨I,J,?_⟩;rw [Am,sJ,jj];have sx:Z9 (zk (.str "rl")) (zh jA (zd 0) (zk (.int 2))) [.val (.int (c/2 ^ s)),.val (.int (1+(m:Int))),.val (.str (qc s w)),.val (.int s)]=some (.str (qt (wch (w s)))):=by
    have ev:zh jA (zd 0) (zk (.int 2)) [.val (.int (c/2 ^ s)),.val (.int (1+(m:Int))),.val (.str (qc s w)),.val (.int s)]=some (.int (c/2 ^ s%2)):=by simp
    rw [az,ev];have q:c/2 ^ s%2=0\/c/2 ^ s%2=1:=by omega
    have ws:w s=decide (c/2 ^ s%2=1):=by rw [<- hw]
    rw [ws];rcases q with q | q
    ·rw [q];rfl
    ·rw [q];rfl
   have s1:=xO w (show s<=1000 by omega);have s2:jg (qt (wch (w s)))=true:=rfl;have dv:c/2 ^ s/2=c/2 ^ (s+1):=by rw [Int.pow_succ,Int.ediv_ediv_of_nonneg (Int.pow_nonneg ⋯)]
   simp only [xo,rL,sW,sV];rw [jh];simp only [XQ,aA,zT,rQ,rR,zo,rL,sx,s1,s2,and_self,if_true,KR,sj,sW,sV];simp only [vW,zT,xq,rQ,zo,rL,ag];rw [if_pos ⟨by omega,by omega⟩,dv];exact e
 obtain⟨c0,z,e⟩:=O m 0 .no ⋯;rw [<- uQ]at e;have c1:c/2 ^ 0=c:=by simp
 have e1:(1:Int)+(m:Int) - 1=(m:Int):=by omega
 have w0:qc 0 w=("" : Str):=rfl;rw [c1,w0]at e;simp [F_law_ways_k22,jv,jP,jh,e1,M,je,rY];rw [zF m λi=>(i:Int),e];simp
def Jg:CO Fl:=(zM (Jb (.tp [7,8]) (zx F_law_ends_k22 (za (zd 5) (za (zd 6) zy)))) (qH 4 (yK (za (zd 6) (za (yK (za (sIx (zf 2) (zd 8)) (za (sIx (zf 2) (zd 7)) (za (zI (jb (zB (zA (zC (sIx (zf 3) (zd 5)))) (.nm 0) 1 [] z7 (zI (zf 0))))) zy)))) zy)))))
theorem Yi:F_law_row_k22=jv 9 (zM (qQ 4 (jI zy)) (zM (xY (qG (zd 1)) (.tp [5,6]) Jg) (qB (yK (za (zd 0) (za (zI (zf 2)) (za (zI (zf 4)) zy))))))):=rfl
section
variable{p:Int}{m:Nat}{w:Nat->Bool}{wd:Nat->Nat}{T:Nat->Nat->Nat->Int}
def xx(w:Nat->Bool)(wd:Nat->Nat)(T:Nat->Nat->Nat->Int)(m:Nat):List D:=(rO m).map λk=>D.lst (jQ (hiW w wd k) (wiW w wd k) (T k))
@[simp] theorem K2(m):(xx w wd T m).length=m:=by simp [xx]
theorem KL(k):xJ (k+1) w wd T=xJ k w wd T++[bF w wd T k]:=by simp [xJ,uN]
theorem WQ(h v:Nat)(f:Nat->Nat->Int):zN (.nm 0) z7 (zI (zf 0)) [Cell.no] (jQ h v f)=some (zG h v f):=by
 unfold jQ zG;refine zu _ _ λy z=>zv rfl rfl ?_;simp
abbrev rc(p:Int)(m:Nat)(w:Nat->Bool)(wd:Nat->Nat)(T:Nat->Nat->Nat->Int)(acc:List D)(c5 c6 c7 c8:Cell):Ctx:=[.val (.int p),.val (.str (qc m w)),.val (.lst (zD (m+1) λk=>(wd k:Int))),.val (.lst (xx w wd T m)),.own acc,c5,c6,c7,c8]
theorem Kg(hm:m<=5)(I : ∀k,wd k<=7){k:Nat}(z:k<m)(acc:List D)(ha:acc.length<lim)(c7 c8:Cell) : ∃J M,Jg (rc p m w wd T acc (.val (.int k)) (.val (.str (qt (wch (w k))))) c7 c8)=some (.next (rc p m w wd T (acc++[bF w wd T k]) (.val (.int k)) (.val (.str (qt (wch (w k))))) J M)):=by
 have hl:=jt;have h1:=Vd w z;have h2:=Vw w z;have O:hiW w wd k<=lim:=by rw [JD];have:=I (endR w k);omega
 have Y:ixD (m+1) ((endR w k:Nat):Int)=some (endR w k):=by rw [jq,if_pos h1]
 have i2:ixD (m+1) ((begR w k:Nat):Int)=some (begR w k):=by rw [jq,if_pos h2]
 have i3:ixD m (k:Int)=some k:=by rw [jq,if_pos z]
 have w1:(zD (m+1) λk=>(wd k:Int))[endR w k]? = some (.int (wd (endR w k):Int)):=yU (n:=m+1) (λk=>(wd k:Int)) h1;have w2:(zD (m+1) λk=>(wd k:Int))[begR w k]? = some (.int (wd (begR w k):Int)):=yU (n:=m+1) (λk=>(wd k:Int)) h2;have tx:(xx w wd T m)[k]? = some (D.lst (jQ (hiW w wd k) (wiW w wd k) (T k))):=by simp [xx,z]
 refine⟨.val (.int ((begR w k:Nat):Int)),.val (.int ((endR w k:Nat):Int)),?_⟩;unfold Jg;rw [jh,ff,vV];simp only [rc,xK,kW,zT,rQ,rR,zo,rL,sj,Qx,yM,vS,sW,sV];have cm:(zB (zA (zC (sIx (zf 3) (zd 5)))) (.nm 0) 1 [] z7 (zI (zf 0))) [.val (.int p),.val (.str (qc m w)),.val (.lst (zD (m+1) λk=>(wd k:Int))),.val (.lst (xx w wd T m)),.own acc,.val (.int k),.val (.str (qt (wch (w k)))),.val (.int ((begR w k:Nat):Int)),.val (.int ((endR w k:Nat):Int))]=some (zG (hiW w wd k) (wiW w wd k) (T k)):=by
  simp only [qb,xX,qN,yE,qp,zT,rQ,rR,zo,zU,xI,rL,sj,z9,K2,i3,tx,yh,O,if_true];exact WQ _ _ _
 simp only [J1,lF,xK,kW,zT,yE,qp,xW,yk,cm,rQ,rR,zo,zU,xm,xI,rL,sj,z9,qr,Y,i2,w1,w2,sP,Bi,ha,if_true];rw [<- JD w wd k,<- ZW w wd k];rfl
theorem wt(hm:m<=5)(M : ∀k,wd k<=7):F_law_row_k22 [.int p,.str (qc m w),.lst (zD (m+1) λk=>(wd k:Int)),.lst (xx w wd T m)]=some (.val (qv p m w wd T)):=by
 have hl:=jt;have O:=xO w (show m<=1000 by omega);have Y : ∀(k s:Nat) (c5 c6 c7 c8:Cell),s+k=m->∃a0 a1 a2 a3,qo (.tp [5,6]) Jg ((Bh s k).map λ(k:Nat)=>D.tup [.int k,.str (qt (wch (w k)))]) (rc p m w wd T (xJ s w wd T) c5 c6 c7 c8)=some (.next (rc p m w wd T (xJ m w wd T) a0 a1 a2 a3)):=by
  intro k
  induction k with
  | zero=>
   intro s c5 c6 c7 c8 h;obtain rfl:s=m:=by omega
   exact⟨c5,c6,c7,c8,rfl⟩
  | succ k ih=>
   intro s c5 c6 c7 c8 h;obtain⟨z,I,e⟩:=Kg (p:=p) (w:=w) (T:=T) hm M (show s<m by omega) (xJ s w wd T) (by simp;omega) c7 c8;obtain⟨a5,a6,a7,a8,J⟩:=ih (s+1) (.val (.int s)) (.val (.str (qt (wch (w s))))) z I ⋯;refine⟨a5,a6,a7,a8,?_⟩;rw [Am,sJ,jj];show((Jg (rc p m w wd T _ (.val (.int s)) (.val (.str (qt (wch (w s))))) c7 c8)).bind _)=_;rw [e];rw [KL]at J;exact J
 obtain⟨d5,d6,z,I,e⟩:=Y m 0 .no .no .no .no ⋯;rw [<- uQ]at e;rw [Yi];unfold jv;rw [jh];show(zM _ _ (rc p m w wd T [] .no .no .no .no)).bind _=_;rw [jh,XS,vU];simp only [rc,zT,rQ,rR,zo,rL,O,if_true,yf];have e0:xJ 0 w wd T=[]:=rfl;simp only [rc,e0]at e;rw [e];simp;rfl
def ibB:CO Fl:=(sIf (Jc (qd (sB (sIs .tuple (zd 2)))) (Jc (qd (sB (Wi (jb (zB (zA (zf 2)) (.nm 0) 1 [] z7 (zx F_law_whole (za (zd 0) zy))))))) (sB (zh dNe (zd 2) (zd 3))))) (qB (zk (.bl false))) jS)
theorem iQ:F_law_is_base_k22=jv 4 (zM (sIf (Jc (qd (sB (sIs .list (zd 0)))) (sB (zh dNe (wg (zf 0)) (wg (zf 1))))) (qB (zk (.bl false))) jS) (zM (xY (Z8 (zd 0) (zd 1)) (.tp [2,3]) ibB) (qB (zk (.bl true))))):=rfl
theorem vJ{r n:Nat}(B:Nat->Vc)(O:r<=lim)(hn:n<=lim):F_law_is_base_k22 [.lst (zG r n B),.lst (zG r n B)]=some (.val (.bl true)):=by
 have cells : ∀f:Nat->Int,zN (.nm 0) z7 (zx F_law_whole (za (zd 0) zy)) [Cell.no] (zD n f)=some ((rO n).map λ_=>D.bl true):=λf=>by
  rw [zF];refine zu _ _ λy Y=>zv rfl rfl ?_;simp [QH]
 have z:XX (zG r n B) (zG r n B)=(rO r).map λk=>D.tup [.tup (zD n (B k)),.tup (zD n (B k))]:=by
  unfold XX zG;rw [List.zip_map'];simp
 have step : ∀(a b:Cell) (f:Nat->Int),ibB [a,b,.val (.tup (zD n f)),.val (.tup (zD n f))]=some (.next [a,b,.val (.tup (zD n f)),.val (.tup (zD n f))]):=λa b f=>by
  have ne:=ZD (dN n f);have I:=cells f;unfold ibB;simp [Y0,hn,jn,j9,rY,I,ZZ,ne]
 have J : ∀(l:List Nat) (a b c d:Cell),∃c' d',qo (.tp [2,3]) ibB (l.map λk=>D.tup [.tup (zD n (B k)),.tup (zD n (B k))]) [a,b,c,d]=some (.next [a,b,c',d']):=by
  intro l
  induction l with
  | nil=>intro a b c d;exact⟨c,d,rfl⟩
  | cons k l M=>
   intro a b c d;obtain⟨c',d',h⟩:=M a b (.val (.tup (zD n (B k)))) (.val (.tup (zD n (B k))));refine⟨c',d',?_⟩;rw [sJ,jj];show((ibB [a,b,.val (.tup (zD n (B k))),.val (.tup (zD n (B k)))]).bind _)=_;rw [step];exact h
 obtain⟨c',d',h⟩:=J (rO r) (.val (.lst (zG r n B))) (.val (.lst (zG r n B))) .no .no;rw [<- z]at h;have ne : ∀x:Int,dNe (.int x) (.int x)=some (.bl false):=λx=>ZD rfl;rw [iQ];unfold jv;rw [show jP 4 [D.lst (zG r n B),D.lst (zG r n B)]=[.val (.lst (zG r n B)),.val (.lst (zG r n B)),.no,.no]from rfl];simp [jh,Y0,ne];rw [h];simp
end
theorem yN{T:Tg}{F:XF}(P:Nat->Ctx->List (List Int)->List D->Prop) : ∀(ds:List D) (n:Nat) (γ:Ctx) (ks:List (List Int)) (vs:List D),P n γ ks vs->
 (∀i d γ ks vs,ds[i]? = some d->P (n+i) γ ks vs->∃γ1 r,jx T d γ=some γ1/\F γ1 ks vs=some r/\P (n+i+1) r.1 r.2.1 r.2.2)->∃r,kD T F ds γ ks vs=some r/\P (n+ds.length) r.1 r.2.1 r.2.2
 | [],n,γ,ks,vs,h,_=>⟨(γ,ks,vs),rfl,h⟩
 | d::ds,n,γ,ks,vs,h,st=>by
  obtain⟨γ1,r,e1,e2,h2⟩:=st 0 d γ ks vs rfl h;obtain⟨r',z,I⟩:=yN P ds (n+1) r.1 r.2.1 r.2.2 h2 λi d γ ks vs hd J=>by
   have:=st (i+1) d γ ks vs hd (by rw [show n+(i+1)=n+1+i by omega];exact J)
   rwa [show n+(i+1)+1=n+1+i+1 by omega]at this
  refine⟨r',?_,by rw [sP,show n+(ds.length+1)=n+1+ds.length by omega];exact I⟩;show((jx T d γ).bind λγ1=>(F γ1 ks vs).bind λr=>kD T F ds r.1 r.2.1 r.2.2)=_;rw [e1,rL,e2,rL];exact z
theorem Xm{α:Type} [DecidableEq α] : ∀(l m:List α),l.Nodup->(∀x∈l,x∈m)->l.length<=m.length
 | [],_,_,_=>tZ _
 | a::l,m,nd,h=>by
  have z:=ux.mp nd;have ha:=h a rX;have:=Xm l (m.erase a) z.2 λx I=>(List.mem_erase_of_ne (λe=>z.1 (by rw [<- e];exact I))).mpr (h x (sd _ I));rw [List.length_erase_of_mem ha]at this;have:0<m.length:=List.length_pos_of_mem ha;rw [sP];omega
def vecL(n:Nat)(v:Vc):List Int:=(rO n).map v
theorem aH(n:Nat)(v:Vc):(vecL n v).map D.int=zD n v:=by unfold vecL zD;rw [uh];rfl
theorem vecL_ext{n:Nat}{u v:Vc}:vecL n u=vecL n v ↔ ∀i,i<n->u i=v i:=by
 unfold vecL;rw [List.map_inj_left];exact⟨λh i hi=>h i (rV.mpr hi),λh i hi=>h i (rV.mp hi)⟩
theorem Zv(n:Nat)(v:Vc):W2 (.tup (zD n v))=some (vecL n v):=by
 rw [<- aH];have : ∀l:List Int,W2 (.tup (l.map D.int))=some l:=λl=>by
  show kn _=_
  induction l with
  | nil=>rfl
  | cons a l z=>simp only [sJ,kn,z];rfl
 exact this _
theorem putKZ_mem{ks:List (List Int)}{k x:List Int}:x∈vn ks k↔x∈ks\/x=k:=by
 unfold vn;split
 ·next h=>exact⟨.inl,λz=>z.elim id λe=>e ▸ h⟩
 ·rw [Au,tK]
theorem Qg{ks:List (List Int)}{k:List Int}(h:ks.Nodup):(vn ks k).Nodup:=by
 unfold vn;split
 ·exact h
 ·next z=>exact List.nodup_append.mpr ⟨h,by simp,λa ha b I=>by rw [tK.mp I];exact λe=>z (e ▸ ha)⟩
section
variable{p:Int}{q n:Nat}{g:Nat->Vc}
structure GK(p:Int)(n:Nat)(ks:List (List Int)):Prop where
 nd:ks.Nodup
 lo : ∀k∈ks,∃v:Vc,k=vecL n v/\∀i,i<n->0<=v i/\v i<p
theorem GK.len{z:Nat}(Y:p=z){ks:List (List Int)}(h:GK p n ks):ks.length<=z ^ n:=by
 rw [<- yY z n,<- sC (f:=vecL n)];refine Xm _ _ h.nd λk I=>?_;obtain⟨v,e,J⟩:=h.lo k I;obtain⟨u,M,O⟩:=ZK (q:=z) (n:=n) v (λi hi=>by have:=J i hi;omega);exact uS.mpr ⟨u,M,by rw [e,vecL_ext];exact O⟩
theorem GK.put{ks:List (List Int)}(h:GK p n ks){v:Vc}(z : ∀i,i<n->0<=v i/\v i<p):GK p n (vn ks (vecL n v)):=
 ⟨Qg h.nd,λk I=>(putKZ_mem.mp I).elim (h.lo k) λe=>⟨v,e,z⟩⟩
def adL(p:Int)(n:Nat)(u g:Vc)(x:Int):List Int:=vecL n λi=>(u i+x*g i)%p
abbrev yl(p:Int)(n q:Nat)(g:Nat->Vc)(c4 c5 c6:Cell):Ctx:=[.val (.int p),.val (.int (n:Int)),.val (.lst (zG q n g)),.no,c4,c5,c6]
def Yo:XF:=(nq (zI (jb (zB (Z8 (zd 5) (zd 4)) (.tp [0,1]) 2 [0,6] z7 (zh jA (zh j4 (zd 0) (zh qg (zd 3) (zd 1))) (zd 2))))) (zk (.bl true)))
def mN:XF:=(aT 3 (qk (zk (.int 1)) (zd 0)) (.nm 6) Yo)
def iC:XF:=(Wn 3 (.nm 5) mN)
theorem V9:F_law_span=jv 7 (zM (We 3 (zI (jb (zB (zJ (zd 1)) (.nm 0) 1 [] z7 (zk (.int 0))))) (zk (.bl true)) (nk (aT 3 (zA (zC (zd 2))) (.nm 4) iC) lW)) (qZ 3)):=rfl
theorem nu(z:Pr p)(hn:n<=3)(u w:Vc)(hw : ∀i,i<n->0<=w i/\w i<p){x:Int}(hx:0<=x/\x<p){ks:List (List Int)}(I:ks.length<lim)(vs:List D) :
 ∃J,Yo (yl p n q g (.val (.tup (zD n w))) (.val (.tup (zD n u))) (.val (.int x))) ks vs=some (yl p n q g (.val (.tup (zD n w))) (.val (.tup (zD n u))) (.val (.int x)),vn ks (adL p n u w x),J):=by
 have hl:=jt;have M:=z.pos;have p7:=z.le;have O:n<=lim:=by omega
 have Y:XX (zD n u) (zD n w)=(rO n).map λi=>D.tup [.int (u i),.int (w i)]:=xN _ _ _;have ki:zN (.tp [0,1]) z7 (zh jA (zh j4 (zd 0) (zh qg (zd 3) (zd 1))) (zd 2)) [Cell.no,Cell.no,.val (.int p),.val (.int x)] ((rO n).map λi=>D.tup [.int (u i),.int (w i)])=some (zD n λi=>(u i+x*w i)%p):=by
  rw [zF];refine zu _ _ λi hi=>zv rfl rfl ?_;have cm:yw x (w i)=true:=qi _ _ ⋯ ⋯;show zh _ _ _ [Cell.val (.int (u i)),Cell.val (.int (w i)),.val (.int p),.val (.int x)]=_;simp [cm,M]
 have ev:zI (jb (zB (Z8 (zd 5) (zd 4)) (.tp [0,1]) 2 [0,6] z7 (zh jA (zh j4 (zd 0) (zh qg (zd 3) (zd 1))) (zd 2)))) (yl p n q g (.val (.tup (zD n w))) (.val (.tup (zD n u))) (.val (.int x)))=some (.tup (zD n λi=>(u i+x*w i)%p)):=by
  simp only [yl,xW,yk,qb,bG,zT,rQ,rR,zo,jE,rL,sj,Y,sC,tf,O,if_true];rw [show jn 2 [0,6] (yl p n q g (.val (.tup (zD n w))) (.val (.tup (zD n u))) (.val (.int x)))=[Cell.no,Cell.no,.val (.int p),.val (.int x)]from rfl,ki];rfl
 refine⟨Jn ks vs (adL p n u w x) (.bl true),?_⟩;show((some (D.bl true)).bind λv=>((zI (jb (zB (Z8 (zd 5) (zd 4)) (.tp [0,1]) 2 [0,6] z7 (zh jA (zh j4 (zd 0) (zh qg (zd 3) (zd 1))) (zd 2)))) (yl p n q g (.val (.tup (zD n w))) (.val (.tup (zD n u))) (.val (.int x)))).bind W2).bind λk=>if ks.length<lim then some (yl p n q g (.val (.tup (zD n w))) (.val (.tup (zD n u))) (.val (.int x)),vn ks k,Jn ks vs k v)else none)=_;rw [ev,rL,rL,Zv,rL,if_pos I];rfl
theorem lN(z:0<p)(u w:Vc)(x:Int) : ∀i,i<n->0<=(λi=>(u i+x*w i)%p) i/\(λi=>(u i+x*w i)%p) i<p:=λi _=>⟨sU _ ⋯,sG _ z⟩
theorem pO(J:Pr p){z:Nat}(hz:p=z)(hn:n<=3)(u w:Vc)(hw : ∀i,i<n->0<=w i/\w i<p){ks:List (List Int)}(hk:GK p n ks)(vs:List D)(c6:Cell) :
 ∃M I O,mN (yl p n q g (.val (.tup (zD n w))) (.val (.tup (zD n u))) c6) ks vs=some (yl p n q g (.val (.tup (zD n w))) (.val (.tup (zD n u))) M,I,O)/\GK p n I/\∀k,k∈I↔k∈ks\/∃x:Int,1<=x/\x<p/\k=adL p n u w x:=by
 have hl:=jt;have p0:=J.pos;have p7:=J.le;have p2:=J.two;have zn:z ^ n<lim:=by
  have h1:z ^ n<=7 ^ n:=AI ⋯ _;have h2:7 ^ n<=7 ^ 3:=AA ⋯ hn;omega
 obtain⟨r,e,⟨M,e1⟩,h1,h2⟩:=yN (T:= .nm 6) (F:=Yo) (λs γ I _=>(∃c6,γ=yl p n q g (.val (.tup (zD n w))) (.val (.tup (zD n u))) c6)/\GK p n I/\∀k,k∈I↔k∈ks\/∃x:Int,1<=x/\x<=s/\k=adL p n u w x)
  (qf 1 (z - 1)) 0 (yl p n q g (.val (.tup (zD n w))) (.val (.tup (zD n u))) c6) ks vs ⟨⟨c6,rfl⟩,hk,λk=>⟨.inl,λt=>t.elim id λ⟨x,a,b,_⟩=>by omega⟩⟩ (by
    rintro i d γ Y a6 hd ⟨⟨c6,rfl⟩,g1,g2⟩;have hi:i<z - 1:=by
     have:=(rP.mp hd).1;simpa [qf]using this
    obtain rfl:d = .int (1+(i:Int)):=by
     simp [qf,hi]at hd;exact hd.symm
    obtain⟨ac,e2⟩:=nu (q:=q) (g:=g) J hn u w hw (x:=1+(i:Int)) ⋯ (ks:=Y) (Nat.lt_of_le_of_lt (g1.len hz) zn) a6;refine⟨_,_,rfl,e2,⟨_,rfl⟩,g1.put (lN p0 u w _),λk=>?_⟩;show k∈vn Y (adL p n u w (1+(i:Int)))↔_;rw [putKZ_mem,g2];constructor
    ·rintro((a | ⟨x,a,b,c⟩) | a)
     ·exact .inl a
     ·exact .inr ⟨x,a,by omega,c⟩
     ·exact .inr ⟨1+(i:Int),by omega,by omega,a⟩
    ·rintro(a | ⟨x,a,b,c⟩)
     ·exact .inl (.inl a)
     ·by_cases hx:x=1+(i:Int)
      ·exact .inr (by rw [c,hx])
      ·exact .inl (.inr ⟨x,a,by omega,c⟩))
 obtain⟨γ,I,O⟩:=r;dsimp only at e1 h1 h2;subst e1;refine⟨M,I,O,?_,h1,λk=>?_⟩
 ·have r1:inR 1=true:=rfl
  have r2:inR p=true:=yv ⋯ ⋯;show(if yC 3 (.nm 6)=true then (qk (zk (.int 1)) (zd 0) _).bind _ else none)=_;rw [if_pos (show yC 3 (.nm 6)=true by decide)];have:qk (zk (.int 1)) (zd 0) (yl p n q g (.val (.tup (zD n w))) (.val (.tup (zD n u))) c6)=some (qf 1 (z - 1)):=by
   simp [yl,r1,r2];congr 1;omega
  rw [this];exact e
 ·rw [h2]
  have ln:(qf 1 (z - 1)).length=z - 1:=by simp [qf]
  constructor
  ·rintro(a | ⟨x,a,b,c⟩)
   ·exact .inl a
   ·exact .inr ⟨x,a,by rw [ln]at b;omega,c⟩
  ·rintro(a | ⟨x,a,b,c⟩)
   ·exact .inl a
   ·exact .inr ⟨x,a,by rw [ln];omega,c⟩
theorem rh(hp:Pr p){z:Nat}(hz:p=z)(hn:n<=3)(w:Vc)(hw : ∀i,i<n->0<=w i/\w i<p){ks:List (List Int)}(O:GK p n ks)(vs:List D)(c5 c6:Cell) :
 ∃Y J I a0,iC (yl p n q g (.val (.tup (zD n w))) c5 c6) ks vs=some (yl p n q g (.val (.tup (zD n w))) Y J,I,a0)/\GK p n I/\∀k,k∈I↔k∈ks\/∃u:Vc,vecL n u∈ks/\(∀i,i<n->0<=u i/\u i<p)/\∃x:Int,1<=x/\x<p/\k=adL p n u w x:=by
 have hl:=jt;have p7:=hp.le;have zn:z ^ n<lim:=by
  have h1:z ^ n<=7 ^ n:=AI ⋯ _;have h2:7 ^ n<=7 ^ 3:=AA ⋯ hn;omega
 obtain⟨r,e,⟨Y,J,e1⟩,h1,h2⟩:=yN (T:= .nm 5) (F:=mN) (λs γ I _=>(∃c5 c6,γ=yl p n q g (.val (.tup (zD n w))) c5 c6)/\GK p n I/\∀k,k∈I↔k∈ks\/∃t,t<s/\∃u:Vc,ks[t]? = some (vecL n u)/\(∀i,i<n->0<=u i/\u i<p)/\∃x:Int,1<=x/\x<p/\k=adL p n u w x)
  (ks.map λk=> .tup (k.map .int)) 0 (yl p n q g (.val (.tup (zD n w))) c5 c6) ks vs ⟨⟨c5,c6,rfl⟩,O,λk=>⟨.inl,λt=>t.elim id λ⟨t,a,_⟩=>absurd a (sv _)⟩⟩ (by
    rintro i d γ ax a4 hd ⟨⟨c5,c6,rfl⟩,g1,g2⟩;rw [sk]at hd;obtain⟨k0,a1,rfl⟩:=Al.mp hd;obtain⟨u,rfl,hu⟩:=O.lo k0 (sy a1);rw [aH];obtain⟨J,a8,b0,e2,g3,g4⟩:=pO (q:=q) (g:=g) hp hz hn u w hw g1 a4 c6;refine⟨_,_,rfl,e2,⟨_,_,rfl⟩,g3,λk=>?_⟩;show k∈a8↔_;rw [g4,g2];constructor
    ·rintro((a | ⟨t,a,b⟩) | ⟨x,a,b,c⟩)
     ·exact .inl a
     ·exact .inr ⟨t,by omega,b⟩
     ·exact .inr ⟨0+i,by omega,u,by rw [uP];exact a1,hu,x,a,b,c⟩
    ·rintro(a | ⟨t,a,v,b,hv,x,b1,b2,b3⟩)
     ·exact .inl (.inl a)
     ·by_cases M:t=i
      ·subst M
       rw [a1]at b;have:=vecL_ext.mp (sH b);refine .inr ⟨x,b1,b2,?_⟩;rw [b3];exact vecL_ext.mpr λj hj=>by rw [this j hj]
      ·exact .inl (.inr ⟨t,by omega,v,b,hv,x,b1,b2,b3⟩))
 obtain⟨γ,I,a0⟩:=r;dsimp only at e1 h1 h2;subst e1;refine⟨Y,J,I,a0,?_,h1,λk=>?_⟩
 ·show(if yC 3 (.nm 5)=true/\ks.length<=lim then _ else none)=_
  rw [if_pos ⟨by decide,by have:=O.len hz;omega⟩];exact e
 ·rw [h2,sC,uP]
  constructor
  ·rintro(a | ⟨t,a,u,b,c⟩)
   ·exact .inl a
   ·exact .inr ⟨u,sy b,c⟩
  ·rintro(a | ⟨u,a,c⟩)
   ·exact .inl a
   ·obtain⟨t,M,e⟩:=BV.mp a
    exact .inr ⟨t,M,u,by rw [rN M,e],c⟩
theorem K8{j:Nat}(v:Vc)(J:0<p):Span p n (Fam (j+1) g) v ↔ ∃u:Vc,Span p n (Fam j g) u/\∃x:Int,0<=x/\x<p/\∀i,i<n->v i%p=(u i+x*g j i)%p:=by
 constructor
 ·intro h
  induction h with
  | @zero v h0=>exact⟨v,.zero h0,0,by omega,J,λi _=>by simp⟩
  | @step v v' y c M _ h1 O=>
   obtain⟨u,z,x,Y,a0,I⟩:=O;obtain⟨t,ht,rfl⟩:=M;by_cases e:t=j
   ·subst e
    refine⟨u,z,(x+c)%p,sU _ ⋯,sG _ J,λi hi=>?_⟩;rw [h1 i hi,sA,I i hi,<- sA,sA (u i),so ((x+c)%p),tD,<- so,<- sA,Int.add_mul,Int.add_assoc]
   ·refine⟨λi=>u i+c*g t i,Span.add (v:=g t) (w:=u) (.gen ⟨t,by omega,rfl⟩) z c,x,Y,a0,λi hi=>?_⟩
    rw [h1 i hi,sA,I i hi,<- sA];show(u i+x*g j i+c*g t i)%p=(u i+c*g t i+x*g j i)%p;congr 1;omega
 ·rintro⟨u,z,x,_,_,I⟩
  exact .step (c:=x) ⟨j,by omega,rfl⟩ (z.le λy ⟨t,ht,e⟩=> .gen ⟨t,by omega,e⟩) I
end
theorem zH{F G:CO Fl}{γ γ':Ctx}{r:Option Fl}(h:F γ=some (.next γ'))(g:G γ'=r):zM F G γ=r:=by
 rw [jh,h];exact g
theorem j7{n:Nat}{F:CO Fl}{ds:List D}{r:Res}(h:F (jP n ds)=some (.ret r)):jv n F ds=some r:=by
 show(F (jP n ds)).bind _=_;rw [h];rfl
theorem JH{T:Tg}{F:CO Fl}(P:Nat->Ctx->Prop)(n:Nat){γ:Ctx}(h0:P 0 γ)(step : ∀s,s<n->∀γ,P s γ->∃γ1 z,jx T (.int (s:Int)) γ=some γ1/\F γ1=some (.next z)/\P (s+1) z) :
 ∃γ',qo T F ((rO n).map λ(i:Nat)=>D.int (i:Int)) γ=some (.next γ')/\P n γ':=by
 have J : ∀(k s:Nat) (γ:Ctx),s+k=n->P s γ->∃γ',qo T F ((Bh s k).map λ(i:Nat)=>D.int (i:Int)) γ=some (.next γ')/\P n γ':=by
  intro k
  induction k with
  | zero=>
   intro s γ e I;obtain rfl:s=n:=by omega
   exact⟨γ,rfl,I⟩
  | succ k M=>
   intro s γ e I;obtain⟨γ1,z,e1,e2,O⟩:=step s ⋯ γ I;obtain⟨γ',Y,q2⟩:=M (s+1) z ⋯ O;refine⟨γ',?_,q2⟩;rw [Am,sJ,jj,e1];simp only [rL,e2];exact Y
 have:=J n 0 γ ⋯ h0;rw [<- uQ]at this;exact this
theorem Kx{T:Tg}{F:CO Fl}{f:CO D}(P:Nat->Ctx->Prop)(n:Nat)(hn:n<=lim){γ:Ctx}(I:f γ=some (.int (n:Int)))(h0:P 0 γ)(step : ∀s,s<n->∀γ,P s γ->∃γ1 z,jx T (.int (s:Int)) γ=some γ1/\F γ1=some (.next z)/\P (s+1) z) :
 ∃γ',xY (zJ f) T F γ=some (.next γ')/\P n γ':=by
 obtain⟨γ',e,J⟩:=JH P n h0 step;refine⟨γ',?_,J⟩;have M:=jt;have r:inR (n:Int)=true:=yv ⋯ ⋯;rw [XS,qa,I];simp only [rL,z9,r,if_true,tm,je];rw [zF n λi=>(i:Int)];exact e
section
variable{p:Int}{q n:Nat}{g:Nat->Vc}
theorem Qd{x:Int}(h:0<=x/\x<p):x%p=x:=Ax h.1 h.2
theorem ZO(Y:Pr p){z:Nat}(hz:p=z)(hn:n<=3)(hq:q<=100)(hg : ∀j i,j<q->i<n->0<=g j i/\g j i<p) :
 ∃ks vs,F_law_span [.int p,.int n,.lst (zG q n g)]=some (.val (.dct ks vs))/\∀v:Vc,(∀i,i<n->0<=v i/\v i<p)->(vecL n v∈ks↔Span p n (Fam q g) v):=by
 have hl:=jt;have O:=Y.pos;have p7:=Y.le;have a6:n<=lim:=by omega
 have zn:z ^ n<lim:=by
  have h1:z ^ n<=7 ^ n:=AI ⋯ _;have h2:7 ^ n<=7 ^ 3:=AA ⋯ hn;omega
 obtain⟨r,e,⟨c4,c5,c6,e1⟩,h1,h2⟩:=yN (T:= .nm 4) (F:=iC) (λs γ I _=>(∃c4 c5 c6,γ=yl p n q g c4 c5 c6)/\GK p n I/\∀v:Vc,(∀i,i<n->0<=v i/\v i<p)->(vecL n v∈I↔Span p n (Fam s g) v))
  (zG q n g) 0 (yl p n q g .no .no .no) [vecL n λ_=>0] [.bl true] ⟨⟨_,_,_,rfl⟩,⟨by simp,λk hk=>⟨λ_=>0,by simpa using hk,λi _=>⟨by simp,O⟩⟩⟩,λv M=>by
    rw [tK,vecL_ext];constructor
    ·intro h
     exact .zero λi hi=>by rw [h i hi];simp
    ·intro h i hi
     cases h with
     | zero h=>have:=h i hi;rwa [Qd (M i hi)]at this
     | step hg=>obtain⟨k,hk,_⟩:=hg;exact absurd hk (sv _)⟩ (by
    rintro i d γ a9 ac hd ⟨⟨c4,c5,c6,rfl⟩,g1,g2⟩;rw [uP]at g2 ⊢;have hi:i<q:=by
     have:=(rP.mp hd).1;simpa [zG]using this
    obtain rfl:d = .tup (zD n (g i)):=by
     simp [zG,hi]at hd;exact hd.symm
    obtain⟨be,bg,an,bi,e2,g3,g4⟩:=rh (q:=q) (g:=g) Y hz hn (g i) (hg i · hi) g1 ac c5 c6;refine⟨_,_,rfl,e2,⟨_,_,_,rfl⟩,g3,λv M=>?_⟩;show vecL n v∈an↔_;rw [g4,K8 v O];constructor
    ·rintro(a | ⟨u,a,hu,x,x1,x2,ex⟩)
     ·exact⟨v,(g2 v M).mp a,0,by omega,O,λi _=>by simp⟩
     ·refine⟨u,(g2 u hu).mp a,x,by omega,x2,λj J=>?_⟩
      rw [vecL_ext.mp ex j J,tD]
    ·rintro⟨u,hu,x,x1,x2,ex⟩
     have ur : ∀j,j<n->0<=(λj=>u j%p) j/\(λj=>u j%p) j<p:=λj _=>⟨sU _ ⋯,sG _ O⟩;have um:vecL n (λj=>u j%p)∈a9:=(g2 _ ur).mpr (hu.congr λj _=>tD ..);by_cases hx:x=0
     ·subst hx
      refine .inl ?_;rw [show vecL n v=vecL n λj=>u j%p from vecL_ext.mpr λj J=>by
       have:=ex j J;rw [Qd (M j J)]at this;rw [this];simp]
      exact um
     ·refine .inr ⟨_,um,ur,x,by omega,x2,vecL_ext.mpr λj J=>?_⟩
      have:=ex j J;rw [Qd (M j J)]at this;rw [this,sA,<- tD (u j),<- sA])
 obtain⟨γ,I,a4⟩:=r;dsimp only at e1 h1 h2;subst e1;rw [show 0+(zG q n g).length=q by simp [zG]]at h2;refine⟨I,a4,?_,h2⟩;have kz:zI (jb (zB (zJ (zd 1)) (.nm 0) 1 [] z7 (zk (.int 0)))) (yl p n q g .no .no .no)=some (.tup (zD n λ_=>0)):=by
  have c:zN (.nm 0) z7 (zk (.int 0)) [Cell.no] (zD n λi=>(i:Int))=some (zD n λ_=>0):=by
   rw [zF,zF];exact zu _ _ λi hi=>zv rfl rfl rfl
  have r:inR (n:Int)=true:=qR a6;simp only [yl,xW,yk,qb,qa,zT,rQ,rR,zo,rL,sj,z9,r,if_true,tm,je,qr,a6];rw [show jn 1 [] (yl p n q g .no .no .no)=[Cell.no]from rfl,c];rfl
 rw [V9];refine j7 (zH (γ':=[.val (.int p),.val (.int (n:Int)),.val (.lst (zG q n g)),.val (.dct I a4),c4,c5,c6]) ?_ rfl);show(if _/\_ then (((zI _ (yl p n q g .no .no .no)).bind W2).bind λk=>(some (D.bl true)).bind λv=>_)else none)=_;rw [if_pos ⟨rfl,show 3<7 by decide⟩,kz,rL,Zv,rL,rL];show((aT 3 (zA (zC (zd 2))) (.nm 4) iC (yl p n q g .no .no .no) [vecL n λ_=>0] [.bl true]).bind λr=>lW r.1 r.2.1 r.2.2).bind _=_;have:aT 3 (zA (zC (zd 2))) (.nm 4) iC (yl p n q g .no .no .no) [vecL n λ_=>0] [.bl true]=some (yl p n q g c4 c5 c6,I,a4):=by
  show(if yC 3 (.nm 4)=true then _ else none)=_;rw [if_pos ⋯];exact e
 rw [this];show(if I.length<=lim then _ else none)=_;rw [if_pos (by have:=h1.len hz;omega)];rfl
end
section
variable{p:Int}{q h w:Nat}{f:Nat->Nat->Int}{K:Nat->Vc}
theorem Q2(v:Vc):Span p h (Fam q λk i=>app f w (K k) i%p) v ↔ ∃y,Span p w (Fam q K) y/\∀i,i<h->v i%p=app f w y i%p:=by
 refine⟨λz=>?_,λ⟨y,I,z⟩=>?_⟩
 ·induction z with
  | @zero v J=>exact⟨λ_=>0,.zero λi _=>by simp,λi hi=>by rw [J i hi,kT (p:=p) (λ_ _=>by simp)]⟩
  | @step v u g c M hu he O=>
   obtain⟨y,I,a1⟩:=O;obtain⟨k,Y,rfl⟩:=M;refine⟨λj=>y j+c*K k j,(Span.gen (g:=K k) ⟨k,Y,rfl⟩).add I c,λi hi=>?_⟩;rw [vT (p:=p) (u:=y) (g:=K k) (c:=c) (λ_ _=>rfl) i,he i hi,sA,a1 i hi,so,tD,<- so,<- sA]
 ·induction I generalizing v with
  | @zero y J=>exact .zero λi hi=>by rw [z i hi];exact kT J i
  | @step y u g c M hu he O=>
   obtain⟨k,Y,rfl⟩:=M;have h1:=O (app f w u) ⟨u,hu,λ_ _=>rfl⟩ λi hi=>rfl;refine((Span.gen (g:=λi=>app f w (K k) i%p) ⟨k,Y,rfl⟩).add h1 c).congr λi hi=>?_;rw [z i hi,vT (p:=p) he i,sA,so,<- tD (app f w (K k) i),<- so,<- sA,tD]
theorem XA(h w:Nat)(f:Nat->Nat->Int):zG h w f=(rO h).map λi=>D.tup (zD w (f i)):=rfl
def d1:CO Fl:=Jb (.tp [4,5,6]) (zd 1)
def d2:CO Fl:=(sIf (sB (zd 3)) (xc (zP F_law_base_k22 (za (zd 0) (za (zd 4) (za (ja (zB (zA (zf 2)) (.nm 0) 1 [0,6] z7 (zx F_law_led_k22 (za (zd 1) (za (zd 2) (za (zd 0) zy)))))) zy))))) jS)
def d3:CO Fl:=(zW 7 (zx F_law_span (za (zd 0) (za (zd 4) (za (zd 2) zy)))))
def d4:CO Fl:=(xc (zP F_law_base_k22 (za (zd 0) (za (zd 5) (za (ja (zB (zA (zC (zx F_law_all_k22 (za (zd 0) (za (zd 5) zy))))) (.nm 0) 1 [0,6,7] (sB (zh bC (zx F_law_led_k22 (za (zd 1) (za (zd 2) (za (zd 0) zy)))) (zd 3))) (zd 0))) zy)))))
theorem cF{F G:CO Fl}{γ:Ctx}{r:Res}(e:F γ=some (.ret r)):zM F G γ=some (.ret r):=by rw [jh,e];rfl
theorem dJ(z:Pr p)(hh:h<=3)(hw:w<=3)(hq:q<=100)(Y : ∀i j,i<h->j<w->0<=f i j/\f i j<p)(K:Nat->Vc) :
 ∃r B,(r<=h/\∀k i,k<r->i<h->0<=B k i/\B k i<p)/\F_law_base_k22 [.int p,.int (h:Int),.lst (zG q h λk i=>app f w (K k) i%p)]=some (.own (zG r h B))/\F_led_on [.int p,xU h w f,.lst (zG q w K)]=some (.own (zG r h B)):=by
 have hl:=jt;have p0:=z.pos;have p7:=z.le;have a1 : ∀i j,i<h->j<w->0<=f i j/\f i j<100:=λi j hi hj=>by have:=Y i j hi hj;omega
 obtain⟨r,B,l,e,J,hr,M⟩:=qK z (show h<=100 by omega) (show q<=lim by omega) (λk i=>app f w (K k) i%p) (λj i _ _=>⟨sU _ ⋯,sG _ p0⟩);obtain⟨r',B',l',e',a5,O⟩:=QI z (show h<=100 by omega) (show w<=lim by omega) (show q<=lim by omega) f a1 K;obtain⟨rfl,_,u⟩:=JZ z J a5 (λv I=>(O v).mpr ((Q2 v).mp ((M v).mp I))) (λv I=>(M v).mpr ((Q2 v).mpr ((O v).mp I)));exact⟨r,B,⟨hr,J.rng⟩,e,by rw [e',Xz u]⟩
theorem KY{n:Nat}(L:List Vc):qw n L=zG L.length n λk=>L.getD k λ_=>0:=by
 unfold qw zG;apply List.ext_getElem
 ·simp
 ·intro i h1 h2
  have:i<L.length:=by simpa using h1
  simp [this]
theorem XU{z:Nat}(I:z<=7)(hw:w<=3):(yZ z w).length<=lim:=by
 have J:=jt;rw [yY];have h1:z ^ w<=7 ^ w:=AI ⋯ _;have h2:7 ^ w<=7 ^ 3:=AA ⋯ hw;omega
theorem Y4(J:Pr p){z:Nat}(M:p=z)(hh:h<=3)(hw:w<=3)(hq:q<=100)(K:Nat->Vc)(hK : ∀j i,j<q->i<h->0<=K j i/\K j i<p) :
 ∃ks vs r B,(r<=w/\∀k i,k<r->i<w->0<=B k i/\B k i<p)/\F_law_span [.int p,.int (h:Int),.lst (zG q h K)]=some (.val (.dct ks vs))/\
  F_law_base_k22 [.int p,.int (w:Int),.lst (qw w ((yZ z w).filter λv=>decide (vecL h (λi=>app f w v i%p)∈ks)))]=some (.own (zG r w B))/\F_led_into [.int p,xU h w f,.lst (zG q h K)]=some (.own (zG r w B)):=by
 have hl:=jt;have p0:=J.pos;have p7:=J.le;obtain⟨ks,vs,es,a9⟩:=ZO J M hh hq hK;let t:Vc->Bool:=λv=>decide (vecL h (λi=>app f w v i%p)∈ks);have tt : ∀v,t v=true↔Span p h (Fam q K) (app f w v):=λv=>by
  show decide _=true↔_;rw [decide_eq_true_iff,a9 _ λi _=>⟨sU _ ⋯,sG _ p0⟩];exact⟨λx=>x.congr λi _=>(tD ..).symm,λx=>x.congr λi _=>tD ..⟩
 have zn:(yZ z w).length<=lim:=XU ⋯ hw;let L:List Vc:=(yZ z w).filter t;have Ll:L.length<=lim:=tP (List.length_filter_le _ _) zn;have Lg : ∀k,k<L.length->(L.getD k λ_=>0)∈L:=λk I=>by
  rw [rT,rN I];exact Cz I
 obtain⟨r,B,l,e,hb,hr,hs⟩:=qK J (show w<=100 by omega) Ll (λk=>L.getD k λ_=>0) (λj i O hi=>by
  have:=XT (sT.mp (Lg j O)).1 i hi;rw [M];exact this)
 obtain⟨r',B',l',e',ar,a5⟩:=ZM J (show h<=20 by omega) (show w<=20 by omega) hq f K;obtain⟨rfl,_,u⟩:=JZ J hb ar (λv Y=>by
  refine((hs v).mp Y).le λg ⟨k,I,eg⟩=>(a5 _).mpr ?_;subst eg;exact(tt _).mp (sT.mp (Lg k I)).2) (λv Y=>by
  refine(hs v).mpr ?_;obtain⟨x,hx,ex⟩:=ZK (q:=z) (n:=w) (λi=>v i%p) (λi _=>⟨sU _ ⋯,by rw [<- M];exact sG _ p0⟩);have xv : ∀j,j<w->x j%p=v j%p:=λj O=>by rw [ex j O,tD]
  have xL:x∈L:=sT.mpr ⟨hx,(tt x).mpr (((a5 v).mp Y).congr λi _=>Vy xv i)⟩;obtain⟨k,I,ek⟩:=List.getElem_of_mem xL;have G:Span p w (Fam L.length λk=>L.getD k λ_=>0) x:= .gen ⟨k,I,by
   show x=L.getD k _;rw [rT,rN I,ek];rfl⟩
  exact G.congr λi hi=>(xv i hi).symm)
 rw [<- KY]at e;exact⟨ks,vs,r,B,⟨hr,hb.rng⟩,es,e,by rw [e',Xz u]⟩
end
def F_law_bars_23:List D->Option Res:=jv 8 (zM (qQ 4 (jI zy)) (zM (xY (zJ (zd 2)) (.nm 5) (zM (zW 6 (zx F_law_cell (za (zd 0) (za (zh j4 (zd 1) (zd 5)) zy)))) (zM (zW 7 (zh jA (zd 6) (zd 3))) (qH 4 (yK (za (zd 7) (za (zh j4 (zd 7) (zh jA (zh ko (zd 6) (zd 3)) (zh xw (zd 3) (zd 7)))) zy))))))) (xc (Ja (zf 4)))))
def F_law_laid:List D->Option (D×TT):=cN 8 (nG (zW 2 (ja (zB (zJ (zh j4 (Kf (zd 0)) (zk (.int 1)))) (.nm 0) 1 [1] z7 (ja (zB (zJ (wg (zf 1))) (.nm 0) 1 [0,1] (sB (ym dLe dLe (sIx (zC (sIx (zf 2) (zd 0))) (zk (.int 0))) (zd 1) (sIx (zC (sIx (zf 2) (zd 0))) (zk (.int 1))))) (zd 0)))))) (fD 3 (ZR [3] (qG (zd 0)) (.tp [4,5]) (vY (J4 [3] (.tp [6,7]) (zx F_law_ends_k22 (za (zd 4) (za (zd 5) zy)))) (fN (Je (zA (zC (sIx (zf 2) (zd 7)))) (.nm 0) 1 [2,6] (zB (zA (zC (sIx (zf 1) (zd 2)))) (.nm 0) 1 [0] z7 (Wf (zh dEq (zd 1) (zd 0)))))))) (ja (zB (zA (zf 2)) (.nm 0) 1 [] z7 (wg (zf 0))))))
def F_law_step:List D->List D->TT->Option TT:=ni 14 2 (vY (J4 [2] (.nm 7) (sIx (jb (zB (zJ (zd 0)) (.nm 0) 1 [0,6] (sB (zh dEq (zh jA (zh qg (zd 0) (zd 2)) (zd 1)) (zk (.int 1)))) (zd 0))) (zk (.int 0)))) (ZR [2] (qG (zd 1)) (.tp [8,9]) (vY (J4 [2] (.tp [10,11]) (zx F_law_ends_k22 (za (zd 8) (za (zd 9) zy)))) (fx [2] 12 (zd 8) (λk=>vY (yIf (vi (sB (zh dEq (zd 11) (zd 3))) (sB (zh dEq (zd 4) (zd 5)))) (kf 12 (zd 5) (zB (zA (zC (sIx (zf 12) (zd 5)))) (.nm 0) 1 [0,6] z7 (zh jA (zh qg (zd 2) (zd 0)) (zd 1))) k)) (vY (yIf (vi (sB (zh dEq (zd 11) (zd 3))) (sB (zh dNe (zd 4) (zd 5)))) (kf 12 (zd 5) (zB (Z8 (sIx (zf 12) (zd 4)) (sIx (zf 12) (zd 5))) (.tp [0,1]) 2 [0,6] z7 (zh jA (zh j4 (zd 1) (zh qg (zd 3) (zd 0))) (zd 2))) k)) (kh [12,2] 13 (λm=>vY (yIf (vi (sB (zh dEq (zd 10) (zd 3))) (sB (zh dEq (zd 4) (zd 5)))) (kg 13 (zd 5) (zh jA (zh qg (zd 7) (sIx (zf 13) (zd 5))) (zd 0)) k m)) (yIf (vi (sB (zh dEq (zd 10) (zd 3))) (sB (zh dNe (zd 4) (zd 5)))) (kg 13 (zd 4) (zh jA (zh xw (sIx (zf 13) (zd 4)) (zh qg (zd 6) (sIx (zf 13) (zd 5)))) (zd 0)) k m))) k)))))))
def F_law_built:List D->Option Res:=jv 11 (zM (Ke 5 6 F_law_laid (za (zd 3) (za (zd 4) zy)) (vY (ZR [6] (vh (zd 5)) (.tp [7,8]) (ZR [6] (zJ (zh qg (zk (.int 2)) (zd 8))) (.nm 9) (vY (J4 [6] (.nm 10) (zx F_law_cell (za (zd 0) (za (zh j4 (zh j4 (zd 1) (zh qg (zk (.int 14)) (zd 7))) (zd 9)) zy)))) (VX F_law_step (za (zd 2) (za (zd 3) zy)) (za (zd 7) (za (zh jA (zd 10) (zd 8)) (za (zh jA (zh ko (zd 10) (zk (.int 7))) (zd 8)) (za (zh j4 (zk (.int 1)) (zh jA (zh ko (zd 10) (zk (.int 49))) (zh xw (zd 2) (zk (.int 1))))) zy)))))))) lQ)) (qB (zx F_law_row_k22 (za (zd 2) (za (zd 3) (za (zd 5) (za (zd 6) zy)))))))
def F_law_next:List D->Option Res:=jv 8 (zM (Jb (.tp [5,6]) (sIx (zC (sIx (zf 1) (zk (.int 2)))) (zd 3))) (zM (sIf (sB (zh dEq (zh dEq (zd 5) (zk (.str "r"))) (zd 4))) (xc (zP F_law_base_k22 (za (zd 0) (za (sIx (zf 6) (zk (.int 0))) (za (ja (zB (zA (zf 2)) (.nm 0) 1 [0,6] z7 (zx F_law_led_k22 (za (zd 1) (za (sIx (zf 2) (zk (.int 2))) (za (zd 0) zy)))))) zy))))) jS) (zM (zW 7 (zx F_law_span (za (zd 0) (za (sIx (zf 6) (zk (.int 0))) (za (zd 2) zy))))) (xc (zP F_law_base_k22 (za (zd 0) (za (sIx (zf 6) (zk (.int 1))) (za (ja (zB (zA (zC (zx F_law_all_k22 (za (zd 0) (za (sIx (zf 6) (zk (.int 1))) zy))))) (.nm 0) 1 [0,6,7] (sB (zh bC (zx F_law_led_k22 (za (zd 1) (za (sIx (zf 2) (zk (.int 2))) (za (zd 0) zy)))) (zd 3))) (zd 0))) zy))))))))
def F_law_due_21:List D->Option Res:=jv 6 (zM (xY (qk (zd 3) (zd 4)) (.nm 5) (zW 2 (ja (zP F_law_next (za (zd 0) (za (zd 1) (za (zd 2) (za (zd 5) (za (zk (.bl true)) zy))))))))) (zM (xY (k5 (zh xw (zd 3) (zk (.int 1))) (zh xw (zd 4) (zk (.int 1))) (fA (zk (.int 1)))) (.nm 5) (zW 2 (ja (zP F_law_next (za (zd 0) (za (zd 1) (za (zd 2) (za (zd 5) (za (zk (.bl false)) zy))))))))) (qZ 2)))
def F_law_loads_21:List D->Option Res:=jv 6 (zM (qQ 4 (jI zy)) (zM (xY (zJ (zh jA (zx F_law_cell (za (zd 0) (za (zd 1) zy))) (zk (.int 4)))) (.nm 5) (qH 4 (zI (jb (zB (zJ (zd 3)) (.nm 0) 1 [0,1,2,5] z7 (zh jA (zh ko (zx F_law_cell (za (zd 1) (za (zh j4 (zh j4 (zh j4 (zd 2) (zk (.int 1))) (zh qg (zk (.int 5)) (zd 4))) (zd 0)) zy))) (zk (.int 4))) (zd 3))))))) (qZ 4)))
def F_arrow_by:List D->Option Res:=jv 3 (qB (cK (sB (zh dEq (zd 1) (zk (.str "r")))) (mZ "Right" (zd 0) (zd 2)) (mZ "Left" (zd 0) (zd 2))))
def F_arrow_at:List D->Option Res:=jv 3 (zM (zW 2 (sIx (zC (sIx (zf 0) (zk (.int 2)))) (zd 1))) (qB (zx F_arrow_by (za (sIx (zf 0) (zk (.int 0))) (za (sIx (zf 2) (zk (.int 0))) (za (sIx (zf 2) (zk (.int 1))) zy))))))
def F_carried:List D->Option Res:=jv 6 (zM (qQ 4 (ql (zf 1))) (zM (xY (qk (zd 2) (zd 3)) (.nm 5) (aO 4 (qQ 4 (vg F_led_on F_led_into (zx F_arrow_at (za (zd 0) (za (zd 5) zy))) (zd 4))))) (zM (xY (k5 (zh xw (zd 2) (zk (.int 1))) (zh xw (zd 3) (zk (.int 1))) (fA (zk (.int 1)))) (.nm 5) (aO 4 (qQ 4 (vg F_led_into F_led_on (zx F_arrow_at (za (zd 0) (za (zd 5) zy))) (zd 4))))) (qZ 4))))
def F_law_arrow_right:List D->Option Res:=jv 4 (zM (zW 3 (zx F_arrow_at (za (zd 1) (za (zd 2) zy)))) (zM (sIf (Jc (sB (zh dNe (KO ["Right","Left"] ["Right"] (zd 3)) (zh dEq (sIx (zC (sIx (zC (sIx (zf 1) (zk (.int 2)))) (zd 2))) (zk (.int 0))) (zk (.str "r"))))) (sB (zh dEq (KO ["Right","Left"] ["Left"] (zd 3)) (KO ["Right","Left"] ["Right"] (zd 3))))) (qB (zk (.bl false))) jS) (qB (zx F_law_is_base_k22 (za (ja (vg F_led_on F_led_into (zd 3) (ja (jI zy)))) (za (ja (zP F_law_next (za (zd 0) (za (zd 1) (za (ja (jI zy)) (za (zd 2) (za (zk (.bl true)) zy))))))) zy))))))
def F_law_k21:List D->Option Res:=jv 11 (zM (zW 1 (zx F_law_cell (za (zd 0) (za (zk (.int 0)) zy)))) (zM (zW 2 (sIx (jb (jI (za (zk (.int 2)) (za (zk (.int 3)) (za (zk (.int 5)) (za (zk (.int 7)) zy)))))) (zh jA (zd 1) (zk (.int 4))))) (zM (zW 3 (zh j4 (zk (.int 1)) (zh jA (zh ko (zd 1) (zk (.int 4))) (zk (.int 6))))) (zM (zW 4 (zx F_law_ways_k22 (za (zh ko (zd 1) (zk (.int 24))) (za (zd 3) zy)))) (zM (zW 5 (zx F_law_built (za (zd 0) (za (zk (.int 10)) (za (zd 2) (za (zd 4) (za (ja (zP F_law_bars_23 (za (zd 0) (za (zk (.int 2)) (za (zh jA (zh ko (zd 1) (zk (.int 768))) (sIx (jb (jI (za (zk (.int 4)) (za (zk (.int 4)) (za (zk (.int 3)) (za (zk (.int 3)) zy)))))) (zh jA (zd 1) (zk (.int 4))))) (za (zd 3) zy)))))) zy))))))) (zM (zW 6 (zh jA (zx F_law_cell (za (zd 0) (za (zk (.int 1)) zy))) (zd 3))) (zM (zW 7 (zh jA (zh ko (zx F_law_cell (za (zd 0) (za (zk (.int 1)) zy))) (zk (.int 7))) (zd 3))) (zM (zW 8 (ja (zP F_law_base_k22 (za (zd 2) (za (sIx (zC (sIx (zf 5) (zk (.int 1)))) (zd 6)) (za (ja (zP F_law_loads_21 (za (zd 0) (za (zk (.int 60)) (za (zd 2) (za (sIx (zC (sIx (zf 5) (zk (.int 1)))) (zd 6)) zy)))))) zy)))))) (zM (zW 9 (ja (ql (zf 8)))) (zM (zW 10 (zx F_law_due_21 (za (zd 2) (za (zd 5) (za (zd 8) (za (zd 6) (za (zd 7) zy))))))) (zM (sIf (Jc (qd (sB (zx F_law_is_base_k22 (za (ja (zP F_carried (za (zd 5) (za (zd 9) (za (zd 6) (za (zd 7) zy)))))) (za (zd 10) zy))))) (sB (zh dNe (zd 9) (zd 8)))) (qB (zk (.bl false))) jS) (zM (sIf (qd (sB (zx F_law_is_base_k22 (za (ja (zP F_carried (za (zd 5) (za (zd 9) (za (zd 6) (za (zd 6) zy)))))) (za (zd 8) zy))))) (qB (zk (.bl false))) jS) (qB (Wi (jb (zB (zJ (zh xw (zd 3) (zk (.int 1)))) (.nm 0) 1 [2,5] z7 (zx F_law_arrow_right (za (zd 1) (za (zd 2) (za (zd 0) zy))))))))))))))))))))
def n1:CO Fl:=(Jb (.tp [5,6]) (sIx (zC (sIx (zf 1) (zk (.int 2)))) (zd 3)))
def n2:CO Fl:=(sIf (sB (zh dEq (zh dEq (zd 5) (zk (.str "r"))) (zd 4))) (xc (zP F_law_base_k22 (za (zd 0) (za (sIx (zf 6) (zk (.int 0))) (za (ja (zB (zA (zf 2)) (.nm 0) 1 [0,6] z7 (zx F_law_led_k22 (za (zd 1) (za (sIx (zf 2) (zk (.int 2))) (za (zd 0) zy)))))) zy))))) jS)
def n3:CO Fl:=(zW 7 (zx F_law_span (za (zd 0) (za (sIx (zf 6) (zk (.int 0))) (za (zd 2) zy)))))
def n4:CO Fl:=(xc (zP F_law_base_k22 (za (zd 0) (za (sIx (zf 6) (zk (.int 1))) (za (ja (zB (zA (zC (zx F_law_all_k22 (za (zd 0) (za (sIx (zf 6) (zk (.int 1))) zy))))) (.nm 0) 1 [0,6,7] (sB (zh bC (zx F_law_led_k22 (za (zd 1) (za (sIx (zf 2) (zk (.int 2))) (za (zd 0) zy)))) (zd 3))) (zd 0))) zy)))))
theorem bq:F_law_next=jv 8 (zM n1 (zM n2 (zM n3 n4))):=rfl
section
variable{p:Int}{q m h v k:Nat}{w:Nat->Bool}{wd:Nat->Nat}{T:Nat->Nat->Nat->Int}{K:Nat->Vc}
theorem ZI(z:k<(xJ m w wd T).length):(xJ m w wd T)[k]=bF w wd T k:=by simp [xJ]
abbrev nc(p:Int)(row:D)(b:List D)(k:Nat)(a:Bool)(s:Str)(t:D)(c:Cell):Ctx:=[.val (.int p),.val row,.val (.lst b),.val (.int (k:Int)),.val (.bl a),.val (.str s),.val t,c]
theorem iz(z:k<m)(b:List D)(a:Bool):n1 [.val (.int p),.val (qv p m w wd T),.val (.lst b),.val (.int (k:Int)),.val (.bl a),.no,.no,.no]=some (.next (nc p (qv p m w wd T) b k a (qt (wch (w k))) (xU (hiW w wd k) (wiW w wd k) (T k)) .no)):=by
 have rs:jE (qv p m w wd T)=some (.T,[.int p,.tup (zD (m+1) λk=>(wd k:Int)),.tup (xJ m w wd T)]):=rfl;have I:ixD 3 2=some 2:=rfl;have J:ixD m (k:Int)=some k:=by rw [jq,if_pos z]
 have e:sIx (zC (sIx (zf 1) (zk (.int 2)))) (zd 3) [.val (.int p),.val (qv p m w wd T),.val (.lst b),.val (.int (k:Int)),.val (.bl a),.no,.no,.no]=some (bF w wd T k):=by
  simp [rs,I,J,z,ZI]
 show(sIx _ _ _).bind _=_;rw [e];rfl
theorem KQ(b:Bool):dEq (.str (qt (wch b))) (.str "r")=some (.bl (!b)):=by
 have e : ∀b:Bool,(qt (wch b)==(uB "r")) = !b:=by decide +kernel
 have z : ∀b:Bool,okD (.str (qt (wch b)))=true:=by decide +kernel
 have I:okD (.str (uB "r"))=true:=by decide +kernel
 unfold dEq;rw [if_pos ⟨z b,I⟩];show some (D.bl (qt (wch b)==uB "r"))=_;rw [e]
theorem bD(x a:Bool):dEq (.bl x) (.bl a)=some (.bl (x==a)):=by
 cases x<;>cases a<;>(unfold dEq;rw [if_pos ⟨by decide +kernel,by decide +kernel⟩];rfl)
theorem YS(row t:D)(b:List D)(a c:Bool):sB (zh dEq (zh dEq (zd 5) (zk (.str "r"))) (zd 4)) (nc p row b k a (qt (wch c)) t .no)=some ((!c)==a):=by
 show uT (uT (dEq (.str (qt (wch c))) (.str "r")) λx=>dEq x (.bl a)) asB=_;rw [KQ,rL,bD];rfl
theorem YQ(z:Pr p)(I:k<m)(a:Bool)(ha:a = !(w k))(M:hiW w wd k<=3)(O:wiW w wd k<=3)(Y:q<=100)(J : ∀x y,0<=T k x y/\T k x y<p)(K:Nat->Vc) :
 ∃r B,(r<=hiW w wd k/\∀j i,j<r->i<hiW w wd k->0<=B j i/\B j i<p)/\F_law_next [.int p,qv p m w wd T,.lst (zG q (wiW w wd k) K),.int (k:Int),.bl a]=some (.own (zG r (hiW w wd k) B))/\F_led_on [.int p,xU (hiW w wd k) (wiW w wd k) (T k),.lst (zG q (wiW w wd k) K)]=some (.own (zG r (hiW w wd k) B)):=by
 have hl:=jt;have p0:=z.pos;have p7:=z.le;have a1:=iz (p:=p) (w:=w) (wd:=wd) (T:=T) I (zG q (wiW w wd k) K) a;generalize qv p m w wd T=row at *;generalize hiW w wd k=h at *;generalize wiW w wd k=v at *;generalize T k=f at *;obtain⟨r,B,hr,e,e'⟩:=dJ (f:=f) z M O Y (λi j _ _=>J i j) K;refine⟨r,B,hr,?_,e'⟩;have sq:jE (xU h v f)=some (.T,[.int h,.int v,.tup (zG h v f)]):=rfl;have i2:ixD 3 2=some 2:=rfl;have i0:ixD 3 0=some 0:=rfl;have a6:zN (.nm 0) z7 (zx F_law_led_k22 (za (zd 1) (za (sIx (zf 2) (zk (.int 2))) (za (zd 0) zy)))) [Cell.no,Cell.val (.int p),Cell.val (xU h v f)] (zG q v K)=some (zG q h λk i=>app f v (K k) i%p):=by
  rw [XA q v,XA q h];refine zu _ _ λk I=>zv rfl rfl ?_;have:=Xt (p:=p) f (K k) p0 (show h<=lim by omega) (show v<=lim by omega) (λi j _ _=>by have:=J i j;omega);simp [this,sq,i2]
 have cm:(zB (zA (zf 2)) (.nm 0) 1 [0,6] z7 (zx F_law_led_k22 (za (zd 1) (za (sIx (zf 2) (zk (.int 2))) (za (zd 0) zy))))) (nc p row (zG q v K) k a (qt (wch (w k))) (xU h v f) .no)=some (zG q h λk i=>app f v (K k) i%p):=by
  show(if (zG q v K).length<=lim then _ else none)=_;rw [if_pos (by simp [zG];omega)];exact a6
 rw [bq];refine j7 (zH a1 (cF ?_));unfold n2;rw [fo,YS,show((!w k)==a)=true by rw [ha];simp];simp only [rL,if_true];simp only [Vz,ZJ,xK,kW,wW,cm,yE,xq,qp,zT,rQ,rR,zo,zU,sq,z9,sP,Bi,uP,Nat.reduceAdd,i0,rL,sj,e,Q4]
theorem Jx(I:Pr p){z:Nat}(M:p=z)(hk:k<m)(a:Bool)(ha:a=w k)(hh:hiW w wd k<=3)(J:wiW w wd k<=3)(hq:q<=100)(hT : ∀x y,0<=T k x y/\T k x y<p)(K:Nat->Vc)(hK : ∀j i,j<q->i<hiW w wd k->0<=K j i/\K j i<p) :
 ∃r B,(r<=wiW w wd k/\∀j i,j<r->i<wiW w wd k->0<=B j i/\B j i<p)/\F_law_next [.int p,qv p m w wd T,.lst (zG q (hiW w wd k) K),.int (k:Int),.bl a]=some (.own (zG r (wiW w wd k) B))/\F_led_into [.int p,xU (hiW w wd k) (wiW w wd k) (T k),.lst (zG q (hiW w wd k) K)]=some (.own (zG r (wiW w wd k) B)):=by
 have hl:=jt;have p0:=I.pos;have p7:=I.le;have a6:=iz (p:=p) (w:=w) (wd:=wd) (T:=T) hk (zG q (hiW w wd k) K) a;generalize qv p m w wd T=row at *;generalize hiW w wd k=h at *;generalize wiW w wd k=v at *;generalize T k=f at *;obtain⟨ks,vs,r,B,hr,es,e,e'⟩:=Y4 (f:=f) I M hh J hq K hK;have O:=ZQ (q:=z) (n:=v) ⋯ J;rw [<- M]at O;have zn:(yZ z v).length<=lim:=XU ⋯ J;refine⟨r,B,hr,?_,e'⟩;let t:Vc->Bool:=λu=>decide (vecL h (λi=>app f v u i%p)∈ks);let L:List Vc:=(yZ z v).filter t;have sq:jE (xU h v f)=some (.T,[.int h,.int v,.tup (zG h v f)]):=rfl;have i2:ixD 3 2=some 2:=rfl;have i0:ixD 3 0=some 0:=rfl;have Y:ixD 3 1=some 1:=rfl;have an:zN (.nm 0) (sB (zh bC (zx F_law_led_k22 (za (zd 1) (za (sIx (zf 2) (zk (.int 2))) (za (zd 0) zy)))) (zd 3))) (zd 0) [Cell.no,Cell.val (.int p),Cell.val (xU h v f),.val (.dct ks vs)] (qw v (yZ z v))=some (qw v L):=by
  refine ju _ _ _ λu hu=>⟨_,rfl,?_,λ_=>rfl⟩;have:=Xt (p:=p) f u p0 (show h<=lim by omega) (show v<=lim by omega) (λi j _ _=>by have:=hT i j;omega);have dd:bC (.tup (zD h λi=>app f v u i%p)) (.dct ks vs)=some (.bl (t u)):=by
   show(W2 _).map _=_;rw [Zv];rfl
  simp [this,dd,sq,i2]
 have cm:(zB (zA (zC (zx F_law_all_k22 (za (zd 0) (za (sIx (zf 6) (zk (.int 1))) zy))))) (.nm 0) 1 [0,6,7] (sB (zh bC (zx F_law_led_k22 (za (zd 1) (za (sIx (zf 2) (zk (.int 2))) (za (zd 0) zy)))) (zd 3))) (zd 0)) (nc p row (zG q h K) k a (qt (wch (w k))) (xU h v f) (.val (.dct ks vs)))=some (qw v L):=by
  have:zA (zC (zx F_law_all_k22 (za (zd 0) (za (sIx (zf 6) (zk (.int 1))) zy)))) (nc p row (zG q h K) k a (qt (wch (w k))) (xU h v f) (.val (.dct ks vs)))=some (qw v (yZ z v)):=by simp [O,sq,Y]
  rw [qb,this];show(if (qw v (yZ z v)).length<=lim then _ else none)=_;rw [if_pos (by rw [KZ];exact zn)];exact an
 rw [bq];refine j7 (zH a6 (zH (γ':=nc p row (zG q h K) k a (qt (wch (w k))) (xU h v f) .no) ?_ (zH (γ':=nc p row (zG q h K) k a (qt (wch (w k))) (xU h v f) (.val (.dct ks vs))) ?_ ?_)))
 ·unfold n2
  rw [fo,YS,show((!w k)==a)=false by rw [ha];cases w k<;>rfl];rfl
 ·unfold n3
  simp [es,sq,i0]
 ·unfold n4
  simp only [Vz,ZJ,xK,kW,wW,cm,yE,xq,qp,zT,rQ,rR,zo,zU,sq,z9,sP,Bi,uP,Nat.reduceAdd,Y,rL,sj];rw [show F_law_base_k22 [.int p,.int (v:Int),.lst (qw v L)]=_ from e];rfl
theorem XO(z:k<m):F_arrow_at [qv p m w wd T,.int (k:Int)]=some (.val (.ins (cond (w k) "Left" "Right") (.int p) (xU (hiW w wd k) (wiW w wd k) (T k)))):=by
 have rs:jE (qv p m w wd T)=some (.T,[.int p,.tup (zD (m+1) λk=>(wd k:Int)),.tup (xJ m w wd T)]):=rfl;have as:jE (bF w wd T k)=some (.T,[.str (qt (wch (w k))),xU (hiW w wd k) (wiW w wd k) (T k)]):=rfl;have I:ixD 3 2=some 2:=rfl;have J:ixD 3 0=some 0:=rfl;have M:ixD 2 0=some 0:=rfl;have O:ixD 2 1=some 1:=rfl;have Y:ixD m (k:Int)=some k:=by rw [jq,if_pos z]
 have b : ∀t,F_arrow_by [.int p,.str (qt (wch (w k))),t]=some (.val (.ins (cond (w k) "Left" "Right") (.int p) t)):=λt=>by
  have wr:=KQ (w k);refine j7 ?_;show Bs _ (uT (uT (dEq (.str (qt (wch (w k)))) (.str "r")) asB) _)=_;rw [wr];cases w k<;>rfl
 show jv 3 (zM _ _) _=_;refine j7 (zH (γ':=[.val (qv p m w wd T),.val (.int (k:Int)),.val (bF w wd T k)]) ?_ ?_)
 ·show zW 2 _ [.val (qv p m w wd T),.val (.int (k:Int)),.no]=_
  simp [rs,I,Y,z,ZI]
 ·simp [rs,as,J,M,O,b]
end
section
variable{p:Int}{q m k:Nat}{w:Nat->Bool}{wd:Nat->Nat}{T:Nat->Nat->Nat->Int}{K:Nat->Vc}
def Rg(p:Int)(r n:Nat)(B:Nat->Vc):Prop:=∀j i,j<r->i<n->0<=B j i/\B j i<p
def clw(b:Bool):Str:=cond b "Left" "Right"
def arT(w:Nat->Bool)(wd:Nat->Nat)(T:Nat->Nat->Nat->Int)(k:Nat):D:=xU (hiW w wd k) (wiW w wd k) (T k)
def Qr(c:Str)(F G:List D->Option Res)(ds:List D):Option Res:=if c=("Right" : Str)then F ds else if c=("Left" : Str)then G ds else none
theorem iU(M:Pr p){z:Nat}(hz:p=z)(O : ∀k,wd k<=3)(Y : ∀k x y,0<=T k x y/\T k x y<p)(hk:k<m)(hq:q<=100)(K:Nat->Vc)(hK:Rg p q (wd k) K) :
 ∃r B,r<=100/\Rg p r (wd (k+1)) B/\F_law_next [.int p,qv p m w wd T,.lst (zG q (wd k) K),.int (k:Int),.bl true]=some (.own (zG r (wd (k+1)) B))/\Qr (clw (w k)) F_led_on F_led_into [.int p,arT w wd T k,.lst (zG q (wd k) K)]=some (.own (zG r (wd (k+1)) B)):=by
 have a1:=O k;have a2:=O (k+1);unfold arT Qr clw;cases hw:w k with
 | false=>
  have hi:hiW w wd k=wd (k+1):=by unfold hiW;rw [hw];rfl
  have wi:wiW w wd k=wd k:=by unfold wiW;rw [hw];rfl
  obtain⟨r,B,I,e,J⟩:=YQ (q:=q) (w:=w) (wd:=wd) (T:=T) M hk true (by rw [hw];rfl) (by rw [hi];exact a2) (by rw [wi];exact a1) hq (Y k) K;rw [hi,wi]at e J;rw [hi]at I;exact⟨r,B,by omega,I.2,e,by rw [hi,wi];exact J⟩
 | true=>
  have hi:hiW w wd k=wd k:=by unfold hiW;rw [hw];rfl
  have wi:wiW w wd k=wd (k+1):=by unfold wiW;rw [hw];rfl
  obtain⟨r,B,I,e,J⟩:=Jx (q:=q) (w:=w) (wd:=wd) (T:=T) M hz hk true hw.symm (by rw [hi];exact a1) (by rw [wi];exact a2) hq (Y k) K (by rw [hi];exact hK);rw [hi,wi]at e J;rw [wi]at I;exact⟨r,B,by omega,I.2,e,by rw [hi,wi];exact J⟩
theorem nQ(M:Pr p){z:Nat}(hz:p=z)(O : ∀k,wd k<=3)(Y : ∀k x y,0<=T k x y/\T k x y<p)(hk:k<m)(hq:q<=100)(K:Nat->Vc)(hK:Rg p q (wd (k+1)) K) :
 ∃r B,r<=100/\Rg p r (wd k) B/\F_law_next [.int p,qv p m w wd T,.lst (zG q (wd (k+1)) K),.int (k:Int),.bl false]=some (.own (zG r (wd k) B))/\Qr (clw (w k)) F_led_into F_led_on [.int p,arT w wd T k,.lst (zG q (wd (k+1)) K)]=some (.own (zG r (wd k) B)):=by
 have a1:=O k;have a2:=O (k+1);unfold arT Qr clw;cases hw:w k with
 | false=>
  have hi:hiW w wd k=wd (k+1):=by unfold hiW;rw [hw];rfl
  have wi:wiW w wd k=wd k:=by unfold wiW;rw [hw];rfl
  obtain⟨r,B,I,e,J⟩:=Jx (q:=q) (w:=w) (wd:=wd) (T:=T) M hz hk false hw.symm (by rw [hi];exact a2) (by rw [wi];exact a1) hq (Y k) K (by rw [hi];exact hK);rw [hi,wi]at e J;rw [wi]at I;exact⟨r,B,by omega,I.2,e,by rw [hi,wi];exact J⟩
 | true=>
  have hi:hiW w wd k=wd k:=by unfold hiW;rw [hw];rfl
  have wi:wiW w wd k=wd (k+1):=by unfold wiW;rw [hw];rfl
  obtain⟨r,B,I,e,J⟩:=YQ (q:=q) (w:=w) (wd:=wd) (T:=T) M hk false (by rw [hw];rfl) (by rw [hi];exact a1) (by rw [wi];exact a2) hq (Y k) K;rw [hi,wi]at e J;rw [hi]at I;exact⟨r,B,by omega,I.2,e,by rw [hi,wi];exact J⟩
def dBf(a:Bool):CO Fl:=(zW 2 (ja (zP F_law_next (za (zd 0) (za (zd 1) (za (zd 2) (za (zd 5) (za (zk (.bl a)) zy))))))))
def cBf(F G:List D->Option Res):CO Fl:=(aO 4 (qQ 4 (vg F G (zx F_arrow_at (za (zd 0) (za (zd 5) zy))) (zd 4))))
theorem Vg:F_law_due_21=jv 6 (zM (xY (qk (zd 3) (zd 4)) (.nm 5) (dBf true)) (zM (xY (k5 (zh xw (zd 3) (zk (.int 1))) (zh xw (zd 4) (zk (.int 1))) (fA (zk (.int 1)))) (.nm 5) (dBf false)) (qZ 2))):=rfl
theorem vQ:F_carried=jv 6 (zM (qQ 4 (ql (zf 1))) (zM (xY (qk (zd 2) (zd 3)) (.nm 5) (cBf F_led_on F_led_into)) (zM (xY (k5 (zh xw (zd 2) (zk (.int 1))) (zh xw (zd 3) (zk (.int 1))) (fA (zk (.int 1)))) (.nm 5) (cBf F_led_into F_led_on)) (qZ 4)))):=rfl
theorem lr{a:Bool}{row:D}{b z:List D}{k:Int}{I c4:Cell}(e:F_law_next [.int p,row,.lst b,.int k,.bl a]=some (.own z)):dBf a [.val (.int p),.val row,.val (.lst b),I,c4,.val (.int k)]=some (.next [.val (.int p),.val row,.val (.lst z),I,c4,.val (.int k)]):=by
 simp [dBf,e]
theorem lz{F G:List D->Option Res}{b z:List D}{I J M:Cell}(O:k<m)(e:Qr (clw (w k)) F G [.int p,arT w wd T k,.lst b]=some (.own z)):cBf F G [.val (qv p m w wd T),I,J,M,.own b,.val (.int (k:Int))]=some (.next [.val (qv p m w wd T),I,J,M,.own z,.val (.int (k:Int))]):=by
 have g:vg F G (zx F_arrow_at (za (zd 0) (za (zd 5) zy))) (zd 4) [.val (qv p m w wd T),I,J,M,.val (.lst b),.val (.int (k:Int))]=some z:=by
  have Y:=XO (p:=p) (w:=w) (wd:=wd) (T:=T) O;show uT (Bs _ (F_arrow_at [qv p m w wd T,.int (k:Int)])) _=_;rw [Y];show uT (Qr (clw (w k)) F G [.int p,arT w wd T k,.lst b]) fB=_;rw [e];rfl
 unfold cBf;simp [g]
def upL:Nat->Nat->List D
 | _,0=>[]
 | i,n+1=> .int (i:Int)::upL (i+1) n
def dnL:Nat->Nat->List D
 | _,0=>[]
 | i,n+1=> .int ((i:Int) - 1)::dnL (i - 1) n
theorem aJ : ∀(n i:Nat),qf (i:Int) n=upL i n
 | 0,_=>rfl
 | n+1,i=>by
  rw [upL,<- aJ n (i+1)];unfold qf;rw [List.range_succ_eq_map,sJ,uh];refine List.cons_eq_cons.mpr ⟨congrArg D.int ?_,sf λa _=>congrArg D.int ?_⟩<;>omega
theorem bA : ∀(n i:Nat),n<=i->xA ((i:Int) - 1) n=dnL i n
 | 0,_,_=>rfl
 | n+1,i,h=>by
  rw [dnL,<- bA n (i - 1) ⋯];unfold xA;rw [List.range_succ_eq_map,sJ,uh];refine List.cons_eq_cons.mpr ⟨congrArg D.int ?_,sf λa _=>congrArg D.int ?_⟩<;>omega
theorem aF(hp:Pr p){z:Nat}(hz:p=z)(a3 : ∀k,wd k<=3)(hT : ∀k x y,0<=T k x y/\T k x y<p)(I c4 J g2 M:Cell) : ∀(n i q:Nat) (K:Nat->Vc) (c5 O:Cell),i+n<=m->q<=100->Rg p q (wd i) K->
 ∃r B Y h5,r<=100/\Rg p r (wd (i+n)) B/\qo (.nm 5) (dBf true) (upL i n) [.val (.int p),.val (qv p m w wd T),.val (.lst (zG q (wd i) K)),I,c4,c5]=some (.next [.val (.int p),.val (qv p m w wd T),.val (.lst (zG r (wd (i+n)) B)),I,c4,Y])/\
  qo (.nm 5) (cBf F_led_on F_led_into) (upL i n) [.val (qv p m w wd T),J,g2,M,.own (zG q (wd i) K),O]=some (.next [.val (qv p m w wd T),J,g2,M,.own (zG r (wd (i+n)) B),h5])
 | 0,i,q,K,c5,O,_,hq,hK=>⟨q,K,c5,O,hq,hK,rfl,rfl⟩
 | n+1,i,q,K,c5,O,hi,hq,hK=>by
  obtain⟨r,B,hr,hB,e1,e2⟩:=iU (w:=w) (m:=m) hp hz a3 hT (show i<m by omega) hq K hK;obtain⟨r',B',Y,h5,h1,h2,h3,h4⟩:=aF hp hz a3 hT I c4 J g2 M n (i+1) r B (.val (.int (i:Int))) (.val (.int (i:Int))) ⋯ hr hB;rw [show i+1+n=i+(n+1)by omega]at h2 h3 h4;refine⟨r',B',Y,h5,h1,h2,?_,?_⟩
  ·rw [upL,jj]
   show uT (dBf true [.val (.int p),.val (qv p m w wd T),.val (.lst (zG q (wd i) K)),I,c4,.val (.int (i:Int))]) _=_;rw [lr e1];exact h3
  ·rw [upL,jj]
   show uT (cBf F_led_on F_led_into [.val (qv p m w wd T),J,g2,M,.own (zG q (wd i) K),.val (.int (i:Int))]) _=_;rw [lz (show i<m by omega) e2];exact h4
theorem aG(hp:Pr p){z:Nat}(hz:p=z)(a3 : ∀k,wd k<=3)(hT : ∀k x y,0<=T k x y/\T k x y<p)(J c4 M g2 O:Cell) : ∀(n i q:Nat) (K:Nat->Vc) (c5 I:Cell),n<=i->i<=m->q<=100->Rg p q (wd i) K->
 ∃r B Y h5,r<=100/\Rg p r (wd (i - n)) B/\qo (.nm 5) (dBf false) (dnL i n) [.val (.int p),.val (qv p m w wd T),.val (.lst (zG q (wd i) K)),J,c4,c5]=some (.next [.val (.int p),.val (qv p m w wd T),.val (.lst (zG r (wd (i - n)) B)),J,c4,Y])/\
  qo (.nm 5) (cBf F_led_into F_led_on) (dnL i n) [.val (qv p m w wd T),M,g2,O,.own (zG q (wd i) K),I]=some (.next [.val (qv p m w wd T),M,g2,O,.own (zG r (wd (i - n)) B),h5])
 | 0,i,q,K,c5,I,_,_,hq,hK=>⟨q,K,c5,I,hq,hK,rfl,rfl⟩
 | n+1,0,q,K,c5,I,h,_,hq,hK=>absurd h (Nat.not_succ_le_zero _)
 | n+1,i+1,q,K,c5,I,h,hi,hq,hK=>by
  obtain⟨r,B,hr,hB,e1,e2⟩:=nQ (w:=w) (m:=m) hp hz a3 hT (show i<m by omega) hq K hK;obtain⟨r',B',Y,h5,h1,h2,h3,h4⟩:=aG hp hz a3 hT J c4 M g2 O n i r B (.val (.int (i:Int))) (.val (.int (i:Int))) ⋯ ⋯ hr hB;rw [show i - n=i+1 - (n+1)by omega]at h2 h3 h4;have ei:((i+1:Nat):Int) - 1=(i:Int):=by omega
  refine⟨r',B',Y,h5,h1,h2,?_,?_⟩
  ·rw [dnL,jj,ei]
   show uT (dBf false [.val (.int p),.val (qv p m w wd T),.val (.lst (zG q (wd (i+1)) K)),J,c4,.val (.int (i:Int))]) _=_;rw [lr e1];exact h3
  ·rw [dnL,jj,ei]
   show uT (cBf F_led_into F_led_on [.val (qv p m w wd T),M,g2,O,.own (zG q (wd (i+1)) K),.val (.int (i:Int))]) _=_;rw [lz (show i<m by omega) e2];exact h4
end
section
variable{p:Int}{q m k:Nat}{w:Nat->Bool}{wd:Nat->Nat}{T:Nat->Nat->Nat->Int}{K:Nat->Vc}
theorem ke{src:CO (List D)}{F:CO Fl}{t:Tg}{γ γ':Ctx}{ds:List D}(h:src γ=some ds)(e:qo t F ds γ=some (.next γ')):xY src t F γ=some (.next γ'):=by
 rw [XS,h];exact e
theorem rg2{a b:Nat}{γ:Ctx}{i j:Nat}(ha:γ[a]? = some (.val (.int (i:Int))))(z:γ[b]? = some (.val (.int (j:Int))))(hi:i<=100)(I:j<=100):qk (zd a) (zd b) γ=some (upL i (j - i)):=by
 have r1:inR (i:Int)=true:=yv ⋯ ⋯;have r2:inR (j:Int)=true:=yv ⋯ ⋯;rw [VA,zT,zT,ha,z];simp only [zo,rL,z9,r1,r2,and_self,if_true];rw [show((j:Int) - (i:Int)).toNat=j - i by omega,aJ]
theorem rg3{a b:Nat}{γ:Ctx}{i j:Nat}(ha:γ[a]? = some (.val (.int (i:Int))))(z:γ[b]? = some (.val (.int (j:Int))))(hi:i<=100)(I:j<=100):k5 (zh xw (zd a) (zk (.int 1))) (zh xw (zd b) (zk (.int 1))) (fA (zk (.int 1))) γ=some (dnL i (i - j)):=by
 have r1:inR ((i:Int) - 1)=true:=yv ⋯ ⋯;have r2:inR ((j:Int) - 1)=true:=yv ⋯ ⋯;have e1:zh xw (zd a) (zk (.int 1)) γ=some (.int ((i:Int) - 1)):=by simp [ha]
 have e2:zh xw (zd b) (zk (.int 1)) γ=some (.int ((j:Int) - 1)):=by simp [z]
 show((zh xw (zd a) (zk (.int 1)) γ).bind asI).bind _=_;rw [e1];show((zh xw (zd b) (zk (.int 1)) γ).bind asI).bind _=_;rw [e2];show(if (inR ((i:Int) - 1)=true/\inR ((j:Int) - 1)=true)/\(-1:Int) = -1 then some (xA ((i:Int) - 1) (((i:Int) - 1) - ((j:Int) - 1)).toNat)else none)=_;rw [if_pos ⟨⟨r1,r2⟩,rfl⟩,show(((i:Int) - 1) - ((j:Int) - 1)).toNat=i - j by omega,bA _ _ ⋯]
theorem QD(M:Pr p){z:Nat}(O:p=z)(Y : ∀k,wd k<=3)(hT : ∀k x y,0<=T k x y/\T k x y<p)(hm:m<=50){i j:Nat}(hi:i<=m)(hj:j<=m)(hq:q<=100)(K:Nat->Vc)(hK:Rg p q (wd i) K) :
 ∃r B,r<=100/\F_law_due_21 [.int p,qv p m w wd T,.lst (zG q (wd i) K),.int (i:Int),.int (j:Int)]=some (.val (.lst (zG r (wd j) B)))/\F_carried [qv p m w wd T,.lst (zG q (wd i) K),.int (i:Int),.int (j:Int)]=some (.own (zG r (wd j) B)):=by
 rw [Vg,vQ];by_cases h:i<=j
 ·obtain⟨r,B,d5,h5,J,_,e1,e2⟩:=aF (w:=w) (m:=m) M O Y hT (.val (.int (i:Int))) (.val (.int (j:Int))) (.val (.lst (zG q (wd i) K))) (.val (.int (i:Int))) (.val (.int (j:Int))) (j - i) i q K .no .no ⋯ hq hK
  rw [show i+(j - i)=j by omega]at e1 e2;have I:dnL i (i - j)=[]:=by rw [show i - j=0 by omega];rfl
  refine⟨r,B,J,j7 (zH (ke (rg2 rfl rfl ⋯ ⋯) e1) (zH (ke ((rg3 rfl rfl ⋯ ⋯).trans (congrArg some I)) rfl) rfl)),j7 (zH (γ':=[.val (qv p m w wd T),.val (.lst (zG q (wd i) K)),.val (.int (i:Int)),.val (.int (j:Int)),.own (zG q (wd i) K),.no]) rfl (zH (ke (rg2 rfl rfl ⋯ ⋯) e2) (zH (ke ((rg3 rfl rfl ⋯ ⋯).trans (congrArg some I)) rfl) rfl)))⟩
 ·obtain⟨r,B,d5,h5,J,_,e1,e2⟩:=aG (w:=w) (m:=m) M O Y hT (.val (.int (i:Int))) (.val (.int (j:Int))) (.val (.lst (zG q (wd i) K))) (.val (.int (i:Int))) (.val (.int (j:Int))) (i - j) i q K .no .no ⋯ ⋯ hq hK
  rw [show i - (i - j)=j by omega]at e1 e2;have I:upL i (j - i)=[]:=by rw [show j - i=0 by omega];rfl
  refine⟨r,B,J,j7 (zH (ke ((rg2 rfl rfl ⋯ ⋯).trans (congrArg some I)) rfl) (zH (ke (rg3 rfl rfl ⋯ ⋯) e1) rfl)),j7 (zH (γ':=[.val (qv p m w wd T),.val (.lst (zG q (wd i) K)),.val (.int (i:Int)),.val (.int (j:Int)),.own (zG q (wd i) K),.no]) rfl (zH (ke ((rg2 rfl rfl ⋯ ⋯).trans (congrArg some I)) rfl) (zH (ke (rg3 rfl rfl ⋯ ⋯) e2) rfl)))⟩
theorem ZG(hm:m<=50){i:Nat}(hi:i<=m)(b:List D):F_carried [qv p m w wd T,.lst b,.int (i:Int),.int (i:Int)]=some (.own b):=by
 rw [vQ];have z:upL i (i - i)=[]:=by rw [show i - i=0 by omega];rfl
 have z1:dnL i (i - i)=[]:=by rw [show i - i=0 by omega];rfl
 exact j7 (zH (γ':=[.val (qv p m w wd T),.val (.lst b),.val (.int (i:Int)),.val (.int (i:Int)),.own b,.no]) rfl (zH (ke ((rg2 rfl rfl ⋯ ⋯).trans (congrArg some z)) rfl) (zH (ke ((rg3 rfl rfl ⋯ ⋯).trans (congrArg some z1)) rfl) rfl)))
def ar1:CO Fl:=(zW 3 (zx F_arrow_at (za (zd 1) (za (zd 2) zy))))
def ar2:CO Fl:=(sIf (Jc (sB (zh dNe (KO ["Right","Left"] ["Right"] (zd 3)) (zh dEq (sIx (zC (sIx (zC (sIx (zf 1) (zk (.int 2)))) (zd 2))) (zk (.int 0))) (zk (.str "r"))))) (sB (zh dEq (KO ["Right","Left"] ["Left"] (zd 3)) (KO ["Right","Left"] ["Right"] (zd 3))))) (qB (zk (.bl false))) jS)
def ar3:CO Fl:=(qB (zx F_law_is_base_k22 (za (ja (vg F_led_on F_led_into (zd 3) (ja (jI zy)))) (za (ja (zP F_law_next (za (zd 0) (za (zd 1) (za (ja (jI zy)) (za (zd 2) (za (zk (.bl true)) zy))))))) zy))))
theorem lE:F_law_arrow_right=jv 4 (zM ar1 (zM ar2 ar3)):=rfl
theorem lq(x a:Bool):dNe (.bl x) (.bl a)=some (.bl (x != a)):=by
 cases x<;>cases a<;>(unfold dNe;rw [if_pos ⟨by decide +kernel,by decide +kernel⟩];rfl)
theorem QG(O:Pr p){z:Nat}(Y:p=z)(J : ∀k,wd k<=3)(hT : ∀k x y,0<=T k x y/\T k x y<p)(I:k<m):F_law_arrow_right [.int p,qv p m w wd T,.int (k:Int)]=some (.val (.bl true)):=by
 have hl:=jt;have ar:=XO (p:=p) (w:=w) (wd:=wd) (T:=T) I;obtain⟨r,B,hr,hB,e1,e2⟩:=iU (q:=0) (w:=w) (m:=m) O Y J hT I ⋯ (λ_ _=>0) (λj i hj=>absurd hj (sv _));have ib:=vJ B (show r<=lim by omega) (show wd (k+1)<=lim by have:=J (k+1);omega);rw [show zG 0 (wd k) (λ_ _=>0)=[]from rfl]at e1 e2;have rs:jE (qv p m w wd T)=some (.T,[.int p,.tup (zD (m+1) λk=>(wd k:Int)),.tup (xJ m w wd T)]):=rfl;have as:jE (bF w wd T k)=some (.T,[.str (qt (wch (w k))),xU (hiW w wd k) (wiW w wd k) (T k)]):=rfl;have i2:ixD 3 2=some 2:=rfl;have j0:ixD 2 0=some 0:=rfl;have ik:ixD m (k:Int)=some k:=by rw [jq,if_pos I]
 rw [lE];refine j7 (zH (γ':=[.val (.int p),.val (qv p m w wd T),.val (.int (k:Int)),.val (.ins (clw (w k)) (.int p) (arT w wd T k))]) ?_ (zH (γ':=[.val (.int p),.val (qv p m w wd T),.val (.int (k:Int)),.val (.ins (clw (w k)) (.int p) (arT w wd T k))]) ?_ ?_))
 ·show ar1 [.val (.int p),.val (qv p m w wd T),.val (.int (k:Int)),.no]=_
  simp [ar1,ar,clw,arT]
 ·have wy:zh dEq (sIx (zC (sIx (zC (sIx (zf 1) (zk (.int 2)))) (zd 2))) (zk (.int 0))) (zk (.str "r")) [.val (.int p),.val (qv p m w wd T),.val (.int (k:Int)),.val (.ins (clw (w k)) (.int p) (arT w wd T k))]=some (.bl (!(w k))):=by
   simp [rs,i2,I,ZI,as,j0,KQ]
  have M:KO ["Right","Left"] ["Right"] (zd 3) [.val (.int p),.val (qv p m w wd T),.val (.int (k:Int)),.val (.ins (clw (w k)) (.int p) (arT w wd T k))]=some (.bl (!(w k))):=by
   cases w k<;>rfl
  have k2:KO ["Right","Left"] ["Left"] (zd 3) [.val (.int p),.val (qv p m w wd T),.val (.int (k:Int)),.val (.ins (clw (w k)) (.int p) (arT w wd T k))]=some (.bl (w k)):=by
   cases w k<;>rfl
  have t1:sB (zh dNe (KO ["Right","Left"] ["Right"] (zd 3)) (zh dEq (sIx (zC (sIx (zC (sIx (zf 1) (zk (.int 2)))) (zd 2))) (zk (.int 0))) (zk (.str "r")))) [.val (.int p),.val (qv p m w wd T),.val (.int (k:Int)),.val (.ins (clw (w k)) (.int p) (arT w wd T k))]=some false:=by
   rw [pF,vW,M,wy];show(dNe (.bl (!(w k))) (.bl (!(w k)))).bind asB=_;rw [lq];cases w k<;>rfl
  have t2:sB (zh dEq (KO ["Right","Left"] ["Left"] (zd 3)) (KO ["Right","Left"] ["Right"] (zd 3))) [.val (.int p),.val (qv p m w wd T),.val (.int (k:Int)),.val (.ins (clw (w k)) (.int p) (arT w wd T k))]=some false:=by
   rw [pF,vW,k2,M];show(dEq (.bl (w k)) (.bl (!(w k)))).bind asB=_;rw [bD];cases w k<;>rfl
  unfold ar2;rw [fo,lG,t1];simp only [rL,AN,if_false];rw [t2];rfl
 ·have g:vg F_led_on F_led_into (zd 3) (ja (jI zy)) [.val (.int p),.val (qv p m w wd T),.val (.int (k:Int)),.val (.ins (clw (w k)) (.int p) (arT w wd T k))]=some (zG r (wd (k+1)) B):=by
   show uT (Qr (clw (w k)) F_led_on F_led_into [.int p,arT w wd T k,.lst []]) fB=_;rw [e2];rfl
  simp [ar3,g,e1,ib]
end
section
variable{p:Int}{q h w:Nat}{f:Nat->Nat->Int}
def r1:CO Fl:=(zW 6 (ja (ql (zf 4))))
def r2:CO Fl:=(zW 7 (ja (zP qO (za (zd 1) (za (zd 2) (za (zd 4) (za (zd 3) zy)))))))
def r3:CO Fl:=(sIf (Jc (qd (sB (zx F_law_is_base_k22 (za (ja (vg F_led_on F_led_into (zd 0) (zd 6))) (za (zd 7) zy))))) (sB (zh dNe (zd 6) (zd 4)))) (qB (zk (.bl false))) jS)
def r4:CO Fl:=(zW 6 (ja (ql (zf 5))))
def r5:CO Fl:=(zW 7 (ja (zP qO (za (zd 1) (za (zd 2) (za (zd 5) (za (cH (zd 3)) zy)))))))
end
section
variable{p:Int}
def nH:CO Fl:=(qH 4 (zI (jb (zB (zJ (zd 3)) (.nm 0) 1 [0,1,2,5] z7 (zh jA (zh ko (zx F_law_cell (za (zd 1) (za (zh j4 (zh j4 (zh j4 (zd 2) (zk (.int 1))) (zh qg (zk (.int 5)) (zd 4))) (zd 0)) zy))) (zk (.int 4))) (zd 3))))))
theorem Qt:qs=jv 6 (zM (qQ 4 (jI zy)) (zM (xY (zJ (zh jA (zx F_law_cell (za (zd 0) (za (zd 1) zy))) (zk (.int 4)))) (.nm 5) nH) (qZ 4))):=rfl
theorem ab(k n:Nat)(W:Nat->Vc):zG (k+1) n W=zG k n W++[.tup (zD n (W k))]:=by simp [zG,uN]
theorem dP{ns:List Int}(z:ns.length<=63)(I:Pr p){a n:Nat}(ha:a<=1000)(hn:n<=4) :
 ∃m W,qs [xV ns,.int (a:Int),.int p,.int n]=some (.own (zG m n W))/\m<=3/\∀j i,0<=W j i/\W j i<p:=by
 have hl:=jt;have J:=I.pos;have a8:=I.le;have M:n<=lim:=by omega
 obtain⟨Y,a2,a3⟩:=yi z (k:=(a:Int)) ⋯ ⋯;obtain⟨m,em,hm⟩:=Kt (m:=qJ ns (a:Int)) 4 ⋯;let W:Nat->Vc:=λk i=>qJ ns ((a:Int)+1+5*(k:Int)+(i:Int))/4%p;refine⟨m,W,?_,by omega,λj i=>⟨sU _ ⋯,sG _ J⟩⟩;obtain⟨γ,e,c5,rfl⟩:=Kx (T:= .nm 5) (F:=nH) (f:=(zh jA (zx F_law_cell (za (zd 0) (za (zd 1) zy))) (zk (.int 4)))) (λs γ=>∃c5,γ=[.val (xV ns),.val (.int (a:Int)),.val (.int p),.val (.int (n:Int)),.own (zG s n W),c5]) m ⋯
  (γ:=[.val (xV ns),.val (.int (a:Int)),.val (.int p),.val (.int (n:Int)),.own [],.no]) (by simp [Y,em]) ⟨_,rfl⟩ (by
    rintro s hs γ ⟨c5,rfl⟩;have k1:zN (.nm 0) z7 (zh jA (zh ko (zx F_law_cell (za (zd 1) (za (zh j4 (zh j4 (zh j4 (zd 2) (zk (.int 1))) (zh qg (zk (.int 5)) (zd 4))) (zd 0)) zy))) (zk (.int 4))) (zd 3)) [Cell.no,Cell.val (xV ns),Cell.val (.int (a:Int)),Cell.val (.int p),Cell.val (.int s)] (zD n λi=>(i:Int))=some (zD n (W s)):=by
     rw [zF n,zF n];refine zu _ _ λy O=>zv rfl rfl ?_;have O:=rV.mp O;have cm:yw 5 (s:Int)=true:=qi _ _ ⋯ ⋯;have ce:=(yi z (k:=(a:Int)+1+5*(s:Int)+(y:Int)) ⋯ ⋯).1;simp [cm,ce,J,W]
    have sl:(zG s n W).length<lim:=by simp [zG];omega
    refine⟨_,[.val (xV ns),.val (.int (a:Int)),.val (.int p),.val (.int (n:Int)),.own (zG (s+1) n W),.val (.int (s:Int))],rfl,?_,_,rfl⟩;unfold nH;rw [ab];simp only [sW,sV,J1,xW,yk,qb,qa,zT,rQ,rR,zo,xm,rL,z9,qR M,if_true,tm,je,qr,M];show(((zN _ _ _ [Cell.no,Cell.val (xV ns),Cell.val (.int (a:Int)),Cell.val (.int p),Cell.val (.int s)] _).map _).map _).bind _=_;rw [k1];simp only [sj,rL,sl,if_true])
 rw [Qt];exact j7 (zH rfl (zH e rfl))
end
def u1:CO Fl:=(zW 1 (zx F_law_cell (za (zd 0) (za (zk (.int 0)) zy))))
def u2:CO Fl:=(zW 2 (sIx (jb (jI (za (zk (.int 2)) (za (zk (.int 3)) (za (zk (.int 5)) (za (zk (.int 7)) zy)))))) (zh jA (zd 1) (zk (.int 4)))))
theorem kH{c:Int}{n:Nat}(hn:0<n) : ∃a:Nat,c%(n:Int)=a/\a<n:=by
 obtain⟨a,ha⟩:=tW (sU c (show(n:Int)≠0 by omega));have:=sG c (show(0:Int)<n by omega);exact⟨a,ha,by omega⟩
def y1:CO Fl:=(zW 1 (zx F_law_cell (za (zd 0) (za (zk (.int 0)) zy))))
def y2:CO Fl:=(zW 2 (sIx (jb (jI (za (zk (.int 2)) (za (zk (.int 3)) (za (zk (.int 5)) (za (zk (.int 7)) zy)))))) (zh jA (zd 1) (zk (.int 4)))))
def y3:CO Fl:=(zW 3 (sIx (jb (jI (za (zk (.int 4)) (za (zk (.int 4)) (za (zk (.int 3)) (za (zk (.int 3)) zy)))))) (zh jA (zd 1) (zk (.int 4)))))
def y4:CO Fl:=(zW 4 (zh dEq (zh jA (zh ko (zd 1) (zk (.int 4))) (zk (.int 2))) (zk (.int 1))))
def y5:CO Fl:=(zW 5 (ja (jI (za (zh jA (zh ko (zd 1) (zk (.int 8))) (zd 3)) (za (zh jA (zh ko (zd 1) (zk (.int 32))) (zd 3)) zy)))))
def z1:CO Fl:=(zW 11 (ja (zP F_law_base_k22 (za (zd 2) (za (sIx (zf 5) (zk (.int 0))) (za (ja (zP qs (za (zd 0) (za (zh j4 (zk (.int 10)) (zh qg (zk (.int 40)) (zd 10))) (za (zd 2) (za (sIx (zf 5) (zk (.int 0))) zy)))))) zy))))))
def z2:CO Fl:=(zW 12 (ja (zP F_law_base_k22 (za (zd 2) (za (sIx (zf 5) (zk (.int 1))) (za (ja (zP qs (za (zd 0) (za (zh j4 (zk (.int 30)) (zh qg (zk (.int 40)) (zd 10))) (za (zd 2) (za (sIx (zf 5) (zk (.int 1))) zy)))))) zy))))))
def z3:CO Fl:=(sIf (qd (sB (zx wu (za (zd 9) (za (zd 2) (za (zd 8) (za (zd 4) (za (zd 11) (za (zd 12) zy))))))))) (qB (zk (.bl false))) jS)
theorem gU{c:Int}(h:0<=c) : ∃q z:Nat,Pr (q:Int)/\1<=z/\z<=4/\([D.int 2,.int 3,.int 5,.int 7])[(c%4).toNat]? = some (.int q)/\ixD 4 (c%4)=some (c%4).toNat/\([D.int 4,.int 4,.int 3,.int 3])[(c%4).toNat]? = some (.int z):=by
 have q:c%4=0\/c%4=1\/c%4=2\/c%4=3:=by omega
 rcases q with q | q | q | q<;>rw [q]
 ·exact⟨2,4,by unfold Pr;omega,by decide,by decide,rfl,rfl,rfl⟩
 ·exact⟨3,4,by unfold Pr;omega,by decide,by decide,rfl,rfl,rfl⟩
 ·exact⟨5,3,by unfold Pr;omega,by decide,by decide,rfl,rfl,rfl⟩
 ·exact⟨7,3,by unfold Pr;omega,by decide,by decide,rfl,rfl,rfl⟩
structure Bar where
 s:Nat
 n:Nat
 v:Nat->Vc
def Bar.has(b:Bar)(r:Nat):Bool:=decide (b.s<=r) && decide (r<b.s+b.n)
structure BarOk(p:Int)(w:Nat->Bool)(wd:Nat->Nat)(T:Nat->Nat->Nat->Int)(k:Nat)(b:Bar):Prop where
 n1:1<=b.n
 le:b.s+b.n<=k+1
 rng : ∀r i,b.has r=true->i<wd r->0<=b.v r i/\b.v r i<p
 arr : ∀j,j<k->b.has (begR w j)=true->∀i,i<wd (endR w j)->app (T j) (wd (begR w j)) (b.v (begR w j)) i%p=(if b.has (endR w j)=true then b.v (endR w j) i else 0)%p
section ap
variable(γ:Ctx)
@[simp] theorem mB(f):aN f γ=(f γ).bind λd=>match d with
 | .str z=>if jg z=true then some (qz z)else none
 | _=>none:=rfl
@[simp] theorem mD(f):qG f γ=(f γ).bind λd=>match d with
 | .str z=>if jg z=true then some (xl (qz z))else none
 | _=>none:=rfl
@[simp] theorem mE(f):vh f γ=(f γ).bind λd=>match d with
 | .lst ds=>some (xl ds)
 | _=>none:=rfl
@[simp] theorem pB(f g):oV f g γ=(f γ).bind λd=>(g γ).bind λa=>match d with
 | .str x=>(cb a.2).map λl=> .bl (l.any λy=>y==x)
 | _=>none:=rfl
end ap
def rn(b:Int×Int)(r:Int):Bool:=decide (b.1<=r) && decide (r<=b.2)
def bc(bs:List (Int×Int))(r:Int):List Nat:=(rO bs.length).filter λi=>rn (bs.getD i (0,0)) r
def nC(l:List Nat):List D:=l.map λ(i:Nat)=>D.int i
@[simp] theorem lY(l):(nC l).length=l.length:=by simp [nC]
def pr(a b:Nat):D:= .tup [.int a,.int b]
@[simp] theorem oZ(a b):jE (pr a b)=some (.T,[.int (a:Int),.int (b:Int)]):=rfl
def mk(lo:Nat)(ch:List Int)(r:Nat):Int:=if lo<=r then ch.getD (r - lo) 0 else 0
theorem Qa{ns:List Int}(hn:ns.length<=63){r n:Nat}{t:Int}(ht:0<=t)(ac:t<1000)(hr:0<r)(am:r<=6)(an:n<=60) : ∃bs,xM [xV ns,.int t,.int n,.int r]=some (.own (jk bs))/\(∀b∈bs,bK r b)/\bs.length=n:=by
 have hl:=jt;have a1:n<=lim:=by omega
 have a2 : ∀(k s:Nat) (acc:List (Int×Int)) (c5 c6 c7:Cell),s+k=n->acc.length=s->(∀b∈acc,bK r b)->∃bs I J M,
  qo (.nm 5) (zM (zW 6 (zx F_law_cell (za (zd 0) (za (zh j4 (zd 1) (zd 5)) zy)))) (zM (zW 7 (zh jA (zd 6) (zd 3))) (qH 4 (yK (za (zd 7) (za (zh j4 (zd 7) (zh jA (zh ko (zd 6) (zd 3)) (zh xw (zd 3) (zd 7)))) zy)))))) ((Bh s k).map λ(i:Nat)=>D.int i)
   [.val (xV ns),.val (.int t),.val (.int n),.val (.int r),.own (jk acc),c5,c6,c7]=some (.next [.val (xV ns),.val (.int t),.val (.int n),.val (.int r),.own (jk bs),I,J,M])/\(∀b∈bs,bK r b)/\bs.length=n:=by
  intro k
  induction k with
  | zero=>intro s acc c5 c6 c7 h1 h2 O;exact⟨acc,c5,c6,c7,rfl,O,by omega⟩
  | succ k ih=>
   intro s acc c5 c6 c7 h1 h2 O;obtain⟨e1,e2,e3⟩:=yi hn (k:=t+(s:Int)) ⋯ ⋯;have a4:=sU (qJ ns (t+(s:Int))) (show(r:Int)≠0 by omega);have a5:=sG (qJ ns (t+(s:Int))) (show(0:Int)<r by omega);have as:=sU (qJ ns (t+(s:Int))/r) (show(r:Int) - qJ ns (t+(s:Int))%r≠0 by omega);have ax:=sG (qJ ns (t+(s:Int))/r) (show(0:Int)<(r:Int) - qJ ns (t+(s:Int))%r by omega);obtain⟨bs,I,J,M,h,Y,g2⟩:=ih (s+1) (acc++[(qJ ns (t+(s:Int))%r,qJ ns (t+(s:Int))%r+qJ ns (t+(s:Int))/r%((r:Int) - qJ ns (t+(s:Int))%r))]) (.val (.int s)) (.val (.int (qJ ns (t+(s:Int))))) (.val (.int (qJ ns (t+(s:Int))%r))) ⋯ (by simp [h2]) (λb z=>by
    rcases Au.mp z with z | z
    ·exact O b z
    ·have e:b=_:=tK.mp z
     subst e;exact⟨a4,by show _<=_+_;omega,by show _+_<_;omega⟩)
   refine⟨bs,I,J,M,?_,Y,g2⟩;rw [<- h,Am,sJ,jj];have al:acc.length<lim:=by omega
   have rp:(0:Int)<r:=by omega
   have rq:(0:Int)<(r:Int) - qJ ns (t+(s:Int))%r:=by omega
   have rb:(r:Int)<1073741824:=by omega
   simp [jh,e1,rp,hr,a5,al,rb];simp [jk]
 obtain⟨bs,I,J,M,h,Y,g2⟩:=a2 n 0 [] .no .no .no ⋯ rfl ⋯;refine⟨Qb bs,?_,λb z=>Y b ((wC bs).mem_iff.mp z),by rw [(wC bs).length_eq,g2]⟩;rw [<- uQ]at h;simp [xM,jv,jP,jh,a1,je,rY];rw [zF n λi=>(i:Int)];have e0:(jk []:List D)=[]:=rfl;rw [e0]at h;rw [h];simp [Yb (show bs.length<64 by omega)]
def nB(n k:Nat)(u:Nat->Int):Int:=if 0<k then (if k+1<n then u (k - 1)+(u (k+1)+0)else u (k - 1)+0)else if k+1<n then u (k+1)+0 else 0
def mv(n k:Nat)(u:Nat->Int)(i:Nat):Int:=if i=k then nB n k u - u k else u i
def b1:CO Fl:=(sIf (qd (sB (zx wZ (za (zd 1) zy)))) Jd jS)
def b2:CO Fl:=(zW 3 (zh j4 (Kf (zd 1)) (zk (.int 1))))
def b3:CO Fl:=(sIf (qd (sB (Wi (jb (zB (zA (zf 2)) (.nm 0) 1 [3] z7 (zx yx (za (zd 1) (za (zd 0) zy)))))))) Jd jS)
def b4:CO Fl:=(zW 4 (ja (Ja (zf 2))))
def b5:CO Fl:=(zW 5 (ja (zB (zJ (zd 3)) (.nm 0) 1 [4] z7 (ja (zP VH (za (zd 1) (za (zd 0) zy)))))))
def b6:CO Fl:=(zW 6 (zI (jb (zB (zA (zf 5)) (.nm 0) 1 [] z7 (wg (zf 0))))))
def b7:CO Fl:=(sIf (sB (zh dGt (cG (zf 6)) (zk (.int 30)))) Jd jS)
def b8:CO Fl:=(zW 7 (ja (zB (qG (zd 1)) (.tp [0,1]) 2 [5] z7 (yK (za (zd 1) (za (zx QL (za (sIx (zf 2) (zx aE (za (zd 0) (za (zd 1) zy)))) (za (sIx (zf 2) (zx wA (za (zd 0) (za (zd 1) zy)))) zy))) zy))))))
def x1:CO Xn:=(xIf (qd (sB (zx wZ (za (zd 1) zy)))) (mM "NoRow") xNo)
def x3:CO Xn:=(xIf (qd (sB (Wi (jb (zB (zA (zf 2)) (.nm 0) 1 [3] z7 (zx yx (za (zd 1) (za (zd 0) zy)))))))) (mM "NoRow") xNo)
def x7:CO Xn:=(xIf (sB (zh dGt (cG (zf 6)) (zk (.int 30)))) (mM "TooMany") xNo)
def gu(m:Nat)(bs:List (Int×Int)):List D:=(rO (m+1)).map λ(r:Nat)=>D.lst (nC (bc bs r))
def bU(m:Nat)(bs:List (Int×Int)):List D:=zD (m+1) λr=>((bc bs r).length:Int)
section
variable{p:Int}{m:Nat}{w:Nat->Bool}{bs:List (Int×Int)}
abbrev g0(p:Int)(z:Str)(bs:List (Int×Int)):Ctx:=[.val (.int p),.val (.str z),.val (.lst (jk bs)),.no,.no,.no,.no,.no]
abbrev g2(p:Int)(z:Str)(m:Nat)(bs:List (Int×Int)):Ctx:=[.val (.int p),.val (.str z),.val (.lst (jk bs)),.val (.int ((m+1:Nat):Int)),.no,.no,.no,.no]
abbrev g6(p:Int)(z:Str)(m:Nat)(bs:List (Int×Int)):Ctx:=[.val (.int p),.val (.str z),.val (.lst (jk bs)),.val (.int ((m+1:Nat):Int)),.val (.lst (jk (Qb bs))),.val (.lst (gu m (Qb bs))),.val (.tup (bU m (Qb bs))),.no]
end
def rnd(n:Nat)(ks:List Nat)(u:Nat->Int):Nat->Int:=ks.foldl (λu k=>mv n k u) u
def itr(n:Nat)(ks:List Nat)(u:Nat->Int):Nat->Nat->Int
 | 0=>u
 | j+1=>rnd n ks (itr n ks u j)
def acc(n:Nat)(ks:List Nat)(u:Nat->Int):Nat->Nat->Int
 | 0=>λ_=>0
 | j+1=>λi=>acc n ks u j i+itr n ks u j i
def oD(n:Nat):Option Vc->D
 | none=> .non
 | some y=> .tup (zD n y)
abbrev TB:=Nat×Nat×(Nat->Nat->Int)
section
variable{wd:Nat->Nat}{m k N:Nat}{p:Int}{w:Nat->Bool}{T:Nat->Nat->Nat->Int}{A:Nat->Bar}
def ixs(A:Nat->Bar)(N r:Nat):List Nat:=(rO N).filter λj=>(A j).has r
end
structure Decp(p:Int)(w:Nat->Bool)(wd:Nat->Nat)(T:Nat->Nat->Nat->Int)(m N:Nat)(A:Nat->Bar):Prop where
 ok : ∀j,j<N->BarOk p w wd T m (A j)
 sp : ∀r,r<=m->∀v:Vc,∃t:Vc,∀i,i<wd r->v i%p=sumTo (λj=>if (A j).has r=true then t j*(A j).v r i else 0) N%p
 inj : ∀r,r<=m->∀t:Vc,(∀i,i<wd r->sumTo (λj=>if (A j).has r=true then t j*(A j).v r i else 0) N%p=0)->∀j,j<N->(A j).has r=true->t j%p=0
 cnt : ∀r,r<=m->(ixs A N r).length=wd r
def gV(p:Int)(a b:Nat)(c:Int)(v:Vc):Vc:=λi=>if i=b then (v b+c*v a)%p else v i
def jZ(p:Int)(w:Nat->Bool)(r a b:Nat)(c c':Int)(T:Nat->Nat->Nat->Int):Nat->Nat->Nat->Int:=λk i j=>
 if endR w k=r then (if i=b then (T k b j+c*T k a j)%p else T k i j)else if begR w k=r then (if j=a then (T k i a+c'*T k i b)%p else T k i j)else T k i j
def cj(p:Int)(r a b:Nat)(c:Int)(x:Bar):Bar:=⟨x.s,x.n,λr'=>if r'=r then gV p a b c (x.v r')else x.v r'⟩
theorem QZ(p:Int)(r a b:Nat)(c:Int)(x:Bar)(r':Nat):(cj p r a b c x).has r'=x.has r':=rfl
theorem yj(w:Nat->Bool)(k:Nat):begR w k≠endR w k:=by unfold begR endR;split<;>omega
section
variable{p:Int}{w:Nat->Bool}{wd:Nat->Nat}{T:Nat->Nat->Nat->Int}{m N:Nat}{A:Nat->Bar}{r a b:Nat}{c c':Int}
theorem qY(v:Vc)(i:Nat):gV p a b c v i%p=(v i+(if i=b then c*v a else 0))%p:=by
 unfold gV;by_cases h:i=b
 ·rw [if_pos h,if_pos h,tD,h]
 ·rw [if_neg h,if_neg h,Bb]
theorem iW(z:0<p){v:Vc}{n:Nat}(h : ∀i,i<n->0<=v i/\v i<p) : ∀i,i<n->0<=gV p a b c v i/\gV p a b c v i<p:=λi hi=>by
 unfold gV;split
 ·exact⟨sU _ ⋯,sG _ z⟩
 ·exact h i hi
theorem eZ(ha:endR w k=r)(n:Nat)(v:Vc)(i:Nat):app (jZ p w r a b c c' T k) n v i%p=gV p a b c (app (T k) n v) i%p:=by
 rw [qY];unfold app;by_cases h:i=b
 ·subst h
  rw [if_pos rfl];have e:sumTo (λj=>jZ p w r a i c c' T k i j*v j) n%p=sumTo (λj=>T k i j*v j+c*(T k a j*v j)) n%p:=jT λj _=>by
   unfold jZ;rw [if_pos ha,if_pos rfl,so,tD,<- so,Int.add_mul,Int.mul_assoc]
  rw [e,qT,kZ]
 ·rw [if_neg h,Bb]
  congr 1;exact j6 λj _=>by unfold jZ;rw [if_pos ha,if_neg h]
theorem QX{n x:Nat}(z:x<n)(f:Nat->Int):sumTo (λj=>if j=x then f j else 0) n=f x:=by
 rw [j5 (f:=λj=>if j=x then f j else 0) z λj _ I=>if_neg I,if_pos rfl]
theorem fe(I:begR w k=r)(J:(c+c'+(if a=b then c*c' else 0))%p=0){n:Nat}(ha:a<n)(M:b<n)(v:Vc)(i:Nat):app (jZ p w r a b c c' T k) n (gV p a b c v) i%p=app (T k) n v i%p:=by
 have he:endR w k≠r:=λz=>yj w k (by rw [I,z]);unfold app;have e:sumTo (λj=>jZ p w r a b c c' T k i j*gV p a b c v j) n%p=sumTo (λj=>T k i j*v j+((if j=b then T k i j*(c*v a)else 0)+(if j=a then (c'*T k i b)*(v j+(if j=b then c*v a else 0))else 0))) n%p:=jT λj _=>by
  rw [so,qY];have e1:jZ p w r a b c c' T k i j%p=(T k i j+(if j=a then c'*T k i b else 0))%p:=by
   unfold jZ;rw [if_neg he,if_pos I];by_cases h:j=a
   ·rw [if_pos h,if_pos h,tD,h]
   ·rw [if_neg h,if_neg h,Bb]
  rw [e1,<- so];congr 1;by_cases h1:j=b<;>by_cases h2:j=a<;>simp only [h1,h2,if_true,if_false,Int.add_mul,Cm,Bb,Bu,Int.zero_add,Int.zero_mul]<;>(try split)<;>omega
 rw [e,qT,qT,QX M (λj=>T k i j*(c*v a)),QX ha (λj=>(c'*T k i b)*(v j+(if j=b then c*v a else 0)))];have O:T k i b*(c*v a)+c'*T k i b*(v a+if a=b then c*v a else 0)=T k i b*v a*(c+c'+(if a=b then c*c' else 0)):=by
  by_cases h:a=b
  ·simp only [h,if_true]
   grind
  ·simp only [h,if_false]
   grind
 rw [O,sA,so (T k i b*v a),J];simp
theorem J0(h1:endR w k≠r)(h2:begR w k≠r):jZ p w r a b c c' T k=T k:=by
 funext i j;unfold jZ;rw [if_neg h1,if_neg h2]
theorem Ka(hp:0<p)(hc:(c+c'+(if a=b then c*c' else 0))%p=0)(ha:a<wd r)(hb:b<wd r){x:Bar}(h:BarOk p w wd T m x):BarOk p w wd (jZ p w r a b c c' T) m (cj p r a b c x):=by
 refine⟨h.n1,h.le,λr' i M hi=>?_,λk hk M i hi=>?_⟩
 ·show 0<=(if r'=r then gV p a b c (x.v r')else x.v r') i/\(if r'=r then gV p a b c (x.v r')else x.v r') i<p
  by_cases e:r'=r
  ·rw [if_pos e];exact iW hp (λi hi=>h.rng r' i M hi) i hi
  ·rw [if_neg e];exact h.rng r' i M hi
 ·rw [QZ]at M ⊢
  have O:=h.arr k hk M;show app _ _ (if begR w k=r then gV p a b c (x.v (begR w k))else x.v (begR w k)) i%p=(if x.has (endR w k)=true then (if endR w k=r then gV p a b c (x.v (endR w k))else x.v (endR w k)) i else 0)%p;by_cases he:endR w k=r
  ·have I:begR w k≠r:=λz=>yj w k (by rw [he,z])
   rw [if_neg I,if_pos he,eZ he,qY];have a6:i<wd (endR w k):=hi;have a7:a<wd (endR w k):=by rw [he];exact ha
   have Y:=O i a6;have o2:=O a a7;by_cases hx:x.has (endR w k)=true
   ·rw [if_pos hx]at Y o2 ⊢
    rw [qY,sA,Y];by_cases J:i=b
    ·rw [if_pos J,if_pos J,so,o2,<- so,<- sA]
    ·rw [if_neg J,if_neg J,<- sA]
   ·rw [if_neg hx]at Y o2 ⊢
    rw [sA,Y];by_cases J:i=b
    ·rw [if_pos J,so,o2];simp
    ·rw [if_neg J];simp
  ·rw [if_neg he]
   by_cases I:begR w k=r
   ·rw [if_pos I,fe I hc (by rw [I];exact ha) (by rw [I];exact hb)]
    exact O i hi
   ·rw [if_neg I,J0 he I]
    exact O i hi
theorem bz(t:Vc)(q:Nat->Bool)(u:Nat->Vc)(i:Nat):sumTo (λj=>if q j=true then t j*gV p a b c (u j) i else 0) N%p=gV p a b c (λi=>sumTo (λj=>if q j=true then t j*u j i else 0) N) i%p:=by
 rw [qY];have e:sumTo (λj=>if q j=true then t j*gV p a b c (u j) i else 0) N%p=sumTo (λj=>(if q j=true then t j*u j i else 0)+(if i=b then c*(if q j=true then t j*u j a else 0)else 0)) N%p:=jT λj _=>by
  by_cases h:q j=true
  ·rw [if_pos h,if_pos h,if_pos h,so,qY,<- so,Cm]
   by_cases hi:i=b
   ·rw [if_pos hi,if_pos hi];congr 2;exact Int.mul_left_comm _ _ _
   ·rw [if_neg hi,if_neg hi,Bu]
  ·rw [if_neg h,if_neg h,if_neg h];split<;>simp
 rw [e,qT];by_cases hi:i=b
 ·rw [if_pos hi,j6 (g:=λj=>c*(if q j=true then t j*u j a else 0)) λj _=>if_pos hi,kZ]
 ·rw [if_neg hi,j6 (g:=λ_=>0) λj _=>if_neg hi,qj]
theorem iX(I:(c+c'+(if a=b then c*c' else 0))%p=0){n:Nat}(ha:a<n)(M:b<n){v:Vc}(h : ∀i,i<n->gV p a b c v i%p=0) : ∀i,i<n->v i%p=0:=λi hi=>by
 have h1:=h i hi;rw [qY]at h1;by_cases z:i=b
 ·rw [if_pos z]at h1
  subst z;have h2:=h a ha;rw [qY]at h2;by_cases J:a=i
  ·subst J
   rw [if_pos rfl]at h2 I;have e:v a=(v a+c*v a)*(1+c') - v a*(c+c'+c*c'):=by grind
   rw [e,BU,so,h2,so (v a),I];simp
  ·rw [if_neg J,Bb]at h2
   rw [sA,so,h2]at h1;simpa using h1
 ·rw [if_neg z,Bb]at h1
  exact h1
theorem iV(I:(c+c'+(if a=b then c*c' else 0))%p=0)(v:Vc)(i:Nat):gV p a b c (gV p a b c' v) i%p=v i%p:=by
 rw [qY,sA,qY];by_cases z:i=b
 ·subst z
  rw [if_pos rfl,if_pos rfl,so c,qY,<- so,<- sA];have e:v i+c'*v a+c*(v a+if a=i then c'*v a else 0)=v i+v a*(c+c'+if a=i then c*c' else 0):=by
   by_cases h:a=i
   ·simp only [h,if_true];grind
   ·simp only [h,if_false];grind
  rw [e,sA,so,I];simp
 ·rw [if_neg z,if_neg z]
  simp
theorem K6(hp:0<p)(J:(c+c'+(if a=b then c*c' else 0))%p=0)(ha:a<wd r)(O:b<wd r)(D:Decp p w wd T m N A):Decp p w wd (jZ p w r a b c c' T) m N λj=>cj p r a b c (A j):=by
 refine⟨λj M=>Ka hp J ha O (D.ok j M),λr' z v=>?_,λr' z t Y j M hh=>?_,D.cnt⟩
 ·by_cases e:r'=r
  ·subst e
   obtain⟨t,h⟩:=D.sp r' z (gV p a b c' v);refine⟨t,λi hi=>?_⟩;show v i%p=sumTo (λj=>if (A j).has r'=true then t j*(if r'=r' then gV p a b c ((A j).v r')else (A j).v r') i else 0) N%p;simp only [if_true];rw [bz,qY,<- iV J v i,qY,sA,h i hi];by_cases I:i=b
   ·rw [if_pos I,if_pos I,so,h a ha,<- so,<- sA]
   ·rw [if_neg I,if_neg I,<- sA]
  ·obtain⟨t,h⟩:=D.sp r' z v
   refine⟨t,λi hi=>?_⟩;show v i%p=sumTo (λj=>if (A j).has r'=true then t j*(if r'=r then gV p a b c ((A j).v r')else (A j).v r') i else 0) N%p;simp only [if_neg e];exact h i hi
 ·rw [QZ]at hh
  refine D.inj r' z t (λi hi=>?_) j M hh;by_cases e:r'=r
  ·subst e
   refine iX (v:=λi=>sumTo (λj=>if (A j).has r'=true then t j*(A j).v r' i else 0) N) J ha O (λi hi=>?_) i hi;rw [<- bz];have:=Y i hi;refine Bc ?_ this;congr 1;exact j6 λj _=>by show _=if (A j).has r'=true then t j*(if r'=r' then gV p a b c ((A j).v r')else (A j).v r') i else 0;rw [if_pos rfl]
  ·refine Bc ?_ (Y i hi)
   congr 1;exact j6 λj _=>by show _=if (A j).has r'=true then t j*(if r'=r then gV p a b c ((A j).v r')else (A j).v r') i else 0;rw [if_neg e]
theorem V5(M:0<p)(I : ∀k x y,0<=T k x y/\T k x y<p) : ∀k x y,0<=jZ p w r a b c c' T k x y/\jZ p w r a b c c' T k x y<p:=λk x y=>by
 have J : ∀z:Int,0<=z%p/\z%p<p:=λz=>⟨sU _ ⋯,sG _ M⟩;unfold jZ;split
 ·split
  ·exact J _
  ·exact I k x y
 ·split
  ·split
   ·exact J _
   ·exact I k x y
  ·exact I k x y
end
def nE(S E:Nat->Nat)(j:Nat):Bar:=⟨S j,E j - S j+1,λ_ _=>0⟩
def jH(S E:Nat->Nat)(N r:Nat):List Nat:=ixs (nE S E) N r
def layB(S E:Nat->Nat)(N j:Nat):Bar:=⟨S j,E j - S j+1,λr i=>if (jH S E N r).getD i N=j then 1 else 0⟩
def VL(S E:Nat->Nat)(N r:Nat):Nat:=(jH S E N r).length
def WY(w:Nat->Bool)(S E:Nat->Nat)(N k i j:Nat):Int:=if (jH S E N (endR w k)).getD i N=(jH S E N (begR w k)).getD j (N+1)then 1 else 0
section
variable{S E:Nat->Nat}{N r:Nat}{w:Nat->Bool}{p:Int}{m:Nat}
theorem V7:(jH S E N r).Nodup:=List.Nodup.sublist List.filter_sublist List.nodup_range
theorem stand_mem{j:Nat}:j∈jH S E N r↔j<N/\(layB S E N j).has r=true:=by
 unfold jH ixs;rw [sT,rV];rfl
theorem Q0{j:Nat}(h:j<N)(I:(layB S E N j).has r=true) : ∃c,c<VL S E N r/\(jH S E N r)[c]? = some j:=by
 obtain⟨c,z⟩:=Be (stand_mem.mpr ⟨h,I⟩);exact⟨c,(rP.mp z).1,z⟩
theorem vc{c d:Nat}(h:c<VL S E N r) : ∃j,(jH S E N r)[c]? = some j/\(jH S E N r).getD c d=j/\j<N/\(layB S E N j).has r=true:=by
 have e:=rN (l:=jH S E N r) h;obtain⟨h1,h2⟩:=stand_mem.mp (sy e);exact⟨_,e,by rw [rT,e];rfl,h1,h2⟩
theorem Z2{c c' j:Nat}(h1:(jH S E N r)[c]? = some j)(h2:(jH S E N r)[c']? = some j):c=c':=by
 exact(List.getElem?_inj (rP.mp h1).1 V7).mp (h1.trans h2.symm)
theorem wL{c j:Nat}(h:c<VL S E N r):(layB S E N j).v r c=if (jH S E N r)[c]? = some j then 1 else 0:=by
 obtain⟨I,e1,e2,_⟩:=vc (d:=N) h;show(if (jH S E N r).getD c N=j then (1:Int)else 0)=_;rw [e1,e2];by_cases z:I=j
 ·rw [if_pos z,if_pos (by rw [z])]
 ·rw [if_neg z,if_neg (λq=>z (sH q))]
theorem WW(hp:Pr p)(hE : ∀j,j<N->S j<=E j/\E j<=m):Decp p w (VL S E N) (WY w S E N) m N (layB S E N):=by
 have two:=hp.two;refine⟨λj J=>⟨by show 1<=_+1;omega,by show S j+(E j - S j+1)<=m+1;have:=hE j J;omega,λr i _ _=>?_,λk hk hh i hi=>?_⟩,λr hr v=>?_,λr hr t ht j J hh=>?_,λr hr=>rfl⟩
 ·show 0<=(if _ then (1:Int)else 0)/\(if _ then (1:Int)else 0)<p
  split<;>omega
 ·obtain⟨M,O,Y⟩:=Q0 J hh
  obtain⟨ji,i1,i2,i3,i4⟩:=vc (d:=N) hi;have e:app (WY w S E N k) (VL S E N (begR w k)) ((layB S E N j).v (begR w k)) i=WY w S E N k i M:=by
   unfold app;rw [j5 (f:=λc=>WY w S E N k i c*(layB S E N j).v (begR w k) c) O λc hc I=>by
    rw [wL hc,if_neg (λq=>I (Z2 q Y)),Bu]]
   rw [wL O,if_pos Y,Ck]
  rw [e];congr 1;unfold WY;rw [show(jH S E N (begR w k)).getD M (N+1)=j by rw [rT,Y];rfl];by_cases hx:(layB S E N j).has (endR w k)=true
  ·rw [if_pos hx];rfl
  ·rw [if_neg hx,i2,if_neg (λz=>hx (by rw [<- z];exact i4))]
 ·refine⟨λj=>sumTo (λc=>if (jH S E N r)[c]? = some j then v c else 0) (VL S E N r),λi hi=>?_⟩
  obtain⟨ji,i1,i2,i3,i4⟩:=vc (d:=N) hi;rw [j5 (f:=λj=>if (layB S E N j).has r=true then sumTo (λc=>if (jH S E N r)[c]? = some j then v c else 0) (VL S E N r)*(layB S E N j).v r i else 0) i3 λj J I=>by
   rw [wL hi,show(if (jH S E N r)[i]? = some j then (1:Int)else 0)=0 from if_neg (λq=>I (sH (q.symm.trans i1))),Bu,ite_self]]
  rw [if_pos i4,wL hi,if_pos i1,Ck,j5 (f:=λc=>if (jH S E N r)[c]? = some ji then v c else 0) hi λc hc I=>if_neg λq=>I (Z2 q i1),if_pos i1]
 ·obtain⟨M,O,Y⟩:=Q0 J hh
  have:=ht M O;rw [j5 (f:=λj=>if (layB S E N j).has r=true then t j*(layB S E N j).v r M else 0) J λj' ar I=>by
   rw [wL O,show(if (jH S E N r)[M]? = some j' then (1:Int)else 0)=0 from if_neg (λq=>I (sH (q.symm.trans Y))),Bu,ite_self]]at this
  rw [if_pos hh,wL O,if_pos Y,Ck]at this;exact this
theorem WX(z:Pr p) : ∀k x y,0<=WY w S E N k x y/\WY w S E N k x y<p:=λk x y=>by
 have:=z.two;unfold WY;split<;>omega
end
def kI(s:Nat×Nat):List Int:=[(s.1:Int),(s.2:Int)]
section
variable{p:Int}{w:Nat->Bool}{wd:Nat->Nat}{T:Nat->Nat->Nat->Int}{m N:Nat}{A:Nat->Bar}
def keyN(A:Nat->Bar)(N:Nat):List (Nat×Nat):=(rO N).map λj=>((A j).s,(A j).s+(A j).n - 1)
end
def J5(n:Nat)(v:Vc):List Int:=(rO n).map v
def ZU(h v:Nat)(f:Nat->Nat->Int):List (List Int):=(rO h).map λi=>J5 v (f i)
def qy(w:Nat->Bool)(wd:Nat->Nat)(T:Nat->Nat->Nat->Int)(m:Nat):TT:=(rO m).map λk=>ZU (hiW w wd k) (wiW w wd k) (T k)
@[simp] theorem V0(n v):(J5 n v).length=n:=by simp [J5]
@[simp] theorem QN(h v f):(ZU h v f).length=h:=by simp [ZU]
@[simp] theorem QU(w wd T m):(qy w wd T m).length=m:=by simp [qy]
theorem XD(n v):fF (J5 n v) = .lst (zD n v):=by simp [fF,J5,zF,uh,Bn]
theorem XC(h v f):fE (ZU h v f) = .lst (jQ h v f):=by
 unfold fE ZU jQ;rw [uh];congr 1;exact sf λi _=>XD v (f i)
theorem ah(w wd T m):eJ (qy w wd T m) = .lst (xx w wd T m):=by
 unfold eJ qy xx;rw [uh];congr 1;exact sf λk _=>XC _ _ _
theorem yb : ∀(l:List Int),kn (l.map D.int)=some l
 | []=>rfl
 | i::l=>by show(kn (l.map D.int)).map _=_;rw [yb l];rfl
theorem Y5(n v):kn (zD n v)=some (J5 n v):=by
 have:zD n v=(J5 n v).map D.int:=by simp [J5,zF,uh,Bn]
 rw [this,yb]
theorem V1{n:Nat}{u v:Vc}(h : ∀i,i<n->u i=v i):J5 n u=J5 n v:=sf λi hi=>h i (rV.mp hi)
theorem VP{h v:Nat}{f g:Nat->Nat->Int}(e : ∀i,i<h->∀j,j<v->f i j=g i j):ZU h v f=ZU h v g:=sf λi hi=>V1 (e i (rV.mp hi))
theorem jM{w:Nat->Bool}{wd:Nat->Nat}{T U:Nat->Nat->Nat->Int}{m:Nat}(e : ∀k,k<m->∀i,i<hiW w wd k->∀j,j<wiW w wd k->T k i j=U k i j):qy w wd T m=qy w wd U m:=sf λk z=>VP (e k (rV.mp z))
theorem vj{α:Type}{n b:Nat}{f:Nat->α}{x:α}(z:b<n):((rO n).map f).set b x=(rO n).map λi=>if i=b then x else f i:=by
 apply Af;intro i;rw [List.getElem?_set];by_cases h:b=i
 ·subst h;simp [z]
 ·by_cases hi:i<n
  ·simp [h,hi,uu h]
  ·simp [h,hi]
theorem VZ{n b:Nat}{v:Vc}{x:Int}(z:b<n):(J5 n v).set b x=J5 n λj=>if j=b then x else v j:=vj z
theorem QM{h v b:Nat}{f:Nat->Nat->Int}{g:Vc}(z:b<h):(ZU h v f).set b (J5 v g)=ZU h v λi=>if i=b then g else f i:=by
 unfold ZU;rw [vj z];refine sf λi _=>?_;by_cases e:i=b
 ·rw [if_pos e];exact congrArg (J5 v) (if_pos e).symm
 ·rw [if_neg e];exact congrArg (J5 v) (if_neg e).symm
theorem QT{w:Nat->Bool}{wd:Nat->Nat}{T:Nat->Nat->Nat->Int}{m k:Nat}{f:Nat->Nat->Int}(I:k<m):(qy w wd T m).set k (ZU (hiW w wd k) (wiW w wd k) f)=qy w wd (λz=>if z=k then f else T z) m:=by
 unfold qy;rw [vj I];refine sf λz _=>?_;by_cases e:z=k
 ·subst e;rw [if_pos rfl];exact congrArg (ZU _ _) (if_pos rfl).symm
 ·rw [if_neg e];exact congrArg (ZU _ _) (if_neg e).symm
theorem yJ{w:Nat->Bool}{wd:Nat->Nat}{T:Nat->Nat->Nat->Int}{m k:Nat}(z:k<m):(qy w wd T m)[k]? = some (ZU (hiW w wd k) (wiW w wd k) (T k)):=by simp [qy,z]
theorem VO{h v i:Nat}{f:Nat->Nat->Int}(hi:i<h):(ZU h v f)[i]? = some (J5 v (f i)):=by simp [ZU,hi]
theorem qS{T:Tg}{F:YF}(P:Nat->Ctx->TT->Prop) : ∀(ds:List D) (k:Nat) (γ:Ctx) (Z:TT),P k γ Z->(∀i d γ Z,ds[i]? = some d->P (k+i) γ Z->∃γ1 r,jx T d γ=some γ1/\F γ1 Z=some r/\P (k+i+1) r.1 r.2)->∃r,ZV T F ds γ Z=some r/\P (k+ds.length) r.1 r.2
 | [],k,γ,Z,h,_=>⟨(γ,Z),rfl,h⟩
 | d::ds,k,γ,Z,h,step=>by
  obtain⟨γ1,r,e1,e2,h2⟩:=step 0 d γ Z rfl h;obtain⟨r',z,I⟩:=qS P ds (k+1) r.1 r.2 h2 λi d' γ' Z' hd J=>by
   have:=step (i+1) d' γ' Z' (by simpa using hd) (by rw [show k+(i+1)=k+1+i by omega];exact J);rw [show k+(i+1)+1=k+1+i+1 by omega]at this;exact this
  refine⟨r',?_,by rw [sP,show k+(ds.length+1)=k+1+ds.length by omega];exact I⟩;show(jx T d γ).bind _=_;rw [e1,rL,e2,rL];exact z
theorem VW{j k N:Nat}{F:Nat->YF}(P:Nat->Ctx->TT->Prop){γ:Ctx}{Z:TT}(h0:P 0 γ Z)(step : ∀m γ Z,m<N->P m γ Z->j<γ.length/\∃r,F m (γ.set j .no) Z=some r/\(r.2[k]?).map AX=some N/\P (m+1) r.1 r.2) : ∃r,y6 j F k N N γ Z=some r/\P N r.1 r.2:=by
 have z : ∀n γ Z,n<=N->P (N - n) γ Z->∃r,y6 j F k N n γ Z=some r/\P N r.1 r.2:=by
  intro n
  induction n with
  | zero=>exact λγ Z _ h=>⟨(γ,Z),rfl,h⟩
  | succ n I=>
   intro γ Z hn h;obtain⟨O,r,e1,e2,h2⟩:=step (N - (n+1)) γ Z ⋯ h;rw [show N - (n+1)+1=N - n by omega]at h2;obtain⟨r',J,M⟩:=I r.1 r.2 ⋯ h2;refine⟨r',?_,M⟩;show(if γ.length<=j then none else _)=_;rw [if_neg ⋯,e1,rL,if_pos e2];exact J
 exact z N γ Z (se _) (by rw [Nat.sub_self];exact h0)
theorem J6{F G:YF}{γ γ':Ctx}{Z Z':TT}{r:Option (Ctx×TT)}(h:F γ Z=some (γ',Z'))(g:G γ' Z'=r):vY F G γ Z=r:=by
 show(F γ Z).bind _=_;rw [h];exact g
theorem x6{t:CO Bool}{F:YF}{γ:Ctx}{Z:TT}(h:t γ=some false):yIf t F γ Z=some (γ,Z):=by
 show(t γ).bind _=_;rw [h];rfl
theorem w6{t:CO Bool}{F:YF}{γ:Ctx}{Z:TT}(h:t γ=some true):yIf t F γ Z=F γ Z:=by
 show(t γ).bind _=_;rw [h];rfl
def Ze:CO D:=sIx (jb (zB (zJ (zd 0)) (.nm 0) 1 [0,6] (sB (zh dEq (zh jA (zh qg (zd 0) (zd 2)) (zd 1)) (zk (.int 1)))) (zd 0))) (zk (.int 0))
def tE1:CO Bool:=vi (sB (zh dEq (zd 11) (zd 3))) (sB (zh dEq (zd 4) (zd 5)))
def tE2:CO Bool:=vi (sB (zh dEq (zd 11) (zd 3))) (sB (zh dNe (zd 4) (zd 5)))
def tB1:CO Bool:=vi (sB (zh dEq (zd 10) (zd 3))) (sB (zh dEq (zd 4) (zd 5)))
def tB2:CO Bool:=vi (sB (zh dEq (zd 10) (zd 3))) (sB (zh dNe (zd 4) (zd 5)))
def cpA:CO (List D):=zB (zA (zC (sIx (zf 12) (zd 5)))) (.nm 0) 1 [0,6] z7 (zh jA (zh qg (zd 2) (zd 0)) (zd 1))
def cpB:CO (List D):=zB (Z8 (sIx (zf 12) (zd 4)) (sIx (zf 12) (zd 5))) (.tp [0,1]) 2 [0,6] z7 (zh jA (zh j4 (zd 1) (zh qg (zd 3) (zd 0))) (zd 2))
def enA:CO D:=zh jA (zh qg (zd 7) (sIx (zf 13) (zd 5))) (zd 0)
def enB:CO D:=zh jA (zh xw (sIx (zf 13) (zd 4)) (zh qg (zd 6) (sIx (zf 13) (zd 5)))) (zd 0)
def K9(k m:Nat):YF:=vY (yIf tB1 (kg 13 (zd 5) enA k m)) (yIf tB2 (kg 13 (zd 4) enB k m))
def gf(k:Nat):YF:=vY (yIf tE1 (kf 12 (zd 5) cpA k)) (vY (yIf tE2 (kf 12 (zd 5) cpB k)) (kh [12,2] 13 (K9 k) k))
def Ya:YF:=vY (J4 [2] (.tp [10,11]) (zx F_law_ends_k22 (za (zd 8) (za (zd 9) zy)))) (fx [2] 12 (zd 8) gf)
theorem V6:F_law_step=ni 14 2 (vY (J4 [2] (.nm 7) Ze) (ZR [2] (qG (zd 1)) (.tp [8,9]) Ya)):=rfl
abbrev cst(p:Int)(m:Nat)(w:Nat->Bool)(r a b:Nat)(t:Int)(o c8 c9 c10 c11 c12 c13:Cell):Ctx:=[.val (.int p),.val (.str (qc m w)),.no,.val (.int r),.val (.int a),.val (.int b),.val (.int t),o,c8,c9,c10,c11,c12,c13]
section
variable{p:Int}{m:Nat}{w:Nat->Bool}{wd:Nat->Nat}{U:Nat->Nat->Nat->Int}{r a b k:Nat}{t o c c':Int}{c8 c9 c10 c11 c12 c13:Cell}
theorem K4(e:Nat):tE1 (cst p m w r a b t c8 c9 c10 c11 (.val (.int e)) c12 c13)=some (decide (e=r/\a=b)):=by
 by_cases h1:e=r<;>by_cases h2:a=b<;>simp [tE1,h1,h2]<;>omega
theorem K3(e:Nat):tE2 (cst p m w r a b t c8 c9 c10 c11 (.val (.int e)) c12 c13)=some (decide (e=r/\a≠b)):=by
 by_cases h1:e=r<;>by_cases h2:a=b<;>simp [tE2,h1,h2]<;>omega
theorem QW(e:Nat):tB1 (cst p m w r a b t c8 c9 c10 (.val (.int e)) c11 c12 c13)=some (decide (e=r/\a=b)):=by
 by_cases h1:e=r<;>by_cases h2:a=b<;>simp [tB1,h1,h2]<;>omega
theorem QV(e:Nat):tB2 (cst p m w r a b t c8 c9 c10 (.val (.int e)) c11 c12 c13)=some (decide (e=r/\a≠b)):=by
 by_cases h1:e=r<;>by_cases h2:a=b<;>simp [tB2,h1,h2]<;>omega
theorem lx(I:0<p)(O:0<=t/\t<=7){h v:Nat}(J:v<=lim)(f:Nat->Nat->Int)(z:b<h):cpA (cst p m w r a b t c8 c9 c10 c11 c12 (.val (.lst (jQ h v f))) c13)=some (zD v λj=>t*f b j%p):=by
 have e:(jQ h v f)[b]? = some (.lst (zD v (f b))):=by simp [jQ,z]
 have M : ∀x,yw t x=true:=λx=>qi _ _ ⋯ ⋯;unfold cpA;simp only [qb,xX,qN,yE,qp,zT,rQ,rR,zo,zU,xI,rL,sj,z9,yh,jq,z,if_true,e,qr,J];rw [zF,zF];refine zu _ _ λj Y=>zv rfl rfl ?_;simp [jn,j9,M,I]
theorem lu(J:0<p)(Y:0<=t/\t<=7){h v:Nat}(M:v<=lim)(f:Nat->Nat->Int)(ha:a<h)(I:b<h):cpB (cst p m w r a b t c8 c9 c10 c11 c12 (.val (.lst (jQ h v f))) c13)=some (zD v λj=>(f b j+t*f a j)%p):=by
 have e1:(jQ h v f)[b]? = some (.lst (zD v (f b))):=by simp [jQ,I]
 have e2:(jQ h v f)[a]? = some (.lst (zD v (f a))):=by simp [jQ,ha]
 have O : ∀x,yw t x=true:=λx=>qi _ _ ⋯ ⋯;have z:=xN v (f a) (f b);unfold cpB;simp only [qb,bG,yE,qp,zT,rQ,rR,zo,zU,xI,rL,sj,z9,yh,jq,I,ha,if_true,e1,e2,z,sC,tf,M];rw [zF];refine zu _ _ λj hj=>zv rfl rfl ?_;simp [jn,j9,O,J]
theorem lj(z:0<p)(M:0<=o/\o<=7){v:Nat}(f:Vc)(I:b<v):enA (cst p m w r a b t (.val (.int o)) c8 c9 c10 c11 c12 (.val (.lst (zD v f))))=some (.int (o*f b%p)):=by
 have J : ∀x,yw o x=true:=λx=>qi _ _ ⋯ ⋯;unfold enA;simp [I,J,z]
theorem lh(z:0<p)(M:0<=t/\t<=7){v:Nat}(f:Vc)(ha:a<v)(I:b<v):enB (cst p m w r a b t c8 c9 c10 c11 c12 c13 (.val (.lst (zD v f))))=some (.int ((f a - t*f b)%p)):=by
 have J : ∀x,yw t x=true:=λx=>qi _ _ ⋯ ⋯;unfold enB;simp [ha,I,J,z,xw,dI]
end
section
variable{p:Int}{m:Nat}{w:Nat->Bool}{wd:Nat->Nat}{U:Nat->Nat->Nat->Int}{r a b k:Nat}{t o c c':Int}{c8 c9 c10 c11 c12 c13:Cell}
theorem Jo{γ:Ctx}{f:CO (List D)}{g:Vc}(z:k<m)(I:b<hiW w wd k)(M:γ[5]? = some (.val (.int b)))(O:f (γ.set 12 (.val (.lst (jQ (hiW w wd k) (wiW w wd k) (U k)))))=some (zD (wiW w wd k) g)) :
 kf 12 (zd 5) f k γ (qy w wd U m)=some (γ,qy w wd (λJ=>if J=k then (λi=>if i=b then g else U k i)else U J) m):=by
 unfold kf;rw [yJ z,rL,XC,O,rL,Y5,rL,zT,M];simp only [zo,rL,z9,QN,jq,I,if_true,sj,QM I,QT z]
theorem Jp{γ:Ctx}{s i q:Nat}{e:CO D}{x:Int}(z:k<m)(hi:i<hiW w wd k)(I:q<wiW w wd k)(O:γ[s]? = some (.val (.int q)))(he:e (γ.set 13 (.val (.lst (zD (wiW w wd k) (U k i)))))=some (.int x)) :
 kg 13 (zd s) e k i γ (qy w wd U m)=some (γ,qy w wd (λJ=>if J=k then (λM=>if M=i then (λj=>if j=q then x else U k i j)else U k M)else U J) m):=by
 unfold kg;rw [yJ z,rL,VO hi,rL,XD,he,rL,z9,rL,zT,O];simp only [zo,rL,z9,V0,jq,I,if_true,sj,VZ I,QM hi,QT z]
theorem JI{γ:Ctx}(Y:(γ.set 13 .no)=γ)(hl:13<γ.length)(M:k<m){F:Nat->YF}{V:Nat->Vc}
 (h : ∀i J,i<hiW w wd k->J k i=U k i->F i γ (qy w wd J m)=some (γ,qy w wd (λz=>if z=k then (λI=>if I=i then V i else J k I)else J z) m)) :
 kh [12,2] 13 F k γ (qy w wd U m)=some (γ,qy w wd (λz=>if z=k then V else U z) m):=by
 unfold kh;rw [if_neg ⋯,yJ M,rL,QN];obtain⟨r,e,h1,h2⟩:=VW (j:=13) (k:=k) (N:=hiW w wd k) (F:=F) (λi γ' Z=>γ'=γ/\Z=qy w wd (λz=>if z=k then (λI=>if I<i then V I else U k I)else U z) m) (γ:=γ) (Z:=qy w wd U m)
  ⟨rfl,jM λz _ I _ j _=>by
   by_cases e:z=k
   ·subst e;simp
   ·simp [e]⟩ (by
  rintro i γ' Z hi ⟨rfl,rfl⟩;refine⟨hl,_,by rw [Y];exact h i _ hi ⋯,?_,rfl,?_⟩
  ·simp [yJ M]
  ·refine jM λz _ I _ j _=>?_
   by_cases e:z=k
   ·subst e
    simp only [if_true];by_cases e2:I=i
    ·subst e2;simp
    ·simp only [if_neg e2]
     by_cases O:I<i
     ·rw [if_pos O,if_pos ⋯]
     ·rw [if_neg O,if_neg ⋯]
   ·simp [e])
 rw [e];obtain⟨r1,r2⟩:=r;dsimp only at h1 h2;rw [h1,h2];congr 2;refine jM λz _ I a1 j _=>?_;by_cases e:z=k
 ·subst e;simp [a1]
 ·simp [e]
def CC(a b:Nat)(t o c c':Int):Prop:=(a=b/\c=t - 1/\c'=o - 1)\/(a≠b/\c=t/\c' = -t)
theorem cg(hp:0<p)(ht:0<=t/\t<=7)(ho:0<=o/\o<=7)(a5:CC a b t o c c')(an : ∀k,wd k<=7)(ha:a<wd r)(hb:b<wd r)(hk:k<m) :
 gf k (cst p m w r a b t (.val (.int o)) c8 c9 (.val (.int ((begR w k:Nat):Int))) (.val (.int ((endR w k:Nat):Int))) .no .no) (qy w wd U m)=some (cst p m w r a b t (.val (.int o)) c8 c9 (.val (.int ((begR w k:Nat):Int))) (.val (.int ((endR w k:Nat):Int))) .no .no,qy w wd (λI=>if I=k then jZ p w r a b c c' U k else U I) m):=by
 have hl:=jt;have a7:wiW w wd k<=lim:=by rw [ZW];have:=an (begR w k);omega
 by_cases he:endR w k=r
 ·have a8:begR w k≠r:=λz=>yj w k (by rw [he,z])
  have ap:a<hiW w wd k:=by rw [JD,he];exact ha
  have a2:b<hiW w wd k:=by rw [JD,he];exact hb
  have a9 : ∀O,kh [12,2] 13 (K9 k) k (cst p m w r a b t (.val (.int o)) c8 c9 (.val (.int ((begR w k:Nat):Int))) (.val (.int ((endR w k:Nat):Int))) .no .no) (qy w wd O m)=some (cst p m w r a b t (.val (.int o)) c8 c9 (.val (.int ((begR w k:Nat):Int))) (.val (.int ((endR w k:Nat):Int))) .no .no,qy w wd O m):=λO=>by
   rw [JI (U:=O) (V:=O k) rfl (by show 13<14;decide) hk (F:=K9 k) λi U2 hi e=>?_]
   ·congr 2
    refine jM λI _ i _ j _=>?_;by_cases z:I=k
    ·subst z;simp
    ·simp [z]
   ·refine J6 (x6 (by rw [QW,decide_eq_false (λz=>a8 z.1)])) (Bc (x6 (by rw [QV,decide_eq_false (λz=>a8 z.1)])) ?_)
    congr 2;refine jM λI _ Y _ j _=>?_;by_cases z:I=k
    ·subst z
     by_cases z2:Y=i
     ·subst z2;simp [e]
     ·simp [z2]
    ·simp [z]
  rcases a5 with⟨J,rfl,rfl⟩ | ⟨J,rfl,rfl⟩
  ·refine J6 (Bc (w6 (by rw [K4,decide_eq_true ⟨he,J⟩])) (Jo hk a2 rfl (lx hp ht a7 (U k) a2))) (J6 (x6 (by rw [K3,decide_eq_false (λz=>z.2 J)])) (Bc (a9 _) ?_))
   congr 2;refine jM λI _ i _ j _=>?_;by_cases z:I=k
   ·subst z
    simp only [if_true];unfold jZ;rw [if_pos he];by_cases z2:i=b
    ·rw [if_pos z2,if_pos z2,<- J]
     congr 1
     grind
    ·rw [if_neg z2,if_neg z2]
   ·simp [z]
  ·refine J6 (x6 (by rw [K4,decide_eq_false (λz=>J z.2)])) (J6 (Bc (w6 (by rw [K3,decide_eq_true ⟨he,J⟩])) (Jo hk a2 rfl (lu hp ht a7 (U k) ap a2))) (Bc (a9 _) ?_))
   congr 2;refine jM λI _ i _ j _=>?_;by_cases z:I=k
   ·subst z
    simp only [if_true];unfold jZ;rw [if_pos he];by_cases z2:i=b
    ·rw [if_pos z2,if_pos z2]
    ·rw [if_neg z2,if_neg z2]
   ·simp [z]
 ·refine J6 (x6 (by rw [K4,decide_eq_false (λz=>he z.1)])) (J6 (x6 (by rw [K3,decide_eq_false (λz=>he z.1)])) ?_)
  refine JI (V:=jZ p w r a b c c' U k) rfl (by show 13<14;decide) hk λi O hi e=>?_;by_cases M:begR w k=r
  ·have ac:a<wiW w wd k:=by rw [ZW,M];exact ha
   have a4:b<wiW w wd k:=by rw [ZW,M];exact hb
   rcases a5 with⟨J,rfl,rfl⟩ | ⟨J,rfl,rfl⟩
   ·refine J6 (Bc (w6 (by rw [QW,decide_eq_true ⟨M,J⟩])) (Jp (s:=5) (q:=b) hk hi a4 rfl (lj hp ho (O k i) a4))) (Bc (x6 (by rw [QV,decide_eq_false (λz=>z.2 J)])) ?_)
    congr 2;refine jM λI _ Y _ j _=>?_;by_cases z:I=k
    ·subst z
     simp only [if_true];by_cases z2:Y=i
     ·subst z2
      simp only [if_true];unfold jZ;rw [if_neg he,if_pos M,e,J];by_cases z3:j=b
      ·rw [if_pos z3,if_pos z3]
       congr 1
       grind
      ·rw [if_neg z3,if_neg z3]
     ·simp [z2]
    ·simp [z]
   ·refine J6 (x6 (by rw [QW,decide_eq_false (λz=>J z.2)])) (Bc (Bc (w6 (by rw [QV,decide_eq_true ⟨M,J⟩])) (Jp (s:=4) (q:=a) hk hi ac rfl (lh hp ht (O k i) ac a4))) ?_)
    congr 2;refine jM λI _ Y _ j _=>?_;by_cases z:I=k
    ·subst z
     simp only [if_true];by_cases z2:Y=i
     ·subst z2
      simp only [if_true];unfold jZ;rw [if_neg he,if_pos M,e];by_cases z3:j=a
      ·rw [if_pos z3,if_pos z3]
       congr 1
       grind
      ·rw [if_neg z3,if_neg z3]
     ·simp [z2]
    ·simp [z]
  ·refine J6 (x6 (by rw [QW,decide_eq_false (λz=>M z.1)])) (Bc (x6 (by rw [QV,decide_eq_false (λz=>M z.1)])) ?_)
   congr 2;refine jM λI _ Y _ j _=>?_;by_cases z:I=k
   ·subst z
    simp only [if_true];by_cases z2:Y=i
    ·subst z2
     simp only [if_true];rw [J0 he M,e]
    ·simp [z2]
   ·simp [z]
theorem dE(z:Pr p)(M:1<=t/\t<p) : ∃o:Int,0<=o/\o<p/\o*t%p=1/\Ze (cst p m w r a b t .no c8 c9 c10 c11 c12 c13)=some (.int o):=by
 have Y:=jt;have h7:=z.le;obtain⟨y,y1,y2,y3⟩:=iP z (x:=t) ⋯ M.2;obtain⟨q,O⟩:=tW (show 0<=p by omega);subst O;have I:zN (.nm 0) (sB (zh dEq (zh jA (zh qg (zd 0) (zd 2)) (zd 1)) (zk (.int 1)))) (zd 0) [Cell.no,Cell.val (.int q),Cell.val (.int t)] ((rO q).map λ(i:Nat)=>D.int i)=some (((rO q).filter λ(i:Nat)=>decide ((i:Int)*t%q=1)).map λ(i:Nat)=>D.int i):=by
  refine ju _ _ _ λi hi=>⟨_,rfl,?_,λ_=>rfl⟩;have a1:=rV.mp hi;simp [qi (i:Int) t ⋯ ⋯,show 0<q by omega]
 cases hg:(rO q).filter λ(i:Nat)=>decide ((i:Int)*t%q=1)with
 | nil=>
  have:=YO hg y ⋯;simp [y3]at this
 | cons x jV=>
  obtain⟨h1,h2,_⟩:=JK hg;refine⟨x,by omega,by omega,by simpa using h2,?_⟩;rw [hg]at I;unfold Ze;have J:q<=lim:=by omega
  simp only [yE,yk,qb,qa,zT,xq,rQ,rR,zo,rL,z9,qR J,if_true,tm,je,qr,J];rw [zF q λi=>(i:Int)];show((zN _ _ _ [Cell.no,Cell.val (.int q),Cell.val (.int t)] _).map _).bind _=_;rw [I];simp [ixD]
theorem ZN(J:Pr p)(ht:1<=t/\t<p)(a2 : ∀k,wd k<=7)(hm:m<=20)(ha:a<wd r)(hb:b<wd r) :
 ∃c c':Int,(c+c'+(if a=b then c*c' else 0))%p=0/\∀U,F_law_step [.int p,.str (qc m w)] [.int r,.int a,.int b,.int t] (qy w wd U m)=some (qy w wd (jZ p w r a b c c' U) m):=by
 have h7:=J.le;have two:=J.two;have hs:=xO w (show m<=1000 by omega);obtain⟨o,o1,o2,o3,oe⟩:=dE (m:=m) (w:=w) (r:=r) (a:=a) (b:=b) (c8:= .no) (c9:= .no) (c10:= .no) (c11:= .no) (c12:= .no) (c13:= .no) J ht;obtain⟨c,c',a7,hc⟩ : ∃c c':Int,CC a b t o c c'/\(c+c'+(if a=b then c*c' else 0))%p=0:=by
  by_cases M:a=b
  ·refine⟨t - 1,o - 1,.inl ⟨M,rfl,rfl⟩,?_⟩
   rw [if_pos M,show t - 1+(o - 1)+(t - 1)*(o - 1)=o*t - 1 by grind,BU,o3,J.one];simp
  ·refine⟨t,-t,.inr ⟨M,rfl,rfl⟩,?_⟩
   rw [if_neg M,Bb,Int.add_right_neg];rfl
 refine⟨c,c',hc,λU=>?_⟩;rw [V6];show(vY _ _ (cst p m w r a b t .no .no .no .no .no .no .no) (qy w wd U m)).map _=_;obtain⟨x,e,h1⟩:=qS (T:= .tp [8,9]) (F:=Ya) (λk γ Z=>(∃c8 c9 c10 c11,γ=cst p m w r a b t (.val (.int o)) c8 c9 c10 c11 .no .no)/\Z=qy w wd (λI=>if I<k then jZ p w r a b c c' U I else U I) m)
  ((rO m).map λ(k:Nat)=>D.tup [.int k,.str (qt (wch (w k)))]) 0 (cst p m w r a b t (.val (.int o)) .no .no .no .no .no .no) (qy w wd U m) ⟨⟨.no,.no,.no,.no,rfl⟩,jM λI _ i _ j _=>by simp⟩ (by
  rintro k d γ Z hd ⟨⟨c8,c9,c10,c11,rfl⟩,rfl⟩;rw [uP]at *;obtain⟨O,rfl⟩:k<m/\d=D.tup [.int k,.str (qt (wch (w k)))]:=by
   rw [sk]at hd;obtain⟨I,q1,q2⟩:=Al.mp hd;obtain⟨Y,q4⟩:=rP.mp q1;rw [tf]at Y;rw [Br]at q4;subst q4;exact⟨Y,q2.symm⟩
  have e1:J4 [2] (.tp [10,11]) (zx F_law_ends_k22 (za (zd 8) (za (zd 9) zy))) (cst p m w r a b t (.val (.int o)) (.val (.int k)) (.val (.str (qt (wch (w k))))) c10 c11 .no .no) (qy w wd (λI=>if I<k then jZ p w r a b c c' U I else U I) m)=some (cst p m w r a b t (.val (.int o)) (.val (.int k)) (.val (.str (qt (wch (w k))))) (.val (.int ((begR w k:Nat):Int))) (.val (.int ((endR w k:Nat):Int))) .no .no,qy w wd (λI=>if I<k then jZ p w r a b c c' U I else U I) m):=by
   unfold J4;rw [if_pos (by rfl),vV];simp only [xK,kW,zT,rQ,rR,zo,rL,sj,Qx,yM,vS,sW,sV]
  refine⟨cst p m w r a b t (.val (.int o)) (.val (.int k)) (.val (.str (qt (wch (w k))))) c10 c11 .no .no,(cst p m w r a b t (.val (.int o)) (.val (.int k)) (.val (.str (qt (wch (w k))))) (.val (.int ((begR w k:Nat):Int))) (.val (.int ((endR w k:Nat):Int))) .no .no,qy w wd (λI=>if I=k then jZ p w r a b c c' (λI=>if I<k then jZ p w r a b c c' U I else U I) k else (λI=>if I<k then jZ p w r a b c c' U I else U I) I) m),rfl,J6 e1 ?_,⟨_,_,_,_,rfl⟩,?_⟩
  ·unfold fx
   rw [if_neg ⋯,zT];simp only [rQ,rR,zo,rL,z9,QU,jq,O,if_true,sW,sV];exact cg ⋯ ⋯ ⋯ a7 a2 ha hb O
  ·refine jM λI _ i _ j _=>?_
   by_cases z:I=k
   ·subst z
    rw [if_pos rfl,if_pos ⋯];unfold jZ;simp
   ·rw [if_neg z]
    by_cases z2:I<k
    ·simp only [if_pos z2,if_pos (show I<k+1 by omega)]
    ·simp only [if_neg z2,if_neg (show ¬I<k+1 by omega)])
 obtain⟨⟨c8,c9,c10,c11,h1⟩,h2⟩:=h1;have e0:J4 [2] (.nm 7) Ze (cst p m w r a b t .no .no .no .no .no .no .no) (qy w wd U m)=some (cst p m w r a b t (.val (.int o)) .no .no .no .no .no .no,qy w wd U m):=by
  unfold J4;rw [if_pos (by rfl),oe];rfl
 rw [J6 e0 (r:=some x) ?_]
 ·rw [sj,h2]
  congr 1;refine jM λI an i _ j _=>?_;rw [if_pos (by simpa using an)]
 ·unfold ZR
  rw [if_pos (by rfl)];have src:qG (zd 1) (cst p m w r a b t (.val (.int o)) .no .no .no .no .no .no)=some ((rO m).map λ(k:Nat)=>D.tup [.int k,.str (qt (wch (w k)))]):=by
   simp only [vU,zT,rQ,rR,zo,rL,hs,if_true,yf]
  rw [src];exact e
end
def nD:CO (List D):=zB (zJ (wg (zf 1))) (.nm 0) 1 [0,1] (sB (ym dLe dLe (sIx (zC (sIx (zf 2) (zd 0))) (zk (.int 0))) (zd 1) (sIx (zC (sIx (zf 2) (zd 0))) (zk (.int 1))))) (zd 0)
def ld1:CO Fl:=zW 2 (ja (zB (zJ (zh j4 (Kf (zd 0)) (zk (.int 1)))) (.nm 0) 1 [1] z7 (ja nD)))
def iA:CO (List D):=zB (zA (zC (sIx (zf 1) (zd 2)))) (.nm 0) 1 [0] z7 (Wf (zh dEq (zd 1) (zd 0)))
def WV:CO (List (List D)):=Je (zA (zC (sIx (zf 2) (zd 7)))) (.nm 0) 1 [2,6] iA
def ldB:YF:=vY (J4 [3] (.tp [6,7]) (zx F_law_ends_k22 (za (zd 4) (za (zd 5) zy)))) (fN WV)
def ldW:CO D:=ja (zB (zA (zf 2)) (.nm 0) 1 [] z7 (wg (zf 0)))
theorem W0:F_law_laid=cN 8 (nG ld1 (fD 3 (ZR [3] (qG (zd 0)) (.tp [4,5]) ldB) ldW)):=rfl
def bS(bs:List (Int×Int))(j:Nat):Nat:=(bs.getD j (0,0)).1.toNat
def bE(bs:List (Int×Int))(j:Nat):Nat:=(bs.getD j (0,0)).2.toNat
abbrev bW(bs:List (Int×Int)):Nat->Nat:=VL (bS bs) (bE bs) bs.length
abbrev bT(w:Nat->Bool)(bs:List (Int×Int)):Nat->Nat->Nat->Int:=WY w (bS bs) (bE bs) bs.length
abbrev bL(bs:List (Int×Int))(r:Nat):List Nat:=jH (bS bs) (bE bs) bs.length r
def Zs(l:List Nat):List D:=l.map λ(j:Nat)=>D.int j
def qe(bs:List (Int×Int))(m:Nat):D:= .lst ((rO (m+1)).map λr=>D.lst (Zs (bL bs r)))
section
variable{bs:List (Int×Int)}{m:Nat}{w:Nat->Bool}
theorem lB(h : ∀b∈bs,bK ((m+1:Nat):Int) b){j:Nat}(z:j<bs.length):bs[j]? = some ((bS bs j:Int),(bE bs j:Int))/\bS bs j<=bE bs j/\bE bs j<=m:=by
 have e:=rN z;have I:=h _ (sy e);obtain⟨h1,h2,J⟩:=I;unfold bS bE;rw [rT,e,Option.getD_some];refine⟨?_,by omega,by omega⟩;congr 1;exact Prod.ext (by dsimp only;omega) (by dsimp only;omega)
theorem dY(h : ∀b∈bs,bK ((m+1:Nat):Int) b)(Y:bs.length<=60)(r:Nat):nD [.val (.int r),.val (.lst (jk bs))]=some (Zs (bL bs r)):=by
 have hl:=jt;have J:bs.length<=lim:=by omega
 unfold nD;simp only [qb,qa,lJ,qp,rQ,rR,zU,xI,rL,sj,z9,kQ,qR J,if_true,tm,je,qr,J];rw [zF bs.length λi=>(i:Int)];show zN _ _ _ [Cell.no,Cell.val (.int r),Cell.val (.lst (jk bs))] _=_;rw [ju (λj=>(nE (bS bs) (bE bs) j).has r) (λ(j:Nat)=>D.int j) _ λj I=>⟨[Cell.val (.int j),Cell.val (.int r),Cell.val (.lst (jk bs))],rfl,?_,λ_=>rfl⟩]
 ·rfl
 ·have I:=rV.mp I
  obtain⟨e,h1,h2⟩:=lB h I;have e2:(jk bs)[j]? = some (.tup [.int (bS bs j),.int (bE bs j)]):=by unfold jk;rw [sk,e];rfl
  have M:(nE (bS bs) (bE bs) j).has r=(decide (bS bs j<=r) && decide (r<=bE bs j)):=by
   show(decide (bS bs j<=r) && decide (r<bS bs j+(bE bs j - bS bs j+1)))=_;congr 1;exact decide_eq_decide.mpr ⋯
  rw [M];have O:sIx (zC (sIx (zf 2) (zd 0))) (zk (.int 0)) [Cell.val (.int j),Cell.val (.int r),Cell.val (.lst (jk bs))]=some (.int (bS bs j)):=by
   simp only [yE,qN,qp,zT,xq,rQ,rR,zo,zU,xI,rL,z9,kQ,jq,I,if_true,e2];rfl
  have x1:sIx (zC (sIx (zf 2) (zd 0))) (zk (.int 1)) [Cell.val (.int j),Cell.val (.int r),Cell.val (.lst (jk bs))]=some (.int (bE bs j)):=by
   simp only [yE,qN,qp,zT,xq,rQ,rR,zo,zU,xI,rL,z9,kQ,jq,I,if_true,e2];rfl
  show(ym dLe dLe _ _ _ _).bind asB=_;unfold ym;simp only [O,x1,zT,rQ,rR,zo,rL];by_cases z:bS bs j<=r<;>by_cases z2:r<=bE bs j<;>simp [dLe,dI,z,z2]
theorem vz(l:List Nat):(Zs l).length=l.length:=by simp [Zs]
theorem Zd{S E:Nat->Nat}{N r:Nat}:VL S E N r<=N:=by
 unfold VL jH ixs;exact tP (List.length_filter_le _ _) ⋯
theorem Xr{α β:Type}(d:α)(f:α->β)(l:List α):l.map f=(rO l.length).map λi=>f (l.getD i d):=by
 apply Af;intro i;by_cases hi:i<l.length
 ·rw [sk,rN hi,sk,Aj hi]
  simp [rT,hi]
 ·rw [Aw (by simpa using hi),Aw (by simpa using hi)]
theorem Jf{f:Nat->List Int} : ∀(l:List Nat),Yh (l.map λx=>(f x).map D.int)=some (l.map f)
 | []=>rfl
 | x::l=>by
  show(kn ((f x).map D.int)).bind _=_;rw [yb,rL,Jf l];rfl
theorem WU(hb:bs.length<=60){k:Nat}(I:k<m)(J M O c4 c5:Cell):(WV [J,M,.val (qe bs m),O,c4,c5,.val (.int ((begR w k:Nat):Int)),.val (.int ((endR w k:Nat):Int))]).bind Yh=some (ZU (hiW w (bW bs) k) (wiW w (bW bs) k) (bT w bs k)):=by
 have hl:=jt;have h1:=Vd w I;have h2:=Vw w I;have g : ∀r,r<m+1->((rO (m+1)).map λr=>D.lst (Zs (bL bs r)))[r]? = some (D.lst (Zs (bL bs r))):=λr hr=>by simp [hr]
 have Y : ∀r,(bL bs r).length<=lim:=λr=>tP (Zd (S:=bS bs) (E:=bE bs) (N:=bs.length)) ⋯;have e:WV [J,M,.val (qe bs m),O,c4,c5,.val (.int ((begR w k:Nat):Int)),.val (.int ((endR w k:Nat):Int))]=some ((bL bs (endR w k)).map λx=>((bL bs (begR w k)).map λy=>if x=y then (1:Int)else 0).map D.int):=by
  unfold WV qe;show(uT _ _)=_;simp only [xX,qN,yE,qp,zT,rQ,rR,zo,zU,xI,rL,sj,z9,sC,tf,jq,h1,if_true,g _ h1,vz,Y];refine JO _ λx _=>⟨[.val (.int x),.val (qe bs m),.val (.int ((begR w k:Nat):Int))],rfl,?_⟩;unfold iA qe;simp only [qb,xX,qN,yE,qp,zT,rQ,rR,zo,zU,xI,rL,sj,z9,sC,tf,jq,h2,if_true,g _ h2,vz,Y];rw [uh];refine zu _ _ λy _=>zv rfl rfl ?_;by_cases z:x=y
  ·subst z;simp [jn,j9]
  ·have z' : ¬((x:Int)=(y:Int)):=λq=>z ⋯
   simp [jn,j9,z,z']
 rw [e,rL,Jf,JD,ZW];congr 1;rw [Xr bs.length];refine sf λi _=>?_;rw [Xr (bs.length+1)];rfl
theorem ZP(h : ∀b∈bs,bK ((m+1:Nat):Int) b)(I:bs.length<=60)(hm:m<=20):F_law_laid [.str (qc m w),.lst (jk bs)]=some (.lst (zD (m+1) λr=>(bW bs r:Int)),qy w (bW bs) (bT w bs) m):=by
 have hl:=jt;have z:m+1<=lim:=by omega
 have J:=xO w (show m<=1000 by omega);have s1:ld1 [.val (.str (qc m w)),.val (.lst (jk bs)),.no,.no,.no,.no,.no,.no]=some (.next [.val (.str (qc m w)),.val (.lst (jk bs)),.val (qe bs m),.no,.no,.no,.no,.no]):=by
  unfold ld1;rw [XQ,wW,qb,qa];simp only [vW,fj,zT,xq,rQ,rR,zo,rL,J,if_true,QQ,XG,z9];rw [show((m:Int)+1)=((m+1:Nat):Int)by omega];simp only [qR z,if_true,tm,rL,je,qr,z];show(((zN _ _ _ [Cell.no,Cell.val (.lst (jk bs))] (zD (m+1) λi=>(i:Int))).map _).map _)=_;rw [zF,zu (λr=>D.lst (Zs (bL bs r))) _ λr _=>zv (γ1:=[.val (.int r),.val (.lst (jk bs))]) rfl rfl (by rw [wW,dY h I];rfl)];rfl
 obtain⟨x,e,h1⟩:=qS (T:= .tp [4,5]) (F:=ldB) (λk γ Z=>(∃c4 c5 c6 c7,γ=[.val (.str (qc m w)),.val (.lst (jk bs)),.val (qe bs m),.no,c4,c5,c6,c7])/\Z=qy w (bW bs) (bT w bs) k)
  ((rO m).map λ(k:Nat)=>D.tup [.int k,.str (qt (wch (w k)))]) 0 [.val (.str (qc m w)),.val (.lst (jk bs)),.val (qe bs m),.no,.no,.no,.no,.no] [] ⟨⟨.no,.no,.no,.no,rfl⟩,rfl⟩ (by
  rintro k d γ Z hd ⟨⟨c4,c5,c6,c7,rfl⟩,rfl⟩;rw [uP]at *;obtain⟨Y,rfl⟩:k<m/\d=D.tup [.int k,.str (qt (wch (w k)))]:=by
   rw [sk]at hd;obtain⟨k',q1,q2⟩:=Al.mp hd;obtain⟨M,O⟩:=rP.mp q1;rw [tf]at M;rw [Br]at O;subst O;exact⟨M,q2.symm⟩
  refine⟨[.val (.str (qc m w)),.val (.lst (jk bs)),.val (qe bs m),.no,.val (.int k),.val (.str (qt (wch (w k)))),c6,c7],([.val (.str (qc m w)),.val (.lst (jk bs)),.val (qe bs m),.no,.val (.int k),.val (.str (qt (wch (w k)))),.val (.int ((begR w k:Nat):Int)),.val (.int ((endR w k:Nat):Int))],qy w (bW bs) (bT w bs) (k+1)),rfl,
   J6 (γ':=[.val (.str (qc m w)),.val (.lst (jk bs)),.val (qe bs m),.no,.val (.int k),.val (.str (qt (wch (w k)))),.val (.int ((begR w k:Nat):Int)),.val (.int ((endR w k:Nat):Int))]) (Z':=qy w (bW bs) (bT w bs) k) ?_ ?_,⟨_,_,_,_,rfl⟩,rfl⟩
  ·unfold J4
   rw [if_pos (by rfl),vV];simp only [xK,kW,zT,rQ,rR,zo,rL,sj,Qx,yM,vS,sW,sV]
  ·unfold fN
   rw [WU I Y,rL,QU,if_pos ⋯];congr 2;simp [qy,uN])
 obtain⟨x1,x2⟩:=x;obtain⟨⟨c4,c5,c6,c7,h1⟩,h2⟩:=h1;dsimp only at h1 h2;subst h1 h2;rw [W0];show(ld1 [.val (.str (qc m w)),.val (.lst (jk bs)),.no,.no,.no,.no,.no,.no]).bind _=_;rw [s1];show fD 3 (ZR [3] (qG (zd 0)) (.tp [4,5]) ldB) ldW [.val (.str (qc m w)),.val (.lst (jk bs)),.val (qe bs m),.no,.no,.no,.no,.no]=_;unfold fD;rw [if_pos ⟨rfl,by show 3<8;decide⟩];have src:qG (zd 0) [.val (.str (qc m w)),.val (.lst (jk bs)),.val (qe bs m),.no,.no,.no,.no,.no]=some ((rO m).map λ(k:Nat)=>D.tup [.int k,.str (qt (wch (w k)))]):=by
  simp only [vU,zT,rQ,rR,zo,rL,J,if_true,yf]
 have lp:ZR [3] (qG (zd 0)) (.tp [4,5]) ldB [.val (.str (qc m w)),.val (.lst (jk bs)),.val (qe bs m),.no,.no,.no,.no,.no] []=some ([.val (.str (qc m w)),.val (.lst (jk bs)),.val (qe bs m),.no,c4,c5,c6,c7],qy w (bW bs) (bT w bs) m):=by
  unfold ZR;rw [if_pos (by rfl),src,rL,e];simp
 show(ZR [3] (qG (zd 0)) (.tp [4,5]) ldB [.val (.str (qc m w)),.val (.lst (jk bs)),.val (qe bs m),.no,.no,.no,.no,.no] []).bind _=_;rw [lp,rL];have wq:ldW [.val (.str (qc m w)),.val (.lst (jk bs)),.val (qe bs m),.no,c4,c5,c6,c7]=some (.lst (zD (m+1) λr=>(bW bs r:Int))):=by
  unfold ldW qe;simp only [wW,qb,xX,qp,rQ,rR,zU,xI,rL,sj,sC,tf,z,if_true];rw [zF,zu (λr=>D.int (bW bs r:Int)) _ λr _=>zv (γ1:=[.val (.lst (Zs (bL bs r)))]) rfl rfl (by show some (D.int ((Zs (bL bs r)).length:Int))=_;rw [vz];rfl)];rfl
 rw [wq];rfl
end
def btA:CO (List D):=za (zd 2) (za (zd 3) zy)
def btX:CO (List D):=za (zd 7) (za (zh jA (zd 10) (zd 8)) (za (zh jA (zh ko (zd 10) (zk (.int 7))) (zd 8)) (za (zh j4 (zk (.int 1)) (zh jA (zh ko (zd 10) (zk (.int 49))) (zh xw (zd 2) (zk (.int 1))))) zy)))
def btC:CO D:=zx F_law_cell (za (zd 0) (za (zh j4 (zh j4 (zd 1) (zh qg (zk (.int 14)) (zd 7))) (zd 9)) zy))
def btI:YF:=vY (J4 [6] (.nm 10) btC) (VX F_law_step btA btX)
def btO:YF:=ZR [6] (zJ (zh qg (zk (.int 2)) (zd 8))) (.nm 9) btI
theorem Vv:F_law_built=jv 11 (zM (Ke 5 6 F_law_laid (za (zd 3) (za (zd 4) zy)) (vY (ZR [6] (vh (zd 5)) (.tp [7,8]) btO) lQ)) (qB (zx F_law_row_k22 (za (zd 2) (za (zd 3) (za (zd 5) (za (zd 6) zy))))))):=rfl
abbrev cbt(ns:List Int)(at_ p:Int)(m:Nat)(w:Nat->Bool)(bs:List (Int×Int))(c6 c7 c8 c9 c10:Cell):Ctx:=[.val (xV ns),.val (.int at_),.val (.int p),.val (.str (qc m w)),.val (.lst (jk bs)),.val (.lst (zD (m+1) λr=>(bW bs r:Int))),c6,c7,c8,c9,c10]
structure Blt(p:Int)(m:Nat)(w:Nat->Bool)(bs:List (Int×Int))(T:Nat->Nat->Nat->Int):Prop where
 rng : ∀k x y,0<=T k x y/\T k x y<p
 dec : ∃A,Decp p w (bW bs) T m bs.length A/\keyN A bs.length=keyN (layB (bS bs) (bE bs) bs.length) bs.length
section
variable{ns:List Int}{at_ p:Int}{m:Nat}{w:Nat->Bool}{bs:List (Int×Int)}
theorem aw(z:Pr p){T:Nat->Nat->Nat->Int}(B:Blt p m w bs T){r a b:Nat}{c c':Int}(I:(c+c'+(if a=b then c*c' else 0))%p=0)(ha:a<bW bs r)(J:b<bW bs r):Blt p m w bs (jZ p w r a b c c' T):=by
 obtain⟨A,D,e⟩:=B.dec;exact⟨V5 z.pos B.rng,_,K6 z.pos I ha J D,e⟩
theorem YR{x n:Int}(z:0<=x)(hn:0<n) : ∃a:Nat,x%n=(a:Int)/\(a:Int)<n:=by
 obtain⟨a,ha⟩:=tW (sU x (show n≠0 by omega));exact⟨a,ha,by rw [<- ha];exact sG _ hn⟩
theorem av(O:ns.length<=63)(z:Pr p)(h0:0<=at_)(h2:at_<=1000)(hm:m<=5)(J : ∀k,bW bs k<=7){r q:Nat}(hr:r<=m)(hq:q<2*bW bs r){T:Nat->Nat->Nat->Int}(B:Blt p m w bs T)(c10:Cell) :
 ∃Y M,btI (cbt ns at_ p m w bs .no (.val (.int r)) (.val (.int (bW bs r:Int))) (.val (.int q)) c10) (qy w (bW bs) T m)=some (cbt ns at_ p m w bs .no (.val (.int r)) (.val (.int (bW bs r:Int))) (.val (.int q)) Y,qy w (bW bs) M m)/\Blt p m w bs M:=by
 have two:=z.two;have h7:=z.le;have ap:=J r;have a0:yw 14 (r:Int)=true:=qi _ _ ⋯ ⋯;obtain⟨y1,y2,y3⟩:=yi O (k:=at_+14*(r:Int)+(q:Int)) ⋯ ⋯;generalize qJ ns (at_+14*(r:Int)+(q:Int))=x at y1 y2 y3;obtain⟨a,ea,ha⟩:=YR (x:=x) (n:=(bW bs r:Int)) y2 ⋯;obtain⟨b,eb,I⟩:=YR (x:=x/7) (n:=(bW bs r:Int)) ⋯ ⋯;obtain⟨t,et,ht⟩:=YR (x:=x/49) (n:=p - 1) ⋯ ⋯;have ha:a<bW bs r:=by omega
 have I:b<bW bs r:=by omega
 obtain⟨c,c',hc,st⟩:=ZN (m:=m) (w:=w) (wd:=bW bs) (r:=r) (a:=a) (b:=b) (t:=1+(t:Int)) z ⋯ J ⋯ ha I;have as:(0:Int)<(bW bs r:Int):=by omega
 refine⟨.val (.int x),_,J6 (γ':=cbt ns at_ p m w bs .no (.val (.int r)) (.val (.int (bW bs r:Int))) (.val (.int q)) (.val (.int x))) (Z':=qy w (bW bs) T m) ?_ ?_,aw z B hc ha I⟩
 ·unfold J4
  rw [if_pos (by rfl)];unfold btC;simp only [vV,xK,kW,vW,zT,xq,rQ,rR,zo,rL,sj,XE,a0,if_true,XG,y1,yM,xo,sW,sV]
 ·unfold VX
  have A1:btA (cbt ns at_ p m w bs .no (.val (.int r)) (.val (.int (bW bs r:Int))) (.val (.int q)) (.val (.int x)))=some [.int p,.str (qc m w)]:=rfl;have A2:btX (cbt ns at_ p m w bs .no (.val (.int r)) (.val (.int (bW bs r:Int))) (.val (.int q)) (.val (.int x)))=some [.int r,.int a,.int b,.int (1+(t:Int))]:=by
   unfold btX;have c1:VN x (bW bs r:Int)=true:=by simp [VN];omega
   have c2:VN (x/7) (bW bs r:Int)=true:=by simp [VN];omega
   have c3:VN (x/49) (p - 1)=true:=by simp [VN];omega
   have c4:au x 7=true:=by simp [au]
   have c5:au x 49=true:=by simp [au]
   simp [jA,ko,xw,dIc,dI,c1,c2,c3,c4,c5,ea,eb,et]
  rw [A1,rL,A2,rL,st T];rfl
theorem wz(a2:ns.length<=63)(M:Pr p)(h0:0<=at_)(h2:at_<=1000)(hm:m<=5)(h : ∀b∈bs,bK ((m+1:Nat):Int) b)(hb:bs.length<=7) :
 ∃T,F_law_built [xV ns,.int at_,.int p,.str (qc m w),.lst (jk bs)]=some (.val (qv p m w (bW bs) T))/\Blt p m w bs T:=by
 have hl:=jt;have O : ∀k,bW bs k<=7:=λk=>tP (Zd (S:=bS bs) (E:=bE bs) (N:=bs.length)) hb;have B0:Blt p m w bs (bT w bs):=⟨WX M,_,WW M λj hj=>(lB h hj).2,rfl⟩;obtain⟨x,e,h1⟩:=qS (T:= .tp [7,8]) (F:=btO) (λ_ γ Z=>(∃c7 c8 c9 c10,γ=cbt ns at_ p m w bs .no c7 c8 c9 c10)/\∃T,Z=qy w (bW bs) T m/\Blt p m w bs T)
  ((rO (m+1)).map λ(r:Nat)=>D.tup [.int r,.int (bW bs r:Int)]) 0 (cbt ns at_ p m w bs .no .no .no .no .no) (qy w (bW bs) (bT w bs) m) ⟨⟨.no,.no,.no,.no,rfl⟩,_,rfl,B0⟩ (by
  rintro r d γ Z hd ⟨⟨c7,c8,c9,c10,rfl⟩,T,rfl,B⟩;obtain⟨hr,rfl⟩:r<m+1/\d=D.tup [.int r,.int (bW bs r:Int)]:=by
   rw [sk]at hd;obtain⟨k',Y,q2⟩:=Al.mp hd;obtain⟨I,J⟩:=rP.mp Y;rw [tf]at I;rw [Br]at J;subst J;exact⟨I,q2.symm⟩
  have as:=O r;obtain⟨y,e2,z⟩:=qS (T:= .nm 9) (F:=btI) (λ_ γ Z=>(∃c9 c10,γ=cbt ns at_ p m w bs .no (.val (.int r)) (.val (.int (bW bs r:Int))) c9 c10)/\∃T,Z=qy w (bW bs) T m/\Blt p m w bs T)
   ((rO (2*bW bs r)).map λ(q:Nat)=>D.int q) 0 (cbt ns at_ p m w bs .no (.val (.int r)) (.val (.int (bW bs r:Int))) c9 c10) (qy w (bW bs) T m) ⟨⟨c9,c10,rfl⟩,T,rfl,B⟩ (by
   rintro q d γ Z hd ⟨⟨c9,c10,rfl⟩,T,rfl,B⟩;obtain⟨hq,rfl⟩:q<2*bW bs r/\d=D.int q:=by
    rw [sk]at hd;obtain⟨k',Y,q2⟩:=Al.mp hd;obtain⟨I,J⟩:=rP.mp Y;rw [tf]at I;rw [Br]at J;subst J;exact⟨I,q2.symm⟩
   obtain⟨a8,T',e3,B'⟩:=av (at_:=at_) a2 M h0 h2 hm O (show r<=m by omega) hq B c10;exact⟨_,_,rfl,e3,⟨_,_,rfl⟩,T',rfl,B'⟩)
  obtain⟨⟨ax,a8,z⟩,T',h4,B'⟩:=z;refine⟨cbt ns at_ p m w bs .no (.val (.int r)) (.val (.int (bW bs r:Int))) c9 c10,y,rfl,?_,⟨_,_,_,_,z⟩,T',h4,B'⟩;unfold btO ZR;rw [if_pos (by rfl)];have hn:2*bW bs r<=lim:=by omega
  have c2:yw 2 (bW bs r:Int)=true:=qi _ _ ⋯ ⋯;have src:zJ (zh qg (zk (.int 2)) (zd 8)) (cbt ns at_ p m w bs .no (.val (.int r)) (.val (.int (bW bs r:Int))) c9 c10)=some ((rO (2*bW bs r)).map λ(q:Nat)=>D.int q):=by
   simp only [qa,vW,zT,xq,rQ,rR,zo,rL,XE,c2,if_true,z9];rw [show(2:Int)*(bW bs r:Int)=((2*bW bs r:Nat):Int)by omega];simp only [qR hn,if_true,tm,je];rw [zF]
  rw [src];exact e2)
 obtain⟨x1,x2⟩:=x;obtain⟨⟨c7,c8,c9,c10,h1⟩,T,z,B⟩:=h1;dsimp only at h1 z;subst h1 z;refine⟨T,?_,B⟩;rw [Vv];have an:Ke 5 6 F_law_laid (za (zd 3) (za (zd 4) zy)) (vY (ZR [6] (vh (zd 5)) (.tp [7,8]) btO) lQ) [.val (xV ns),.val (.int at_),.val (.int p),.val (.str (qc m w)),.val (.lst (jk bs)),.no,.no,.no,.no,.no,.no]=some (.next (cbt ns at_ p m w bs (.val (.lst (xx w (bW bs) T m))) c7 c8 c9 c10)):=by
  unfold Ke;rw [if_pos ⟨rfl,by show 6<11;decide,by decide⟩];show(uT (some [D.str (qc m w),.lst (jk bs)]) _)=_;rw [rL,ZP h ⋯ ⋯,rL];show(vY _ _ (cbt ns at_ p m w bs .no .no .no .no .no) _).map _=_;rw [J6 (γ':=cbt ns at_ p m w bs .no c7 c8 c9 c10) (Z':=qy w (bW bs) T m) ?_ rfl]
  ·show some (Fl.next (cbt ns at_ p m w bs (.val (eJ (qy w (bW bs) T m))) c7 c8 c9 c10))=_
   rw [ah]
  ·unfold ZR
   rw [if_pos (by rfl)];have src:vh (zd 5) (cbt ns at_ p m w bs .no .no .no .no .no)=some ((rO (m+1)).map λ(r:Nat)=>D.tup [.int r,.int (bW bs r:Int)]):=by
    rw [<- KC (m+1) λr=>D.int (bW bs r:Int)];rfl
   rw [src];exact e
 have R:=wt (p:=p) (w:=w) (T:=T) hm O;refine j7 (zH an ?_);rw [bH,vV];show((F_law_row_k22 [.int p,.str (qc m w),.lst (zD (m+1) λr=>(bW bs r:Int)),.lst (xx w (bW bs) T m)]).map gw).map _=_;rw [R];rfl
end
theorem lA{ns:List Int}(hn:ns.length<=63){m n:Nat}(hm:m<=5)(z:n<=60) : ∃bs,F_law_bars_23 [xV ns,.int 2,.int (n:Int),.int (1+(m:Int))]=some (.own (jk bs))/\(∀b∈bs,bK ((m+1:Nat):Int) b)/\bs.length=n:=by
 obtain⟨bs,h1,h2,I⟩:=Qa hn (r:=m+1) (n:=n) (t:=2) ⋯ ⋯ ⋯ ⋯ z;rw [show((m+1:Nat):Int)=1+(m:Int)by omega]at h1;exact⟨bs,h1,h2,I⟩
def xl1:CO Fl:=(zW 1 (zx F_law_cell (za (zd 0) (za (zk (.int 0)) zy))))
def xl2:CO Fl:=(zW 2 (sIx (jb (jI (za (zk (.int 2)) (za (zk (.int 3)) (za (zk (.int 5)) (za (zk (.int 7)) zy)))))) (zh jA (zd 1) (zk (.int 4)))))
def xl3:CO Fl:=(zW 3 (zh j4 (zk (.int 1)) (zh jA (zh ko (zd 1) (zk (.int 4))) (zk (.int 6)))))
def xl4:CO Fl:=(zW 4 (zx F_law_ways_k22 (za (zh ko (zd 1) (zk (.int 24))) (za (zd 3) zy))))
def xl5:CO Fl:=(zW 5 (zx F_law_built (za (zd 0) (za (zk (.int 10)) (za (zd 2) (za (zd 4) (za (ja (zP F_law_bars_23 (za (zd 0) (za (zk (.int 2)) (za (zh jA (zh ko (zd 1) (zk (.int 768))) (sIx (jb (jI (za (zk (.int 4)) (za (zk (.int 4)) (za (zk (.int 3)) (za (zk (.int 3)) zy)))))) (zh jA (zd 1) (zk (.int 4))))) (za (zd 3) zy)))))) zy)))))))
def xl6:CO Fl:=(zW 6 (zh jA (zx F_law_cell (za (zd 0) (za (zk (.int 1)) zy))) (zd 3)))
def xl7:CO Fl:=(zW 7 (zh jA (zh ko (zx F_law_cell (za (zd 0) (za (zk (.int 1)) zy))) (zk (.int 7))) (zd 3)))
def xl8:CO Fl:=(zW 8 (ja (zP F_law_base_k22 (za (zd 2) (za (sIx (zC (sIx (zf 5) (zk (.int 1)))) (zd 6)) (za (ja (zP F_law_loads_21 (za (zd 0) (za (zk (.int 60)) (za (zd 2) (za (sIx (zC (sIx (zf 5) (zk (.int 1)))) (zd 6)) zy)))))) zy))))))
def xl9:CO Fl:=(zW 9 (ja (ql (zf 8))))
def oP:CO Fl:=(zW 10 (zx F_law_due_21 (za (zd 2) (za (zd 5) (za (zd 8) (za (zd 6) (za (zd 7) zy)))))))
def oO:CO Fl:=(sIf (Jc (qd (sB (zx F_law_is_base_k22 (za (ja (zP F_carried (za (zd 5) (za (zd 9) (za (zd 6) (za (zd 7) zy)))))) (za (zd 10) zy))))) (sB (zh dNe (zd 9) (zd 8)))) (qB (zk (.bl false))) jS)
def oN:CO Fl:=(sIf (qd (sB (zx F_law_is_base_k22 (za (ja (zP F_carried (za (zd 5) (za (zd 9) (za (zd 6) (za (zd 6) zy)))))) (za (zd 8) zy))))) (qB (zk (.bl false))) jS)
def oM:CO Fl:=(qB (Wi (jb (zB (zJ (zh xw (zd 3) (zk (.int 1)))) (.nm 0) 1 [2,5] z7 (zx F_law_arrow_right (za (zd 1) (za (zd 2) (za (zd 0) zy))))))))
theorem YY:F_law_k21=jv 11 (zM xl1 (zM xl2 (zM xl3 (zM xl4 (zM xl5 (zM xl6 (zM xl7 (zM xl8 (zM xl9 (zM oP (zM oO (zM oN oM)))))))))))):=rfl
theorem law_k21(ns:List Int)(I:ns.length<=63):F_law_k21 [xV ns]=some (.val (.bl true)):=by
 have hl:=jt;obtain⟨a1,a2,a3⟩:=yi I (k:=0) ⋯ ⋯;obtain⟨y1,y2,y3⟩:=yi I (k:=1) ⋯ ⋯;generalize qJ ns 0=c at a1 a2 a3;generalize qJ ns 1=d at y1 y2 y3;obtain⟨q,M,J,w1,w4,ep,a8,ew⟩:=gU a2;obtain⟨m,O,cc⟩:=kH (c:=c/4) (n:=6) ⋯;obtain⟨n,Y,hn⟩:=kH (c:=c/768) (n:=M) ⋯;obtain⟨i,ei,hi⟩:=kH (c:=d) (n:=1+m) ⋯;obtain⟨j,ej,hj⟩:=kH (c:=d/7) (n:=1+m) ⋯;have hm:m<=5:=by omega
 obtain⟨w,hw⟩:=fO (c:=c/24) ⋯ hm;obtain⟨bs,eb,b0,lb⟩:=lA I (m:=m) (n:=n) hm ⋯;obtain⟨T,eT,BT⟩:=wz (w:=w) I J (at_:=10) ⋯ ⋯ hm b0 ⋯;have z : ∀k,bW bs k<=3:=λk=>by have:=Zd (S:=bS bs) (E:=bE bs) (N:=bs.length) (r:=k);show bW bs k<=3;unfold bW;omega
 obtain⟨lm,W,eW,cf,hW⟩:=dP I J (a:=60) (n:=bW bs i) ⋯ (by have:=z i;omega);obtain⟨s,A,l,eA,hA,hs,_⟩:=qK J (show bW bs i<=100 by have:=z i;omega) (show lm<=lim by omega) W (λj i _ _=>hW j i);obtain⟨r,B,hr,eD,eC⟩:=QD (w:=w) (m:=m) (T:=T) (j:=j) J rfl z BT.rng ⋯ (show i<=m by omega) (show j<=m by omega) (show s<=100 by have:=z i;omega) A hA.rng;have eS:=ZG (p:=(q:Int)) (w:=w) (wd:=bW bs) (T:=T) (show m<=50 by omega) (show i<=m by omega) (zG s (bW bs i) A);have ib:=vJ B (show r<=lim by omega) (show bW bs j<=lim by have:=z j;omega);have bx:=vJ A (show s<=lim by have:=z i;omega) (show bW bs i<=lim by have:=z i;omega);have ar:=λk (hk:k<m)=>QG (w:=w) (m:=m) (k:=k) J rfl z BT.rng hk;have o1:=ZD (WL s (bW bs i) A);generalize cl:zG s (bW bs i) A=b at *;have rs:jE (qv (q:Int) m w (bW bs) T)=some (.T,[.int q,.tup (zD (m+1) λk=>(bW bs k:Int)),.tup (xJ m w (bW bs) T)]):=rfl;generalize co:qv (q:Int) m w (bW bs) T=row at *;have O:c/4%6=(m:Int):=O;have Y:c/768%(M:Int)=n:=Y;have ei:d%(1+(m:Int))=i:=by rw [<- ei];congr 1
 have ej:d/7%(1+(m:Int))=j:=by rw [<- ej];congr 1
 have rp:(0:Int)<1+(m:Int):=by omega
 have i1:ixD 3 1=some 1:=rfl;have ii:ixD (m+1) (i:Int)=some i:=by rw [jq,if_pos ⋯]
 have wi:(zD (m+1) λk=>(bW bs k:Int))[i]? = some (.int (bW bs i:Int)):=yU (n:=m+1) (λk=>(bW bs k:Int)) (show i<m+1 by omega);have c4:F_law_loads_21 [xV ns,.int 60,.int q,.int (bW bs i:Int)]=some (.own (zG lm (bW bs i) W)):=eW;rw [YY];refine j7 (zH (γ':=[.val (xV ns),.val (.int c),.no,.no,.no,.no,.no,.no,.no,.no,.no]) ?_
  (zH (γ':=[.val (xV ns),.val (.int c),.val (.int q),.no,.no,.no,.no,.no,.no,.no,.no]) ?_
  (zH (γ':=[.val (xV ns),.val (.int c),.val (.int q),.val (.int (1+(m:Int))),.no,.no,.no,.no,.no,.no,.no]) ?_
  (zH (γ':=[.val (xV ns),.val (.int c),.val (.int q),.val (.int (1+(m:Int))),.val (.str (qc m w)),.no,.no,.no,.no,.no,.no]) ?_
  (zH (γ':=[.val (xV ns),.val (.int c),.val (.int q),.val (.int (1+(m:Int))),.val (.str (qc m w)),.val row,.no,.no,.no,.no,.no]) ?_
  (zH (γ':=[.val (xV ns),.val (.int c),.val (.int q),.val (.int (1+(m:Int))),.val (.str (qc m w)),.val row,.val (.int (i:Int)),.no,.no,.no,.no]) ?_
  (zH (γ':=[.val (xV ns),.val (.int c),.val (.int q),.val (.int (1+(m:Int))),.val (.str (qc m w)),.val row,.val (.int (i:Int)),.val (.int (j:Int)),.no,.no,.no]) ?_
  (zH (γ':=[.val (xV ns),.val (.int c),.val (.int q),.val (.int (1+(m:Int))),.val (.str (qc m w)),.val row,.val (.int (i:Int)),.val (.int (j:Int)),.val (.lst b),.no,.no]) ?_
  (zH (γ':=[.val (xV ns),.val (.int c),.val (.int q),.val (.int (1+(m:Int))),.val (.str (qc m w)),.val row,.val (.int (i:Int)),.val (.int (j:Int)),.val (.lst b),.val (.lst b),.no]) ?_
  (zH (γ':=[.val (xV ns),.val (.int c),.val (.int q),.val (.int (1+(m:Int))),.val (.str (qc m w)),.val row,.val (.int (i:Int)),.val (.int (j:Int)),.val (.lst b),.val (.lst b),.val (.lst (zG r (bW bs j) B))]) ?_
  (zH (γ':=[.val (xV ns),.val (.int c),.val (.int q),.val (.int (1+(m:Int))),.val (.str (qc m w)),.val row,.val (.int (i:Int)),.val (.int (j:Int)),.val (.lst b),.val (.lst b),.val (.lst (zG r (bW bs j) B))]) ?_ (zH (γ':=[.val (xV ns),.val (.int c),.val (.int q),.val (.int (1+(m:Int))),.val (.str (qc m w)),.val row,.val (.int (i:Int)),.val (.int (j:Int)),.val (.lst b),.val (.lst b),.val (.lst (zG r (bW bs j) B))]) ?_ ?_))))))))))))
 ·show xl1 [.val (xV ns),.no,.no,.no,.no,.no,.no,.no,.no,.no,.no]=_
  simp [xl1,a1]
 ·simp [xl2,a8,ep]
 ·simp [xl3,O]
 ·simp [xl4,hw]
 ·simp [xl5,a8,ew,show 0<M by omega,Y,eb,eT]
 ·simp [xl6,y1,rp,ei]
 ·simp [xl7,y1,rp,ej]
 ·have wx:sIx (zC (sIx (zf 5) (zk (.int 1)))) (zd 6) [.val (xV ns),.val (.int c),.val (.int q),.val (.int (1+(m:Int))),.val (.str (qc m w)),.val row,.val (.int (i:Int)),.val (.int (j:Int)),.no,.no,.no]=some (.int (bW bs i:Int)):=by
   simp only [yE,qN,qp,zT,xq,rQ,rR,zo,zU,rs,rL,z9,sP,Bi,uP,Nat.reduceAdd,i1,lC,qr,ii,wi]
  unfold xl8;simp only [XQ,wW,ZJ,xK,kW,wx,zT,xq,rQ,rR,zo,rL,sj,c4,Q4,eA];rfl
 ·simp [xl9]
 ·simp [oP,eD]
 ·simp [oO,eC,ib,o1]
 ·simp [oN,eS,bx]
 ·have ml:m<=lim:=by omega
  have c6:zN (.nm 0) z7 (zx F_law_arrow_right (za (zd 1) (za (zd 2) (za (zd 0) zy)))) [Cell.no,Cell.val (.int q),Cell.val row] (zD m λi=>(i:Int))=some ((rO m).map λ_=>D.bl true):=by
   rw [zF];refine zu _ _ λk hk=>zv rfl rfl ?_;simp [ar k (rV.mp hk)]
  have cm:zB (zJ (zh xw (zd 3) (zk (.int 1)))) (.nm 0) 1 [2,5] z7 (zx F_law_arrow_right (za (zd 1) (za (zd 2) (za (zd 0) zy)))) [.val (xV ns),.val (.int c),.val (.int q),.val (.int (1+(m:Int))),.val (.str (qc m w)),.val row,.val (.int (i:Int)),.val (.int (j:Int)),.val (.lst b),.val (.lst b),.val (.lst (zG r (bW bs j) B))]=some ((rO m).map λ_=>D.bl true):=by
   have:zJ (zh xw (zd 3) (zk (.int 1))) [.val (xV ns),.val (.int c),.val (.int q),.val (.int (1+(m:Int))),.val (.str (qc m w)),.val row,.val (.int (i:Int)),.val (.int (j:Int)),.val (.lst b),.val (.lst b),.val (.lst (zG r (bW bs j) B))]=some (zD m λi=>(i:Int)):=by
    simp only [qa,vW,zT,xq,rQ,rR,zo,rL,af,z9];rw [show 1+(m:Int) - 1=(m:Int)by omega];simp only [qR ml,if_true,tm,je]
   rw [qb,this];show(if (zD m λi=>(i:Int)).length<=lim then _ else none)=_;rw [if_pos (by rw [qr];exact ml)];exact c6
  unfold oM;rw [bH,lM,yk,cm];simp only [sj,rL,ZZ,aB]
def top(i:Nat):PySem.Stmt:=PySem.Challenge.pw_barsplit_k21_carried_along_a_row.main.body.getD i (.Pass ⟨0,0,0,0⟩)
section
variable{CR CL:PySem.Addr}{P:PySem.Program}{w:PySem.World}{K:rH}{mg:PySem.Str->Option PySem.Value}{base:PySem.Heap}
theorem v7{α:Type}{us:List α}{n:Nat}(h:us.length=n+1) : ∃a t,us=a::t/\t.length=n:=by
 cases us with
 | nil=>exact absurd h (Nat.zero_ne_add_one n)
 | cons a t=>exact⟨a,t,rfl,Nat.succ.inj h⟩
theorem len1{α:Type}{us:List α}(h:us.length=1) : ∃a,us=[a]:=by
 obtain⟨a,z,rfl,h0⟩:=v7 h;rw [sS h0];exact⟨a,rfl⟩
theorem len2{α:Type}{us:List α}(h:us.length=2) : ∃a b,us=[a,b]:=by
 obtain⟨a,z,rfl,h0⟩:=v7 h;obtain⟨b,I,rfl,h1⟩:=v7 h0;rw [sS h1];exact⟨a,b,rfl⟩
theorem len3{α:Type}{us:List α}(h:us.length=3) : ∃a b c,us=[a,b,c]:=by
 obtain⟨a,z,rfl,h0⟩:=v7 h;obtain⟨b,I,rfl,h1⟩:=v7 h0;obtain⟨c,J,rfl,h2⟩:=v7 h1;rw [sS h2];exact⟨a,b,c,rfl⟩
theorem len4{α:Type}{us:List α}(h:us.length=4) : ∃a b c d,us=[a,b,c,d]:=by
 obtain⟨a,I,rfl,h0⟩:=v7 h;obtain⟨b,J,rfl,h1⟩:=v7 h0;obtain⟨c,M,rfl,h2⟩:=v7 h1;obtain⟨d,O,rfl,z⟩:=v7 h2;rw [sS z];exact⟨a,b,c,d,rfl⟩
theorem len5{α:Type}{us:List α}(h:us.length=5) : ∃a b c d e,us=[a,b,c,d,e]:=by
 obtain⟨a,J,rfl,h0⟩:=v7 h;obtain⟨b,M,rfl,h1⟩:=v7 h0;obtain⟨c,O,rfl,h2⟩:=v7 h1;obtain⟨d,Y,rfl,z⟩:=v7 h2;obtain⟨e,t4,rfl,I⟩:=v7 z;rw [sS I];exact⟨a,b,c,d,e,rfl⟩
theorem len7{α:Type}{us:List α}(h:us.length=7) : ∃a b c d e f g,us=[a,b,c,d,e,f,g]:=by
 obtain⟨a,O,rfl,h0⟩:=v7 h;obtain⟨b,Y,rfl,h1⟩:=v7 h0;obtain⟨c,t2,rfl,h2⟩:=v7 h1;obtain⟨d,t3,rfl,z⟩:=v7 h2;obtain⟨e,t4,rfl,I⟩:=v7 z;obtain⟨f,t5,rfl,J⟩:=v7 I;obtain⟨g,t6,rfl,M⟩:=v7 J;rw [sS M];exact⟨a,b,c,d,e,f,g,rfl⟩
theorem ok_law_cell(D:DefAt K mg "_law_cell" (top 23) ["_law_script","_law_k"])(z:mg "len" = none)(I:mg "min" = none)(J:mg "range" = none):FnD P w K mg base 1 "_law_cell" 2 F_law_cell:=
 ky (N:=["_law_script","_law_k","_law_cell_here","_law_turn","_law_given"]) D ⋯ λX M hw O hm Y h0 hx=>by
  subst M hw O hm Y;exact(by refine ze ?_ ?_;exact(qV (Zm (vk (Yp (x9 h0 ⋯ z (zq 0 (h0.var ⋯))) zg) (kE (qA h0 (jd (zO (zq 0 (h0.var ⋯)) zg) zg) zg)))) ((by refine ze ?_ ?_;exact(zQ 2 (h0.set 2 ⋯ (zO (zq 0 (h0.var ⋯)) (jR zg (jd (zb 1 (h0.var ⋯)) (qU (x9 h0 ⋯ z (zq 0 (h0.var ⋯))) zg))))));refine ze ?_ ?_;exact(jY (T:= .nm 3) (jL hx) h0.calm (jf h0 ⋯ J (gJ h0 ⋯ I zg (xC (zb 1 (h0.var ⋯)) (qU (x9 h0 ⋯ z (zq 0 (h0.var ⋯))) zg)))) (h0.tgt 3 ⋯) (zm (zQ 2 (h0.set 2 ⋯ (xC (zb 2 (h0.var ⋯)) (Yl zg zg))))));exact(zm (jo (jd (zb 2 (h0.var ⋯)) (Yl zg zg)))))) jN);refine ze ?_ ?_;exact(zQ 4 (h0.set 4 ⋯ (zb 1 (h0.var ⋯))));refine ze ?_ ?_;exact(qV (Yp (x9 h0 ⋯ z (zq 0 (h0.var ⋯))) zg) (zm (zQ 4 (h0.set 4 ⋯ (zO (zq 0 (h0.var ⋯)) (jd (zb 1 (h0.var ⋯)) (x9 h0 ⋯ z (zq 0 (h0.var ⋯)))))))) jN);exact(zm (jo (jd (jJ (jd (jR (jR (jR (jJ (jd (zb 4 (h0.var ⋯)) (Yl zg zg)) zg) (jJ (jJ zg (zb 1 (h0.var ⋯))) (zb 1 (h0.var ⋯)))) (jJ zg (zb 1 (h0.var ⋯)))) zg) zg) zg) zg))))
theorem ok_law_ways_k22(D:DefAt K mg "_law_ways" (top 34) ["_law_cell_here","_law_rooms"])(z:mg "range" = none):FnD P w K mg base 1 "_law_ways" 2 F_law_ways_k22:=
 ky (N:=["_law_cell_here","_law_rooms","_law_ways_here","_law_k"]) D ⋯ λX I hw J hm M h0 O=>by
  subst I hw J hm M;exact(by refine ze ?_ ?_;exact(zQ 2 (h0.set 2 ⋯ wG));refine ze ?_ ?_;exact(jY (T:= .nm 3) (jL O) h0.calm (jf h0 ⋯ z (qU (zb 1 (h0.var ⋯)) zg)) (h0.tgt 3 ⋯) ((by refine ze ?_ ?_;exact(zQ 2 (h0.set 2 ⋯ (cY (zb 2 (h0.var ⋯)) (Wo wG (jd (zb 0 (h0.var ⋯)) zg)))));exact(zm (zQ 0 (h0.set 0 ⋯ (xC (zb 0 (h0.var ⋯)) zg)))))));exact(zm (qD 2 (h0.var ⋯))))
theorem ok_law_ends_k22(D:DefAt K mg "_law_ends" (top 32) ["_law_k","_law_way"]):FnD P w K mg base 1 "_law_ends" 2 F_law_ends_k22:=
 ky (N:=["_law_k","_law_way"]) D ⋯ λX z hw I hm J h0 M=>by
  subst z hw I hm J;exact(by refine ze ?_ ?_;exact(qV (qA h0 (zb 1 (h0.var ⋯)) wG) (zm (jo (xB (yP (zc (zb 0 (h0.var ⋯)) (zc (jR (zb 0 (h0.var ⋯)) zg) zl)))))) jN);exact(zm (jo (xB (yP (zc (jR (zb 0 (h0.var ⋯)) zg) (zc (zb 0 (h0.var ⋯)) zl)))))))
theorem ok_law_laid(D:DefAt K mg "_law_laid" (top 36) ["_law_ways_here","_law_some"])(J:FnD P w K mg base 1 "_law_ends" 2 F_law_ends_k22)(M:mg "enumerate" = none)(O:mg "int" = none)(z:mg "len" = none)(I:mg "range" = none):FnL P w K mg base 2 "_law_laid" 2 F_law_laid:=
 rA (N:=["_law_ways_here","_law_some","_law_stand","_law_tables","_law_k","_law_way","_law_begin","_law_end"]) D ⋯ λX Y hw hK hm hb h0 hx=>by
  subst Y hw hK hm hb;exact iB (jW 2 (psc 2 h0 ⋯ (own:=["_law_room"]) (fr:=[("_law_some",1)]) (T:= .nm 0) h0.calm (h0.compOk (fr:=[("_law_some",1)]) ⋯) ⋯ (PIF.c (jf h0 ⋯ I (jR (cV h0 ⋯ z (zb 0 (h0.var ⋯))) zg))) (λfp s2 H2=>have h1:=h0.cq ["_law_room"] [("_law_some",1)] fp s2 H2 ⋯;h1.tgt 0 ⋯) (λfp s2 H2=>have h1:=h0.cq ["_law_room"] [("_law_some",1)] fp s2 H2 ⋯;PO.v (xD (own:=["_law_k"]) (fr:=[("_law_room",0),("_law_some",1)]) (T:= .nm 0) h1.calm (h1.compOk (fr:=[("_law_room",0),("_law_some",1)]) ⋯) ⋯ (PIF.c (jf h1 ⋯ I (x9 h1 ⋯ z (zq 1 (h1.var ⋯))))) (λfp s2 H2=>have h2:=h1.cq ["_law_k"] [("_law_room",0),("_law_some",1)] fp s2 H2 ⋯;h2.tgt 0 ⋯) (λfp s2 H2=>have h2:=h1.cq ["_law_k"] [("_law_room",0),("_law_some",1)] fp s2 H2 ⋯;Yq ir ir aM aM (zO (PV.q (zO (zq 2 (h2.var ⋯)) (zb 0 (h2.var ⋯)))) zg) (zb 1 (h2.var ⋯)) (zO (PV.q (zO (zq 2 (h2.var ⋯)) (zb 0 (h2.var ⋯)))) zg)) (λfp s2 H2=>have h2:=h1.cq ["_law_k"] [("_law_room",0),("_law_some",1)] fp s2 H2 ⋯;zb 0 (h2.var ⋯)))))) (nF (h0.set 3 ⋯ (bh jw)) (VU (T:= .tp [4,5]) (jL hx) h0.calm (Qn h0 ⋯ M (zb 0 (h0.var ⋯))) (h0.tgts (zL (h0.tgt 4 ⋯) (zL (h0.tgt 5 ⋯) jK))) (J7 (VS (T:= .tp [6,7]) (wJ (jF J ⋯ h0 ⋯ (zc (zb 4 (h0.var ⋯)) (zc (zb 5 (h0.var ⋯)) zl))) (h0.tgts (zL (h0.tgt 6 ⋯) (zL (h0.tgt 7 ⋯) jK))))) (wb (mK 3 rX (by rfl) h0 ⋯ (Wx (own:=["_law_x"]) (fr:=[("_law_stand",2),("_law_begin",6)]) (T:= .nm 0) h0.calm (h0.compOk (fr:=[("_law_stand",2),("_law_begin",6)]) ⋯) ⋯ (zZ (PV.q (zO (zq 2 (h0.var ⋯)) (zb 7 (h0.var ⋯))))) (λfp s2 H2=>have h1:=h0.cq ["_law_x"] [("_law_stand",2),("_law_begin",6)] fp s2 H2 ⋯;h1.tgt 0 ⋯) (λfp s2 H2=>have h1:=h0.cq ["_law_x"] [("_law_stand",2),("_law_begin",6)] fp s2 H2 ⋯;zY (own:=["_law_y"]) (fr:=[("_law_x",0)]) (T:= .nm 0) h1.calm (h1.compOk (fr:=[("_law_x",0)]) ⋯) ⋯ (zZ (PV.q (zO (zq 1 (h1.var ⋯)) (zb 2 (h1.var ⋯))))) (λfp s2 H2=>have h2:=h1.cq ["_law_y"] [("_law_x",0)] fp s2 H2 ⋯;h2.tgt 0 ⋯) (λfp s2 H2=>have h2:=h1.cq ["_law_y"] [("_law_x",0)] fp s2 H2 ⋯;cW h2 ⋯ O (cX h2 (zb 1 (h2.var ⋯)) (zb 0 (h2.var ⋯)))))))))) (PO.v (zY (own:=["_law_each"]) (fr:=[]) (T:= .nm 0) h0.calm (h0.compOk (fr:=[]) ⋯) ⋯ (zZ (zq 2 (h0.var ⋯))) (λfp s2 H2=>have h1:=h0.cq ["_law_each"] [] fp s2 H2 ⋯;h1.tgt 0 ⋯) (λfp s2 H2=>have h1:=h0.cq ["_law_each"] [] fp s2 H2 ⋯;x9 h1 ⋯ z (zq 0 (h1.var ⋯))))) (h0.var ⋯))
theorem ok_law_row_k22(D:DefAt K mg "_law_row" (top 33) ["_law_p","_law_ways_here","_law_widths","_law_tables"])(I:FnD P w K mg base 1 "_law_ends" 2 F_law_ends_k22)(J:mg "enumerate" = none)(z:mg "tuple" = none):FnD P w K mg base 2 "_law_row" 4 F_law_row_k22:=
 ky (N:=["_law_p","_law_ways_here","_law_widths","_law_tables","_law_arrows","_law_k","_law_way","_law_begin","_law_end"]) D ⋯ λX M hw O hm Y h0 hx=>by
  subst M hw O hm Y;exact(by refine ze ?_ ?_;exact(qC 4 (h0.set 4 ⋯ (qW (yP zl))));refine ze ?_ ?_;exact(jY (T:= .tp [5,6]) (jL hx) h0.calm (Qn h0 ⋯ J (zb 1 (h0.var ⋯))) (h0.tgts (zL (h0.tgt 5 ⋯) (zL (h0.tgt 6 ⋯) jK))) ((by refine ze ?_ ?_;exact(Xd (T:= .tp [7,8]) (h0.tgts (zL (h0.tgt 7 ⋯) (zL (h0.tgt 8 ⋯) jK))) (jF I ⋯ h0 ⋯ (zc (zb 5 (h0.var ⋯)) (zc (zb 6 (h0.var ⋯)) zl))));exact(zm (Qj 4 h0 ⋯ (xB (yP (zc (zb 6 (h0.var ⋯)) (zc (xB (yP (zc (zO (zq 2 (h0.var ⋯)) (zb 8 (h0.var ⋯))) (zc (zO (zq 2 (h0.var ⋯)) (zb 7 (h0.var ⋯))) (zc (jG h0 ⋯ z (PO.q (zY (own:=["_law_row_here"]) (fr:=[]) (T:= .nm 0) h0.calm (h0.compOk (fr:=[]) ⋯) ⋯ (zZ (PV.q (zO (zq 3 (h0.var ⋯)) (zb 5 (h0.var ⋯))))) (λfp s2 H2=>have h1:=h0.cq ["_law_row_here"] [] fp s2 H2 ⋯;h1.tgt 0 ⋯) (λfp s2 H2=>have h1:=h0.cq ["_law_row_here"] [] fp s2 H2 ⋯;jG h1 ⋯ z (zq 0 (h1.var ⋯)))))) zl))))) zl)))))))));exact(zm (jo (xB (yP (zc (zb 0 (h0.var ⋯)) (zc (jG h0 ⋯ z (zq 2 (h0.var ⋯))) (zc (jG h0 ⋯ z (zq 4 (h0.var ⋯))) zl))))))))
theorem ok_law_step(D:DefAt K mg "_law_step" (top 37) ["_law_p","_law_ways_here","_law_tables","_law_room","_law_a","_law_b","_law_times"])(I:FnD P w K mg base 1 "_law_ends" 2 F_law_ends_k22)(J:mg "enumerate" = none)(M:mg "range" = none)(O:mg "zip" = none):FnY P w K mg base 2 "_law_step" 2 4 F_law_step:=
 rz (N:=["_law_p","_law_ways_here","_law_tables","_law_room","_law_a","_law_b","_law_times","_law_over","_law_k","_law_way","_law_begin","_law_end","_law_rows","_law_row_here"]) D ⋯ (by rfl) λX Y hw hK hm hb h0 z=>by
  subst Y hw hK hm hb;exact J7 (VS (T:= .nm 7) (h0.set 7 ⋯ (zO (PO.q (xD (own:=["_law_x"]) (fr:=[("_law_p",0),("_law_times",6)]) (T:= .nm 0) h0.calm (h0.compOk (fr:=[("_law_p",0),("_law_times",6)]) ⋯) ⋯ (PIF.c (jf h0 ⋯ M (zb 0 (h0.var ⋯)))) (λfp s2 H2=>have h1:=h0.cq ["_law_x"] [("_law_p",0),("_law_times",6)] fp s2 H2 ⋯;h1.tgt 0 ⋯) (λfp s2 H2=>have h1:=h0.cq ["_law_x"] [("_law_p",0),("_law_times",6)] fp s2 H2 ⋯;qA h1 (jd (jJ (zb 0 (h1.var ⋯)) (zb 2 (h1.var ⋯))) (zb 1 (h1.var ⋯))) zg) (λfp s2 H2=>have h1:=h0.cq ["_law_x"] [("_law_p",0),("_law_times",6)] fp s2 H2 ⋯;zb 0 (h1.var ⋯)))) zg))) (wb (VU (T:= .tp [8,9]) (jL z) h0.calm (Qn h0 ⋯ J (zb 1 (h0.var ⋯))) (h0.tgts (zL (h0.tgt 8 ⋯) (zL (h0.tgt 9 ⋯) jK))) (J7 (VS (T:= .tp [10,11]) (wJ (jF I ⋯ h0 ⋯ (zc (zb 8 (h0.var ⋯)) (zc (zb 9 (h0.var ⋯)) zl))) (h0.tgts (zL (h0.tgt 10 ⋯) (zL (h0.tgt 11 ⋯) jK))))) (fK 2 12 rX h0 ⋯ ⋯ (zb 8 (h0.var ⋯)) (λk=>J7 (lP (Zm (vk (qA h0 (zb 11 (h0.var ⋯)) (zb 3 (h0.var ⋯))) (kE (qA h0 (zb 4 (h0.var ⋯)) (zb 5 (h0.var ⋯)))))) (wb (QO rX (by rfl) (yH 12 h0 ⋯ (zY (own:=["_law_x"]) (fr:=[("_law_p",0),("_law_times",6)]) (T:= .nm 0) h0.calm (h0.compOk (fr:=[("_law_p",0),("_law_times",6)]) ⋯) ⋯ (zZ (PV.q (zO (zq 12 (h0.var ⋯)) (zb 5 (h0.var ⋯))))) (λfp s2 H2=>have h1:=h0.cq ["_law_x"] [("_law_p",0),("_law_times",6)] fp s2 H2 ⋯;h1.tgt 0 ⋯) (λfp s2 H2=>have h1:=h0.cq ["_law_x"] [("_law_p",0),("_law_times",6)] fp s2 H2 ⋯;jd (jJ (zb 2 (h1.var ⋯)) (zb 0 (h1.var ⋯))) (zb 1 (h1.var ⋯)))) (zb 5 (h0.var ⋯)))))) (J7 (lP (Zm (vk (qA h0 (zb 11 (h0.var ⋯)) (zb 3 (h0.var ⋯))) (kE (yo h0 (zb 4 (h0.var ⋯)) (zb 5 (h0.var ⋯)))))) (wb (QO rX (by rfl) (yH 12 h0 ⋯ (zY (own:=["_law_x","_law_y"]) (fr:=[("_law_p",0),("_law_times",6)]) (T:= .tp [0,1]) h0.calm (h0.compOk (fr:=[("_law_p",0),("_law_times",6)]) ⋯) ⋯ (PIF.c (yq h0 ⋯ O (zO (zq 12 (h0.var ⋯)) (zb 4 (h0.var ⋯))) (zO (zq 12 (h0.var ⋯)) (zb 5 (h0.var ⋯))))) (λfp s2 H2=>have h1:=h0.cq ["_law_x","_law_y"] [("_law_p",0),("_law_times",6)] fp s2 H2 ⋯;h1.tgts (zL (h1.tgt 0 ⋯) (zL (h1.tgt 1 ⋯) jK))) (λfp s2 H2=>have h1:=h0.cq ["_law_x","_law_y"] [("_law_p",0),("_law_times",6)] fp s2 H2 ⋯;jd (jR (zb 1 (h1.var ⋯)) (jJ (zb 3 (h1.var ⋯)) (zb 0 (h1.var ⋯)))) (zb 2 (h1.var ⋯)))) (zb 5 (h0.var ⋯)))))) (wb (VT (jL z) h0.calm rX (h0.var ⋯) (h0.tgt 13 ⋯) (λm=>J7 (lP (Zm (vk (qA h0 (zb 10 (h0.var ⋯)) (zb 3 (h0.var ⋯))) (kE (qA h0 (zb 4 (h0.var ⋯)) (zb 5 (h0.var ⋯)))))) (wb (QP rX (yH 13 h0 ⋯ (jd (jJ (zb 7 (h0.var ⋯)) (zO (zq 13 (h0.var ⋯)) (zb 5 (h0.var ⋯)))) (zb 0 (h0.var ⋯))) (zb 5 (h0.var ⋯)))))) (wb (lP (Zm (vk (qA h0 (zb 10 (h0.var ⋯)) (zb 3 (h0.var ⋯))) (kE (yo h0 (zb 4 (h0.var ⋯)) (zb 5 (h0.var ⋯)))))) (wb (QP rX (yH 13 h0 ⋯ (jd (qU (zO (zq 13 (h0.var ⋯)) (zb 4 (h0.var ⋯))) (jJ (zb 6 (h0.var ⋯)) (zO (zq 13 (h0.var ⋯)) (zb 5 (h0.var ⋯))))) (zb 0 (h0.var ⋯))) (zb 4 (h0.var ⋯))))))))))))))))
theorem ok_law_built(D:DefAt K mg "_law_built" (top 38) ["_law_script","_law_at","_law_p","_law_ways_here","_law_some"])(I:FnL P w K mg base 2 "_law_laid" 2 F_law_laid)(J:FnD P w K mg base 2 "_law_row" 4 F_law_row_k22)(M:FnD P w K mg base 1 "_law_cell" 2 F_law_cell)(O:FnY P w K mg base 2 "_law_step" 2 4 F_law_step)(Y:mg "enumerate" = none)(a0:mg "range" = none):FnD P w K mg base 3 "_law_built" 5 F_law_built:=
 ky (N:=["_law_script","_law_at","_law_p","_law_ways_here","_law_some","_law_widths","_law_tables","_law_room","_law_width","_law_k","_law_cell_here"]) D ⋯ λX hP hw hK hm hb h0 z=>by
  subst hP hw hK hm hb;exact Ys 5 6 I ⋯ h0 ⋯ (zc (zb 3 (h0.var ⋯)) (zc (zb 4 (h0.var ⋯)) zl)) (h0.tgts (zL (h0.tgt 5 ⋯) (zL (h0.tgt 6 ⋯) jK))) (bM (VU (T:= .tp [7,8]) (jL z) h0.calm (dk h0 ⋯ Y (zb 5 (h0.var ⋯))) (h0.tgts (zL (h0.tgt 7 ⋯) (zL (h0.tgt 8 ⋯) jK))) (wb (VU (T:= .nm 9) (jL z) h0.calm (jf h0 ⋯ a0 (jJ zg (zb 8 (h0.var ⋯)))) (h0.tgt 9 ⋯) (J7 (VS (T:= .nm 10) (h0.set 10 ⋯ (jF M ⋯ h0 ⋯ (zc (zb 0 (h0.var ⋯)) (zc (jR (jR (zb 1 (h0.var ⋯)) (jJ zg (zb 7 (h0.var ⋯)))) (zb 9 (h0.var ⋯))) zl))))) (wb (fM O ⋯ h0 ⋯ rX (by rfl) (Xh (zb 2 (h0.var ⋯)) (Xh (zb 3 (h0.var ⋯)) (dD (h0.var ⋯) (kF (zb 7 (h0.var ⋯)) (kF (jd (zb 10 (h0.var ⋯)) (zb 8 (h0.var ⋯))) (kF (jd (xC (zb 10 (h0.var ⋯)) zg) (zb 8 (h0.var ⋯))) (kF (jR zg (jd (xC (zb 10 (h0.var ⋯)) zg) (qU (zb 2 (h0.var ⋯)) zg))) YK))))))) (qX (qX Xs)) (qX (qX (qX (qX Xs)))))))))) (fJ (zm (jo (jF J ⋯ h0 ⋯ (zc (zb 2 (h0.var ⋯)) (zc (zb 3 (h0.var ⋯)) (zc (zb 5 (h0.var ⋯)) (zc (zb 6 (h0.var ⋯)) zl)))))))))
theorem ok_law_less_k22(D:DefAt K mg "_law_less" (top 24) ["_law_p","_law_row_here","_law_other","_law_times"])(z:mg "zip" = none):FnD P w K mg base 1 "_law_less" 4 F_law_less_k22:=
 ky (N:=["_law_p","_law_row_here","_law_other","_law_times"]) D ⋯ λX I hw J hm M h0 O=>by
  subst I hw J hm M;exact zm (qM (zY (own:=["_law_one","_law_two"]) (fr:=[("_law_p",0),("_law_times",3)]) (T:= .tp [0,1]) h0.calm (h0.compOk (fr:=[("_law_p",0),("_law_times",3)]) ⋯) ⋯ (PIF.c (yq h0 ⋯ z (zb 1 (h0.var ⋯)) (zb 2 (h0.var ⋯)))) (λfp s2 H2=>have h1:=h0.cq ["_law_one","_law_two"] [("_law_p",0),("_law_times",3)] fp s2 H2 ⋯;h1.tgts (zL (h1.tgt 0 ⋯) (zL (h1.tgt 1 ⋯) jK))) (λfp s2 H2=>have h1:=h0.cq ["_law_one","_law_two"] [("_law_p",0),("_law_times",3)] fp s2 H2 ⋯;jd (qU (zb 0 (h1.var ⋯)) (jJ (zb 3 (h1.var ⋯)) (zb 1 (h1.var ⋯)))) (zb 2 (h1.var ⋯)))))
theorem ok_law_base_k22(D:DefAt K mg "_law_base" (top 25) ["_law_p","_law_long","_law_loads_here"])(z:FnD P w K mg base 1 "_law_less" 4 F_law_less_k22)(J:mg "len" = none)(M:mg "list" = none)(I:mg "range" = none)(O:mg "tuple" = none):FnD P w K mg base 2 "_law_base" 3 F_law_base_k22:=
 ky (N:=["_law_p","_law_long","_law_loads_here","_law_rows","_law_done","_law_place","_law_some","_law_over","_law_first"]) D ⋯ λX Y hw hK hm hb h0 hx=>by
  subst Y hw hK hm hb;exact(by refine ze ?_ ?_;exact(jW 3 (psc 3 h0 ⋯ (own:=["_law_load"]) (fr:=[]) (T:= .nm 0) h0.calm (h0.compOk (fr:=[]) ⋯) ⋯ (zZ (zq 2 (h0.var ⋯))) (λfp s2 H2=>have h1:=h0.cq ["_law_load"] [] fp s2 H2 ⋯;h1.tgt 0 ⋯) (λfp s2 H2=>have h1:=h0.cq ["_law_load"] [] fp s2 H2 ⋯;PO.v (Qm h1 ⋯ M (zq 0 (h1.var ⋯))))));refine ze ?_ ?_;exact(zQ 4 (h0.set 4 ⋯ (PO.v (qW (yP zl)))));refine ze ?_ ?_;exact(jY (T:= .nm 5) (jL hx) h0.calm (jf h0 ⋯ I (zb 1 (h0.var ⋯))) (h0.tgt 5 ⋯) ((by refine ze ?_ ?_;exact(jW 6 (gQ 6 h0 ⋯ (own:=["_law_row_here"]) (fr:=[("_law_place",5)]) (T:= .nm 0) h0.calm (h0.compOk (fr:=[("_law_place",5)]) ⋯) ⋯ (zZ (zq 3 (h0.var ⋯))) (λfp s2 H2=>have h1:=h0.cq ["_law_row_here"] [("_law_place",5)] fp s2 H2 ⋯;h1.tgt 0 ⋯) (λfp s2 H2=>have h1:=h0.cq ["_law_row_here"] [("_law_place",5)] fp s2 H2 ⋯;yo h1 (zO (zq 0 (h1.var ⋯)) (zb 1 (h1.var ⋯))) zg) (λfp s2 H2=>have h1:=h0.cq ["_law_row_here"] [("_law_place",5)] fp s2 H2 ⋯;zb 0 (h1.var ⋯))));exact(zm (qV (Yp (x9 h0 ⋯ J (zq 6 (h0.var ⋯))) zg) ((by refine ze ?_ ?_;exact(zQ 7 (h0.set 7 ⋯ (zO (PO.q (xD (own:=["_law_x"]) (fr:=[("_law_p",0),("_law_place",5),("_law_some",6)]) (T:= .nm 0) h0.calm (h0.compOk (fr:=[("_law_p",0),("_law_place",5),("_law_some",6)]) ⋯) ⋯ (PIF.c (jf h0 ⋯ I (zb 0 (h0.var ⋯)))) (λfp s2 H2=>have h1:=h0.cq ["_law_x"] [("_law_p",0),("_law_place",5),("_law_some",6)] fp s2 H2 ⋯;h1.tgt 0 ⋯) (λfp s2 H2=>have h1:=h0.cq ["_law_x"] [("_law_p",0),("_law_place",5),("_law_some",6)] fp s2 H2 ⋯;qA h1 (jd (jJ (zb 0 (h1.var ⋯)) (zO (PV.q (zO (zq 3 (h1.var ⋯)) zg)) (zb 2 (h1.var ⋯)))) (zb 1 (h1.var ⋯))) zg) (λfp s2 H2=>have h1:=h0.cq ["_law_x"] [("_law_p",0),("_law_place",5),("_law_some",6)] fp s2 H2 ⋯;zb 0 (h1.var ⋯)))) zg)));refine ze ?_ ?_;exact(jW 8 (psc 8 h0 ⋯ (own:=["_law_x"]) (fr:=[("_law_p",0),("_law_over",7)]) (T:= .nm 0) h0.calm (h0.compOk (fr:=[("_law_p",0),("_law_over",7)]) ⋯) ⋯ (zZ (PV.q (zO (zq 6 (h0.var ⋯)) zg))) (λfp s2 H2=>have h1:=h0.cq ["_law_x"] [("_law_p",0),("_law_over",7)] fp s2 H2 ⋯;h1.tgt 0 ⋯) (λfp s2 H2=>have h1:=h0.cq ["_law_x"] [("_law_p",0),("_law_over",7)] fp s2 H2 ⋯;jd (jJ (zb 2 (h1.var ⋯)) (zb 0 (h1.var ⋯))) (zb 1 (h1.var ⋯)))));refine ze ?_ ?_;exact(jW 3 (psc 3 h0 ⋯ (own:=["_law_row_here"]) (fr:=[("_law_p",0),("_law_place",5),("_law_first",8)]) (T:= .nm 0) h0.calm (h0.compOk (fr:=[("_law_p",0),("_law_place",5),("_law_first",8)]) ⋯) ⋯ (zZ (zq 3 (h0.var ⋯))) (λfp s2 H2=>have h1:=h0.cq ["_law_row_here"] [("_law_p",0),("_law_place",5),("_law_first",8)] fp s2 H2 ⋯;h1.tgt 0 ⋯) (λfp s2 H2=>have h1:=h0.cq ["_law_row_here"] [("_law_p",0),("_law_place",5),("_law_first",8)] fp s2 H2 ⋯;PO.v (km z ⋯ h1 ⋯ (zc (zb 1 (h1.var ⋯)) (zc (zb 0 (h1.var ⋯)) (zc (zb 3 (h1.var ⋯)) (zc (zO (zq 0 (h1.var ⋯)) (zb 2 (h1.var ⋯))) zl))))))));exact(zm (zQ 4 (h0.set 4 ⋯ (PO.v (Yx (PO.q (zY (own:=["_law_row_here"]) (fr:=[("_law_p",0),("_law_place",5),("_law_first",8)]) (T:= .nm 0) h0.calm (h0.compOk (fr:=[("_law_p",0),("_law_place",5),("_law_first",8)]) ⋯) ⋯ (zZ (zq 4 (h0.var ⋯))) (λfp s2 H2=>have h1:=h0.cq ["_law_row_here"] [("_law_p",0),("_law_place",5),("_law_first",8)] fp s2 H2 ⋯;h1.tgt 0 ⋯) (λfp s2 H2=>have h1:=h0.cq ["_law_row_here"] [("_law_p",0),("_law_place",5),("_law_first",8)] fp s2 H2 ⋯;PO.v (km z ⋯ h1 ⋯ (zc (zb 1 (h1.var ⋯)) (zc (zb 0 (h1.var ⋯)) (zc (zb 3 (h1.var ⋯)) (zc (zO (zq 0 (h1.var ⋯)) (zb 2 (h1.var ⋯))) zl)))))))) (PO.q (qW (yP (zc (zb 8 (h0.var ⋯)) zl))))))))))) jN)))));exact(zm (qM (zY (own:=["_law_row_here"]) (fr:=[]) (T:= .nm 0) h0.calm (h0.compOk (fr:=[]) ⋯) ⋯ (zZ (zq 4 (h0.var ⋯))) (λfp s2 H2=>have h1:=h0.cq ["_law_row_here"] [] fp s2 H2 ⋯;h1.tgt 0 ⋯) (λfp s2 H2=>have h1:=h0.cq ["_law_row_here"] [] fp s2 H2 ⋯;jG h1 ⋯ O (zq 0 (h1.var ⋯)))))))
theorem ok_law_span(D:DefAt K mg "_law_span" (top 28) ["_law_p","_law_long","_law_base_here"])(M:mg "list" = none)(I:mg "range" = none)(J:mg "tuple" = none)(O:mg "zip" = none):FnD P w K mg base 1 "_law_span" 3 F_law_span:=
 ky (N:=["_law_p","_law_long","_law_base_here","_law_span_here","_law_each","_law_load","_law_x"]) D ⋯ λX Y hw hK hm hb h0 z=>by
  subst Y hw hK hm hb;exact Yt 3 (h0.set 3 ⋯ (dz h0.u64 (jG h0 ⋯ J (PO.q (zY (own:=["_law_k"]) (fr:=[]) (T:= .nm 0) h0.calm (h0.compOk (fr:=[]) ⋯) ⋯ (PIF.c (jf h0 ⋯ I (zb 1 (h0.var ⋯)))) (λfp s2 H2=>have h1:=h0.cq ["_law_k"] [] fp s2 H2 ⋯;h1.tgt 0 ⋯) (λ_ _ _=>zg)))) vm)) (cQ (aS (T:= .nm 4) (jL z) h0.calm (YB (zb 2 (h0.var ⋯))) (h0.tgt 4 ⋯) (Yk (cP (T:= .nm 5) (jL z) h0.calm (WD h0 ⋯ M ⋯) (h0.tgt 5 ⋯) (Yk (aS (T:= .nm 6) (jL z) h0.calm (yO h0 ⋯ I zg (zb 0 (h0.var ⋯))) (h0.tgt 6 ⋯) (Yk (gB (de (by have:=h0.u64;omega) (h0.var ⋯) (jG h0 ⋯ J (PO.q (zY (own:=["_law_one","_law_two"]) (fr:=[("_law_p",0),("_law_x",6)]) (T:= .tp [0,1]) h0.calm (h0.compOk (fr:=[("_law_p",0),("_law_x",6)]) ⋯) ⋯ (PIF.c (yq h0 ⋯ O (zb 5 (h0.var ⋯)) (zb 4 (h0.var ⋯)))) (λfp s2 H2=>have h1:=h0.cq ["_law_one","_law_two"] [("_law_p",0),("_law_x",6)] fp s2 H2 ⋯;h1.tgts (zL (h1.tgt 0 ⋯) (zL (h1.tgt 1 ⋯) jK))) (λfp s2 H2=>have h1:=h0.cq ["_law_one","_law_two"] [("_law_p",0),("_law_x",6)] fp s2 H2 ⋯;jd (jR (zb 0 (h1.var ⋯)) (jJ (zb 3 (h1.var ⋯)) (zb 1 (h1.var ⋯)))) (zb 2 (h1.var ⋯)))))) vm (by rfl))))))))) (gC (zm (qD 3 (h0.var ⋯)))))
theorem ok_law_led_k22(D:DefAt K mg "_law_led" (top 26) ["_law_p","_law_rows","_law_load"])(z:mg "sum" = none)(I:mg "tuple" = none)(J:mg "zip" = none):FnD P w K mg base 1 "_law_led" 3 F_law_led_k22:=
 ky (N:=["_law_p","_law_rows","_law_load"]) D ⋯ λX M hw O hm Y h0 hx=>by
  subst M hw O hm Y;exact zm (jo (jG h0 ⋯ I (PO.q (zY (own:=["_law_row_here"]) (fr:=[("_law_p",0),("_law_load",2)]) (T:= .nm 0) h0.calm (h0.compOk (fr:=[("_law_p",0),("_law_load",2)]) ⋯) ⋯ (zZ (zq 1 (h0.var ⋯))) (λfp s2 H2=>have h1:=h0.cq ["_law_row_here"] [("_law_p",0),("_law_load",2)] fp s2 H2 ⋯;h1.tgt 0 ⋯) (λfp s2 H2=>have h1:=h0.cq ["_law_row_here"] [("_law_p",0),("_law_load",2)] fp s2 H2 ⋯;jd (aU h1 ⋯ z (PO.q (zY (own:=["_law_one","_law_other"]) (fr:=[]) (T:= .tp [0,1]) h1.calm (h1.compOk (fr:=[]) ⋯) ⋯ (PIF.c (yq h1 ⋯ J (zb 0 (h1.var ⋯)) (zb 2 (h1.var ⋯)))) (λfp s2 H2=>have h2:=h1.cq ["_law_one","_law_other"] [] fp s2 H2 ⋯;h2.tgts (zL (h2.tgt 0 ⋯) (zL (h2.tgt 1 ⋯) jK))) (λfp s2 H2=>have h2:=h1.cq ["_law_one","_law_other"] [] fp s2 H2 ⋯;jJ (zb 0 (h2.var ⋯)) (zb 1 (h2.var ⋯)))))) (zb 1 (h1.var ⋯)))))))
theorem ok_law_all_k22(D:DefAt K mg "_law_all" (top 27) ["_law_p","_law_long"])(z:mg "range" = none):FnD P w K mg base 1 "_law_all" 2 F_law_all_k22:=
 ky (N:=["_law_p","_law_long","_law_loads_here","_law_k","_law_more","_law_load"]) D ⋯ λX J hw M hm O h0 I=>by
  subst J hw M hm O;exact(by refine ze ?_ ?_;exact(zQ 2 (h0.set 2 ⋯ (PO.v (qW (yP (zc (xB (yP zl)) zl))))));refine ze ?_ ?_;exact(jY (T:= .nm 3) (jL I) h0.calm (jf h0 ⋯ z (zb 1 (h0.var ⋯))) (h0.tgt 3 ⋯) ((by refine ze ?_ ?_;exact(qC 4 (h0.set 4 ⋯ (qW (yP zl))));refine ze ?_ ?_;exact(jY (T:= .nm 5) (jL I) h0.calm (YB (zb 2 (h0.var ⋯))) (h0.tgt 5 ⋯) (zm (dc 4 h0 ⋯ (zY (own:=["_law_x"]) (fr:=[("_law_load",5)]) (T:= .nm 0) h0.calm (h0.compOk (fr:=[("_law_load",5)]) ⋯) ⋯ (PIF.c (jf h0 ⋯ z (zb 0 (h0.var ⋯)))) (λfp s2 H2=>have h1:=h0.cq ["_law_x"] [("_law_load",5)] fp s2 H2 ⋯;h1.tgt 0 ⋯) (λfp s2 H2=>have h1:=h0.cq ["_law_x"] [("_law_load",5)] fp s2 H2 ⋯;jR (zb 1 (h1.var ⋯)) (xB (yP (zc (zb 0 (h1.var ⋯)) zl))))))));exact(zm (Qi 4 (zQ 2 (h0.set 2 ⋯ (zb 4 (h0.var ⋯)))))))));exact(zm (qD 2 (h0.var ⋯))))
theorem ok_law_next(D:DefAt K mg "_law_next" (top 39) ["_law_p","_law_row_here","_law_base_here","_law_k","_law_forth"])(J:FnD P w K mg base 1 "_law_span" 3 F_law_span)(z:FnD P w K mg base 2 "_law_base" 3 F_law_base_k22)(I:FnD P w K mg base 1 "_law_led" 3 F_law_led_k22)(M:FnD P w K mg base 1 "_law_all" 2 F_law_all_k22):FnD P w K mg base 3 "_law_next" 5 F_law_next:=
 ky (N:=["_law_p","_law_row_here","_law_base_here","_law_k","_law_forth","_law_way","_law_table","_law_span_here"]) D ⋯ λX O hw Y hm hb h0 hx=>by
  subst O hw Y hm hb;exact(by refine ze ?_ ?_;exact(Xd (T:= .tp [5,6]) (h0.tgts (zL (h0.tgt 5 ⋯) (zL (h0.tgt 6 ⋯) jK))) (zO (PV.q (zO (zq 1 (h0.var ⋯)) zg)) (zb 3 (h0.var ⋯))));refine ze ?_ ?_;exact(qV (qA h0 (cX h0 (zb 5 (h0.var ⋯)) wG) (zb 4 (h0.var ⋯))) (zm (qM (km z ⋯ h0 ⋯ (zc (zb 0 (h0.var ⋯)) (zc (zO (zq 6 (h0.var ⋯)) zg) (zc (PO.v (zY (own:=["_law_load"]) (fr:=[("_law_p",0),("_law_table",6)]) (T:= .nm 0) h0.calm (h0.compOk (fr:=[("_law_p",0),("_law_table",6)]) ⋯) ⋯ (zZ (zq 2 (h0.var ⋯))) (λfp s2 H2=>have h1:=h0.cq ["_law_load"] [("_law_p",0),("_law_table",6)] fp s2 H2 ⋯;h1.tgt 0 ⋯) (λfp s2 H2=>have h1:=h0.cq ["_law_load"] [("_law_p",0),("_law_table",6)] fp s2 H2 ⋯;jF I ⋯ h1 ⋯ (zc (zb 1 (h1.var ⋯)) (zc (zO (zq 2 (h1.var ⋯)) zg) (zc (zb 0 (h1.var ⋯)) zl)))))) zl)))))) jN);refine ze ?_ ?_;exact(zQ 7 (h0.set 7 ⋯ (jF J ⋯ h0 ⋯ (zc (zb 0 (h0.var ⋯)) (zc (zO (zq 6 (h0.var ⋯)) zg) (zc (zb 2 (h0.var ⋯)) zl))))));exact(zm (qM (km z ⋯ h0 ⋯ (zc (zb 0 (h0.var ⋯)) (zc (zO (zq 6 (h0.var ⋯)) zg) (zc (PO.v (xD (own:=["_law_load"]) (fr:=[("_law_p",0),("_law_table",6),("_law_span_here",7)]) (T:= .nm 0) h0.calm (h0.compOk (fr:=[("_law_p",0),("_law_table",6),("_law_span_here",7)]) ⋯) ⋯ (zZ (PV.q (jF M ⋯ h0 ⋯ (zc (zb 0 (h0.var ⋯)) (zc (zO (zq 6 (h0.var ⋯)) zg) zl))))) (λfp s2 H2=>have h1:=h0.cq ["_law_load"] [("_law_p",0),("_law_table",6),("_law_span_here",7)] fp s2 H2 ⋯;h1.tgt 0 ⋯) (λfp s2 H2=>have h1:=h0.cq ["_law_load"] [("_law_p",0),("_law_table",6),("_law_span_here",7)] fp s2 H2 ⋯;da h1 (jF I ⋯ h1 ⋯ (zc (zb 1 (h1.var ⋯)) (zc (zO (zq 2 (h1.var ⋯)) zg) (zc (zb 0 (h1.var ⋯)) zl)))) (zb 3 (h1.var ⋯))) (λfp s2 H2=>have h1:=h0.cq ["_law_load"] [("_law_p",0),("_law_table",6),("_law_span_here",7)] fp s2 H2 ⋯;zb 0 (h1.var ⋯)))) zl)))))))
theorem ok_law_due_21(D:DefAt K mg "_law_due" (top 40) ["_law_p","_law_row_here","_law_base_here","_law_i","_law_j"])(z:FnD P w K mg base 3 "_law_next" 5 F_law_next)(I:mg "range" = none):FnD P w K mg base 4 "_law_due" 5 F_law_due_21:=
 ky (N:=["_law_p","_law_row_here","_law_base_here","_law_i","_law_j","_law_k"]) D ⋯ λX M hw O hm Y h0 J=>by
  subst M hw O hm Y;exact(by refine ze ?_ ?_;exact(jY (T:= .nm 5) (jL J) h0.calm (yO h0 ⋯ I (zb 3 (h0.var ⋯)) (zb 4 (h0.var ⋯))) (h0.tgt 5 ⋯) (zm (zQ 2 (h0.set 2 ⋯ (PO.v (km z ⋯ h0 ⋯ (zc (zb 0 (h0.var ⋯)) (zc (zb 1 (h0.var ⋯)) (zc (zb 2 (h0.var ⋯)) (zc (zb 5 (h0.var ⋯)) (zc vm zl)))))))))));refine ze ?_ ?_;exact(jY (T:= .nm 5) (jL J) h0.calm (Xf h0 ⋯ I (qU (zb 3 (h0.var ⋯)) zg) (qU (zb 4 (h0.var ⋯)) zg) (aX zg)) (h0.tgt 5 ⋯) (zm (zQ 2 (h0.set 2 ⋯ (PO.v (km z ⋯ h0 ⋯ (zc (zb 0 (h0.var ⋯)) (zc (zb 1 (h0.var ⋯)) (zc (zb 2 (h0.var ⋯)) (zc (zb 5 (h0.var ⋯)) (zc vm zl)))))))))));exact(zm (qD 2 (h0.var ⋯))))
theorem ok_law_bars_23(D:DefAt K mg "_law_bars" (top 35) ["_law_script","_law_at","_law_many","_law_rooms"])(z:FnD P w K mg base 1 "_law_cell" 2 F_law_cell)(I:mg "range" = none)(J:mg "sorted" = none):FnD P w K mg base 2 "_law_bars" 4 F_law_bars_23:=
 ky (N:=["_law_script","_law_at","_law_many","_law_rooms","_law_some","_law_k","_law_cell_here","_law_i"]) D ⋯ λX M hw O hm Y h0 hx=>by
  subst M hw O hm Y;exact(by refine ze ?_ ?_;exact(qC 4 (h0.set 4 ⋯ (qW (yP zl))));refine ze ?_ ?_;exact(jY (T:= .nm 5) (jL hx) h0.calm (jf h0 ⋯ I (zb 2 (h0.var ⋯))) (h0.tgt 5 ⋯) ((by refine ze ?_ ?_;exact(zQ 6 (h0.set 6 ⋯ (jF z ⋯ h0 ⋯ (zc (zb 0 (h0.var ⋯)) (zc (jR (zb 1 (h0.var ⋯)) (zb 5 (h0.var ⋯))) zl)))));refine ze ?_ ?_;exact(zQ 7 (h0.set 7 ⋯ (jd (zb 6 (h0.var ⋯)) (zb 3 (h0.var ⋯)))));exact(zm (Qj 4 h0 ⋯ (xB (yP (zc (zb 7 (h0.var ⋯)) (zc (jR (zb 7 (h0.var ⋯)) (jd (xC (zb 6 (h0.var ⋯)) (zb 3 (h0.var ⋯))) (qU (zb 3 (h0.var ⋯)) (zb 7 (h0.var ⋯))))) zl)))))))));exact(zm (qM (Ww h0 ⋯ J (zq 4 (h0.var ⋯))))))
theorem ok_law_loads_21(D:DefAt K mg "_law_loads" (top 31) ["_law_script","_law_at","_law_p","_law_long"])(z:FnD P w K mg base 1 "_law_cell" 2 F_law_cell)(I:mg "range" = none)(J:mg "tuple" = none):FnD P w K mg base 2 "_law_loads" 4 F_law_loads_21:=
 ky (N:=["_law_script","_law_at","_law_p","_law_long","_law_loads_here","_law_k"]) D ⋯ λX M hw O hm Y h0 hx=>by
  subst M hw O hm Y;exact(by refine ze ?_ ?_;exact(qC 4 (h0.set 4 ⋯ (qW (yP zl))));refine ze ?_ ?_;exact(jY (T:= .nm 5) (jL hx) h0.calm (jf h0 ⋯ I (jd (jF z ⋯ h0 ⋯ (zc (zb 0 (h0.var ⋯)) (zc (zb 1 (h0.var ⋯)) zl))) zg)) (h0.tgt 5 ⋯) (zm (Qj 4 h0 ⋯ (jG h0 ⋯ J (PO.q (zY (own:=["_law_j"]) (fr:=[("_law_script",0),("_law_at",1),("_law_p",2),("_law_k",5)]) (T:= .nm 0) h0.calm (h0.compOk (fr:=[("_law_script",0),("_law_at",1),("_law_p",2),("_law_k",5)]) ⋯) ⋯ (PIF.c (jf h0 ⋯ I (zb 3 (h0.var ⋯)))) (λfp s2 H2=>have h1:=h0.cq ["_law_j"] [("_law_script",0),("_law_at",1),("_law_p",2),("_law_k",5)] fp s2 H2 ⋯;h1.tgt 0 ⋯) (λfp s2 H2=>have h1:=h0.cq ["_law_j"] [("_law_script",0),("_law_at",1),("_law_p",2),("_law_k",5)] fp s2 H2 ⋯;jd (xC (jF z ⋯ h1 ⋯ (zc (zb 1 (h1.var ⋯)) (zc (jR (jR (jR (zb 2 (h1.var ⋯)) zg) (jJ zg (zb 4 (h1.var ⋯)))) (zb 0 (h1.var ⋯))) zl))) zg) (zb 3 (h1.var ⋯)))))))));exact(zm (qD 4 (h0.var ⋯))))
theorem ok_law_whole(D:DefAt K mg "_law_whole" (top 29) ["_law_found"])(I:mg "bool" = none)(J:mg "int" = none)(z:mg "isinstance" = none):FnD P w K mg base 1 "_law_whole" 1 F_law_whole:=
 ky (N:=["_law_found"]) D ⋯ λX M hw O hm Y h0 hx=>by
  subst M hw O hm Y;exact zm (jo (gN (Ym h0 ⋯ z ⋯ J (zb 0 (h0.var ⋯))) (gG (gH (Kj h0 ⋯ z ⋯ I (zb 0 (h0.var ⋯)))))))
theorem ok_law_is_base_k22(D:DefAt K mg "_law_is_base" (top 30) ["_law_found","_law_due_here"])(J:FnD P w K mg base 1 "_law_whole" 1 F_law_whole)(M:mg "all" = none)(z:mg "isinstance" = none)(I:mg "len" = none)(O:mg "list" = none)(Y:mg "tuple" = none)(a0:mg "zip" = none):FnD P w K mg base 2 "_law_is_base" 2 F_law_is_base_k22:=
 ky (N:=["_law_found","_law_due_here","_law_one","_law_other"]) D ⋯ λX hP hw hK hm hb h0 hx=>by
  subst hP hw hK hm hb;exact(by refine ze ?_ ?_;exact(qV (Zm (Jm (kl (k8 (Ki h0 ⋯ z ⋯ O (zb 0 (h0.var ⋯))))) (Zj (yo h0 (x9 h0 ⋯ I (zq 0 (h0.var ⋯))) (x9 h0 ⋯ I (zq 1 (h0.var ⋯))))))) (zm (jo vm)) jN);refine ze ?_ ?_;exact(jY (T:= .tp [2,3]) (jL hx) h0.calm (yq h0 ⋯ a0 (zb 0 (h0.var ⋯)) (zb 1 (h0.var ⋯))) (h0.tgts (zL (h0.tgt 2 ⋯) (zL (h0.tgt 3 ⋯) jK))) (zm (qV (Zm (Jm (kl (k8 (Qf h0 ⋯ z ⋯ Y (zb 2 (h0.var ⋯))))) (Jm (kl (k8 (aY h0 ⋯ M (PO.q (zY (own:=["_law_number"]) (fr:=[]) (T:= .nm 0) h0.calm (h0.compOk (fr:=[]) ⋯) ⋯ (zZ (zq 2 (h0.var ⋯))) (λfp s2 H2=>have h1:=h0.cq ["_law_number"] [] fp s2 H2 ⋯;h1.tgt 0 ⋯) (λfp s2 H2=>have h1:=h0.cq ["_law_number"] [] fp s2 H2 ⋯;jF J ⋯ h1 ⋯ (zc (zb 0 (h1.var ⋯)) zl))))))) (Zj (yo h0 (zb 2 (h0.var ⋯)) (zb 3 (h0.var ⋯))))))) (zm (jo vm)) jN)));exact(zm (jo vm)))
theorem ok_rests(D:DefAt K mg "rests" (top 4) ["p","numbers"])(z:mg "tuple" = none):FnD P w K mg base 1 "rests" 2 F_rests:=
 ky (N:=["p","numbers"]) D ⋯ λX I hw J hm M h0 O=>by
  subst I hw J hm M;exact zm (jo (jG h0 ⋯ z (PO.q (zY (own:=["x"]) (fr:=[("p",0)]) (T:= .nm 0) h0.calm (h0.compOk (fr:=[("p",0)]) ⋯) ⋯ (zZ (zq 1 (h0.var ⋯))) (λfp s2 H2=>have h1:=h0.cq ["x"] [("p",0)] fp s2 H2 ⋯;h1.tgt 0 ⋯) (λfp s2 H2=>have h1:=h0.cq ["x"] [("p",0)] fp s2 H2 ⋯;jd (zb 0 (h1.var ⋯)) (zb 1 (h1.var ⋯)))))))
theorem ok_inverse(D:DefAt K mg "inverse" (top 5) ["p","x"])(z:mg "range" = none):FnD P w K mg base 1 "inverse" 2 F_inverse:=
 ky (N:=["p","x","y"]) D ⋯ λX I hw J hm M h0 O=>by
  subst I hw J hm M;exact(by refine ze ?_ ?_;exact(jY (T:= .nm 2) (jL O) h0.calm (yO h0 ⋯ z zg (zb 0 (h0.var ⋯))) (h0.tgt 2 ⋯) (zm (qV (qA h0 (jd (jJ (zb 1 (h0.var ⋯)) (zb 2 (h0.var ⋯))) (zb 0 (h0.var ⋯))) zg) (zm (qD 2 (h0.var ⋯))) jN)));exact(zm Yv))
theorem ok_cleared(D:DefAt K mg "cleared" (top 10) ["p","load","pivot","place"])(z:FnD P w K mg base 1 "rests" 2 F_rests)(I:mg "zip" = none):FnD P w K mg base 2 "cleared" 4 F_cleared:=
 ky (N:=["p","load","pivot","place","much"]) D ⋯ λX J hw M hm O h0 Y=>by
  subst J hw M hm O;exact(by refine ze ?_ ?_;exact(zQ 4 (h0.set 4 ⋯ (zO (zq 1 (h0.var ⋯)) (zb 3 (h0.var ⋯)))));refine ze ?_ ?_;exact(qV (qA h0 (zb 4 (h0.var ⋯)) zg) (zm (qD 1 (h0.var ⋯))) jN);exact(zm (jo (jF z ⋯ h0 ⋯ (zc (zb 0 (h0.var ⋯)) (zc (PO.v (zY (own:=["x","y"]) (fr:=[("much",4)]) (T:= .tp [0,1]) h0.calm (h0.compOk (fr:=[("much",4)]) ⋯) ⋯ (PIF.c (yq h0 ⋯ I (zb 1 (h0.var ⋯)) (zb 2 (h0.var ⋯)))) (λfp s2 H2=>have h1:=h0.cq ["x","y"] [("much",4)] fp s2 H2 ⋯;h1.tgts (zL (h1.tgt 0 ⋯) (zL (h1.tgt 1 ⋯) jK))) (λfp s2 H2=>have h1:=h0.cq ["x","y"] [("much",4)] fp s2 H2 ⋯;qU (zb 0 (h1.var ⋯)) (jJ (zb 2 (h1.var ⋯)) (zb 1 (h1.var ⋯)))))) zl))))))
theorem ok_base_of(D:DefAt K mg "base_of" (top 11) ["p","long","loads"])(z:FnD P w K mg base 1 "rests" 2 F_rests)(J:FnD P w K mg base 1 "inverse" 2 F_inverse)(I:FnD P w K mg base 2 "cleared" 4 F_cleared)(M:mg "range" = none):FnD P w K mg base 3 "base_of" 3 F_base_of:=
 ky (N:=["p","long","loads","left","base","place","leading","times","pivot"]) D ⋯ λX O hw Y hm hb h0 hx=>by
  subst O hw Y hm hb;exact(by refine ze ?_ ?_;exact(jW 3 (psc 3 h0 ⋯ (own:=["load"]) (fr:=[("p",0)]) (T:= .nm 0) h0.calm (h0.compOk (fr:=[("p",0)]) ⋯) ⋯ (zZ (zq 2 (h0.var ⋯))) (λfp s2 H2=>have h1:=h0.cq ["load"] [("p",0)] fp s2 H2 ⋯;h1.tgt 0 ⋯) (λfp s2 H2=>have h1:=h0.cq ["load"] [("p",0)] fp s2 H2 ⋯;jF z ⋯ h1 ⋯ (zc (zb 1 (h1.var ⋯)) (zc (zb 0 (h1.var ⋯)) zl)))));refine ze ?_ ?_;exact(qC 4 (h0.set 4 ⋯ (qW (yP zl))));refine ze ?_ ?_;exact(jY (T:= .nm 5) (jL hx) h0.calm (jf h0 ⋯ M (zb 1 (h0.var ⋯))) (h0.tgt 5 ⋯) ((by refine ze ?_ ?_;exact(jW 6 (gQ 6 h0 ⋯ (own:=["load"]) (fr:=[("place",5)]) (T:= .nm 0) h0.calm (h0.compOk (fr:=[("place",5)]) ⋯) ⋯ (zZ (zq 3 (h0.var ⋯))) (λfp s2 H2=>have h1:=h0.cq ["load"] [("place",5)] fp s2 H2 ⋯;h1.tgt 0 ⋯) (λfp s2 H2=>have h1:=h0.cq ["load"] [("place",5)] fp s2 H2 ⋯;yo h1 (zO (zq 0 (h1.var ⋯)) (zb 1 (h1.var ⋯))) zg) (λfp s2 H2=>have h1:=h0.cq ["load"] [("place",5)] fp s2 H2 ⋯;zb 0 (h1.var ⋯))));refine ze ?_ ?_;exact(qV (kl (Wq (zq 6 (h0.var ⋯)))) (zm Jq) jN);refine ze ?_ ?_;exact(zQ 7 (h0.set 7 ⋯ (jF J ⋯ h0 ⋯ (zc (zb 0 (h0.var ⋯)) (zc (zO (PV.q (zO (zq 6 (h0.var ⋯)) zg)) (zb 5 (h0.var ⋯))) zl)))));refine ze ?_ ?_;exact(zQ 8 (h0.set 8 ⋯ (jF z ⋯ h0 ⋯ (zc (zb 0 (h0.var ⋯)) (zc (PO.v (zY (own:=["x"]) (fr:=[("times",7)]) (T:= .nm 0) h0.calm (h0.compOk (fr:=[("times",7)]) ⋯) ⋯ (zZ (PV.q (zO (zq 6 (h0.var ⋯)) zg))) (λfp s2 H2=>have h1:=h0.cq ["x"] [("times",7)] fp s2 H2 ⋯;h1.tgt 0 ⋯) (λfp s2 H2=>have h1:=h0.cq ["x"] [("times",7)] fp s2 H2 ⋯;jJ (zb 1 (h1.var ⋯)) (zb 0 (h1.var ⋯))))) zl)))));refine ze ?_ ?_;exact(jW 3 (psc 3 h0 ⋯ (own:=["load"]) (fr:=[("p",0),("place",5),("pivot",8)]) (T:= .nm 0) h0.calm (h0.compOk (fr:=[("p",0),("place",5),("pivot",8)]) ⋯) ⋯ (zZ (zq 3 (h0.var ⋯))) (λfp s2 H2=>have h1:=h0.cq ["load"] [("p",0),("place",5),("pivot",8)] fp s2 H2 ⋯;h1.tgt 0 ⋯) (λfp s2 H2=>have h1:=h0.cq ["load"] [("p",0),("place",5),("pivot",8)] fp s2 H2 ⋯;jF I ⋯ h1 ⋯ (zc (zb 1 (h1.var ⋯)) (zc (zb 0 (h1.var ⋯)) (zc (zb 3 (h1.var ⋯)) (zc (zb 2 (h1.var ⋯)) zl)))))));exact(zm (qC 4 (h0.set 4 ⋯ (Yx (PO.q (zY (own:=["load"]) (fr:=[("p",0),("place",5),("pivot",8)]) (T:= .nm 0) h0.calm (h0.compOk (fr:=[("p",0),("place",5),("pivot",8)]) ⋯) ⋯ (zZ (zq 4 (h0.var ⋯))) (λfp s2 H2=>have h1:=h0.cq ["load"] [("p",0),("place",5),("pivot",8)] fp s2 H2 ⋯;h1.tgt 0 ⋯) (λfp s2 H2=>have h1:=h0.cq ["load"] [("p",0),("place",5),("pivot",8)] fp s2 H2 ⋯;jF I ⋯ h1 ⋯ (zc (zb 1 (h1.var ⋯)) (zc (zb 0 (h1.var ⋯)) (zc (zb 3 (h1.var ⋯)) (zc (zb 2 (h1.var ⋯)) zl))))))) (PO.q (qW (yP (zc (zb 8 (h0.var ⋯)) zl)))))))))));exact(zm (qD 4 (h0.var ⋯))))
theorem ok_led(D:DefAt K mg "led" (top 6) ["p","table","load"])(z:FnD P w K mg base 1 "rests" 2 F_rests)(I:mg "sum" = none)(J:mg "zip" = none):FnD P w K mg base 2 "led" 3 F_led:=
 ky (N:=["p","table","load"]) D ⋯ λX M hw O hm Y h0 hx=>by
  subst M hw O hm Y;exact zm (jo (jF z ⋯ h0 ⋯ (zc (zb 0 (h0.var ⋯)) (zc (PO.v (zY (own:=["row"]) (fr:=[("load",2)]) (T:= .nm 0) h0.calm (h0.compOk (fr:=[("load",2)]) ⋯) ⋯ (zZ (PV.q (zO (zq 1 (h0.var ⋯)) zg))) (λfp s2 H2=>have h1:=h0.cq ["row"] [("load",2)] fp s2 H2 ⋯;h1.tgt 0 ⋯) (λfp s2 H2=>have h1:=h0.cq ["row"] [("load",2)] fp s2 H2 ⋯;aU h1 ⋯ I (PO.q (zY (own:=["x","y"]) (fr:=[]) (T:= .tp [0,1]) h1.calm (h1.compOk (fr:=[]) ⋯) ⋯ (PIF.c (yq h1 ⋯ J (zb 0 (h1.var ⋯)) (zb 1 (h1.var ⋯)))) (λfp s2 H2=>have h2:=h1.cq ["x","y"] [] fp s2 H2 ⋯;h2.tgts (zL (h2.tgt 0 ⋯) (zL (h2.tgt 1 ⋯) jK))) (λfp s2 H2=>have h2:=h1.cq ["x","y"] [] fp s2 H2 ⋯;jJ (zb 0 (h2.var ⋯)) (zb 1 (h2.var ⋯)))))))) zl))))
theorem ok_led_on(D:DefAt K mg "led_on" (top 13) ["p","table","base"])(z:FnD P w K mg base 3 "base_of" 3 F_base_of)(I:FnD P w K mg base 2 "led" 3 F_led):FnD P w K mg base 4 "led_on" 3 F_led_on:=
 ky (N:=["p","table","base"]) D ⋯ λX J hw M hm O h0 Y=>by
  subst J hw M hm O;exact zm (qM (km z ⋯ h0 ⋯ (zc (zb 0 (h0.var ⋯)) (zc (zO (zq 1 (h0.var ⋯)) zg) (zc (PO.v (zY (own:=["load"]) (fr:=[("p",0),("table",1)]) (T:= .nm 0) h0.calm (h0.compOk (fr:=[("p",0),("table",1)]) ⋯) ⋯ (zZ (zq 2 (h0.var ⋯))) (λfp s2 H2=>have h1:=h0.cq ["load"] [("p",0),("table",1)] fp s2 H2 ⋯;h1.tgt 0 ⋯) (λfp s2 H2=>have h1:=h0.cq ["load"] [("p",0),("table",1)] fp s2 H2 ⋯;jF I ⋯ h1 ⋯ (zc (zb 1 (h1.var ⋯)) (zc (zb 2 (h1.var ⋯)) (zc (zb 0 (h1.var ⋯)) zl)))))) zl)))))
theorem ok_behind_noughts(D:DefAt K mg "behind_noughts" (top 12) ["many","base"])(z:mg "any" = none):FnD P w K mg base 1 "behind_noughts" 2 F_behind_noughts:=
 ky (N:=["many","base"]) D ⋯ λX I hw J hm M h0 O=>by
  subst I hw J hm M;exact zm (qM (xD (own:=["load"]) (fr:=[("many",0)]) (T:= .nm 0) h0.calm (h0.compOk (fr:=[("many",0)]) ⋯) ⋯ (zZ (zq 1 (h0.var ⋯))) (λfp s2 H2=>have h1:=h0.cq ["load"] [("many",0)] fp s2 H2 ⋯;h1.tgt 0 ⋯) (λfp s2 H2=>have h1:=h0.cq ["load"] [("many",0)] fp s2 H2 ⋯;kl (k8 (gM h1 ⋯ z (PV.q (aV (zb 0 (h1.var ⋯)) YI (YH (zb 1 (h1.var ⋯)))))))) (λfp s2 H2=>have h1:=h0.cq ["load"] [("many",0)] fp s2 H2 ⋯;aV (zb 0 (h1.var ⋯)) (YH (zb 1 (h1.var ⋯))) YI)))
theorem ok_turned_over(D:DefAt K mg "turned_over" (top 7) ["table"])(I:mg "range" = none)(z:mg "tuple" = none):FnD P w K mg base 1 "turned_over" 1 F_turned_over:=
 ky (N:=["table","columns"]) D ⋯ λX J hw M hm O h0 Y=>by
  subst J hw M hm O;exact(by refine ze ?_ ?_;exact(jW 1 (psc 1 h0 ⋯ (own:=["j"]) (fr:=[("table",0)]) (T:= .nm 0) h0.calm (h0.compOk (fr:=[("table",0)]) ⋯) ⋯ (PIF.c (jf h0 ⋯ I (zO (zq 0 (h0.var ⋯)) zg))) (λfp s2 H2=>have h1:=h0.cq ["j"] [("table",0)] fp s2 H2 ⋯;h1.tgt 0 ⋯) (λfp s2 H2=>have h1:=h0.cq ["j"] [("table",0)] fp s2 H2 ⋯;jG h1 ⋯ z (PO.q (zY (own:=["row"]) (fr:=[("j",0)]) (T:= .nm 0) h1.calm (h1.compOk (fr:=[("j",0)]) ⋯) ⋯ (zZ (PV.q (zO (zq 1 (h1.var ⋯)) zg))) (λfp s2 H2=>have h2:=h1.cq ["row"] [("j",0)] fp s2 H2 ⋯;h2.tgt 0 ⋯) (λfp s2 H2=>have h2:=h1.cq ["row"] [("j",0)] fp s2 H2 ⋯;zO (zq 0 (h2.var ⋯)) (zb 1 (h2.var ⋯))))))));exact(zm (jo (xB (yP (zc (zO (zq 0 (h0.var ⋯)) zg) (zc (zO (zq 0 (h0.var ⋯)) zg) (zc (jG h0 ⋯ z (zq 1 (h0.var ⋯))) zl))))))))
theorem ok_same_table(D:DefAt K mg "same_table" (top 8) ["many"])(z:mg "range" = none)(I:mg "tuple" = none):FnD P w K mg base 1 "same_table" 1 F_same_table:=
 ky (N:=["many","rows"]) D ⋯ λX J hw M hm O h0 Y=>by
  subst J hw M hm O;exact(by refine ze ?_ ?_;exact(jW 1 (psc 1 h0 ⋯ (own:=["i"]) (fr:=[("many",0)]) (T:= .nm 0) h0.calm (h0.compOk (fr:=[("many",0)]) ⋯) ⋯ (PIF.c (jf h0 ⋯ z (zb 0 (h0.var ⋯)))) (λfp s2 H2=>have h1:=h0.cq ["i"] [("many",0)] fp s2 H2 ⋯;h1.tgt 0 ⋯) (λfp s2 H2=>have h1:=h0.cq ["i"] [("many",0)] fp s2 H2 ⋯;jG h1 ⋯ I (PO.q (zY (own:=["j"]) (fr:=[("i",0)]) (T:= .nm 0) h1.calm (h1.compOk (fr:=[("i",0)]) ⋯) ⋯ (PIF.c (jf h1 ⋯ z (zb 1 (h1.var ⋯)))) (λfp s2 H2=>have h2:=h1.cq ["j"] [("i",0)] fp s2 H2 ⋯;h2.tgt 0 ⋯) (λfp s2 H2=>have h2:=h1.cq ["j"] [("i",0)] fp s2 H2 ⋯;Xa (qA h2 (zb 1 (h2.var ⋯)) (zb 0 (h2.var ⋯))) zg zg))))));exact(zm (jo (xB (yP (zc (zb 0 (h0.var ⋯)) (zc (zb 0 (h0.var ⋯)) (zc (jG h0 ⋯ I (zq 1 (h0.var ⋯))) zl))))))))
theorem ok_led_into(D:DefAt K mg "led_into" (top 14) ["p","table","base"])(z:FnD P w K mg base 1 "behind_noughts" 2 F_behind_noughts)(I:FnD P w K mg base 3 "base_of" 3 F_base_of)(J:FnD P w K mg base 1 "turned_over" 1 F_turned_over)(M:FnD P w K mg base 1 "same_table" 1 F_same_table)(O:mg "zip" = none):FnD P w K mg base 4 "led_into" 3 F_led_into:=
 ky (N:=["p","table","base","pairs","free"]) D ⋯ λX Y hw hK hm hb h0 hx=>by
  subst Y hw hK hm hb;exact(by refine ze ?_ ?_;exact(jW 3 (psc 3 h0 ⋯ (own:=["column","unit"]) (fr:=[]) (T:= .tp [0,1]) h0.calm (h0.compOk (fr:=[]) ⋯) ⋯ (PIF.c (yq h0 ⋯ O (zO (PV.q (jF J ⋯ h0 ⋯ (zc (zb 1 (h0.var ⋯)) zl))) zg) (zO (PV.q (jF M ⋯ h0 ⋯ (zc (zO (zq 1 (h0.var ⋯)) zg) zl))) zg))) (λfp s2 H2=>have h1:=h0.cq ["column","unit"] [] fp s2 H2 ⋯;h1.tgts (zL (h1.tgt 0 ⋯) (zL (h1.tgt 1 ⋯) jK))) (λfp s2 H2=>have h1:=h0.cq ["column","unit"] [] fp s2 H2 ⋯;jR (zb 0 (h1.var ⋯)) (zb 1 (h1.var ⋯)))));refine ze ?_ ?_;exact(jW 4 (psc 4 h0 ⋯ (own:=["load"]) (fr:=[("table",1)]) (T:= .nm 0) h0.calm (h0.compOk (fr:=[("table",1)]) ⋯) ⋯ (zZ (zq 2 (h0.var ⋯))) (λfp s2 H2=>have h1:=h0.cq ["load"] [("table",1)] fp s2 H2 ⋯;h1.tgt 0 ⋯) (λfp s2 H2=>have h1:=h0.cq ["load"] [("table",1)] fp s2 H2 ⋯;jR (zb 0 (h1.var ⋯)) (jJ (xB (yP (zc zg zl))) (zO (zq 1 (h1.var ⋯)) zg)))));exact(zm (qM (km z ⋯ h0 ⋯ (zc (zO (zq 1 (h0.var ⋯)) zg) (zc (PO.v (km I ⋯ h0 ⋯ (zc (zb 0 (h0.var ⋯)) (zc (jR (zO (zq 1 (h0.var ⋯)) zg) (zO (zq 1 (h0.var ⋯)) zg)) (zc (PO.v (Yx (zq 3 (h0.var ⋯)) (zq 4 (h0.var ⋯)))) zl))))) zl))))))
theorem ok_arrow_by(D:DefAt K mg "arrow_by" (top 19) ["p","way","table"])(z:NewAt P w K mg base 1 "Right" CR)(I:NewAt P w K mg base 1 "Left" CL):FnD P w K mg base 3 "arrow_by" 3 F_arrow_by:=
 ky (N:=["p","way","table"]) D ⋯ λX J hw M hm O h0 Y=>by
  subst J hw M hm O;exact zm (jo (Xa (qA h0 (zb 1 (h0.var ⋯)) wG) (aW z h0 (zb 0 (h0.var ⋯)) (zb 2 (h0.var ⋯))) (aW I h0 (zb 0 (h0.var ⋯)) (zb 2 (h0.var ⋯)))))
theorem ok_arrow_at(D:DefAt K mg "arrow_at" (top 20) ["row","k"])(z:FnD P w K mg base 3 "arrow_by" 3 F_arrow_by):FnD P w K mg base 4 "arrow_at" 2 F_arrow_at:=
 ky (N:=["row","k","arrow"]) D ⋯ λX I hw J hm M h0 O=>by
  subst I hw J hm M;exact(by refine ze ?_ ?_;exact(zQ 2 (h0.set 2 ⋯ (zO (PV.q (zO (zq 0 (h0.var ⋯)) zg)) (zb 1 (h0.var ⋯)))));exact(zm (jo (jF z ⋯ h0 ⋯ (zc (zO (zq 0 (h0.var ⋯)) zg) (zc (zO (zq 2 (h0.var ⋯)) zg) (zc (zO (zq 2 (h0.var ⋯)) zg) zl)))))))
theorem ok_carried(D:DefAt K mg "carried" (top 21) ["row","base","i","j"])(a5:FnD P w K mg base 4 "led_on" 3 F_led_on)(a6:FnD P w K mg base 4 "led_into" 3 F_led_into)(z:FnD P w K mg base 4 "arrow_at" 2 F_arrow_at)(M:mg "list" = none)(I:mg "range" = none)(O:MethB P w K mg base 5 "Right" "forth" F_led_on)(Y:MethB P w K mg base 5 "Left" "forth" F_led_into)(a0:MethB P w K mg base 5 "Right" "back" F_led_into)(a1:MethB P w K mg base 5 "Left" "back" F_led_on):FnD P w K mg base 6 "carried" 4 F_carried:=
 ky (N:=["row","base","i","j","there","k"]) D ⋯ λX hP hw hK hm hb h0 J=>by
  subst hP hw hK hm hb;exact(by refine ze ?_ ?_;exact(qC 4 (h0.set 4 ⋯ (Qm h0 ⋯ M (zq 1 (h0.var ⋯)))));refine ze ?_ ?_;exact(jY (T:= .nm 5) (jL J) h0.calm (yO h0 ⋯ I (zb 2 (h0.var ⋯)) (zb 3 (h0.var ⋯))) (h0.tgt 5 ⋯) (zm (Qi 4 (qC 4 (h0.set 4 ⋯ (Ql O Y h0 (jF z ⋯ h0 ⋯ (zc (zb 0 (h0.var ⋯)) (zc (zb 5 (h0.var ⋯)) zl))) (zb 4 (h0.var ⋯)) iZ))))));refine ze ?_ ?_;exact(jY (T:= .nm 5) (jL J) h0.calm (Xf h0 ⋯ I (qU (zb 2 (h0.var ⋯)) zg) (qU (zb 3 (h0.var ⋯)) zg) (aX zg)) (h0.tgt 5 ⋯) (zm (Qi 4 (qC 4 (h0.set 4 ⋯ (Ql a0 a1 h0 (jF z ⋯ h0 ⋯ (zc (zb 0 (h0.var ⋯)) (zc (zb 5 (h0.var ⋯)) zl))) (zb 4 (h0.var ⋯)) nU))))));exact(zm (qD 4 (h0.var ⋯))))
theorem ok_law_arrow_right(D:DefAt K mg "_law_arrow_right" (top 41) ["_law_p","_law_row_here","_law_k"])(a5:FnD P w K mg base 4 "led_on" 3 F_led_on)(a6:FnD P w K mg base 4 "led_into" 3 F_led_into)(J:FnD P w K mg base 4 "arrow_at" 2 F_arrow_at)(M:FnD P w K mg base 2 "_law_is_base" 2 F_law_is_base_k22)(O:FnD P w K mg base 3 "_law_next" 5 F_law_next)(z:mg "isinstance" = none)(Y:MethB P w K mg base 5 "Right" "forth" F_led_on)(a0:MethB P w K mg base 5 "Left" "forth" F_led_into)(I:ClsAt K mg "Right" ["Right","Left"] ["Right"])(a1:ClsAt K mg "Left" ["Right","Left"] ["Left"]):FnD P w K mg base 6 "_law_arrow_right" 3 F_law_arrow_right:=
 ky (N:=["_law_p","_law_row_here","_law_k","_law_arrow"]) D ⋯ λX hP hw hK hm hb h0 hx=>by
  subst hP hw hK hm hb;exact(by refine ze ?_ ?_;exact(zQ 3 (h0.set 3 ⋯ (jF J ⋯ h0 ⋯ (zc (zb 1 (h0.var ⋯)) (zc (zb 2 (h0.var ⋯)) zl)))));refine ze ?_ ?_;exact(qV (Zm (Jm (yo h0 (Yn I h0 z (zb 3 (h0.var ⋯))) (cX h0 (zO (PV.q (zO (PV.q (zO (zq 1 (h0.var ⋯)) zg)) (zb 2 (h0.var ⋯)))) zg) wG)) (Zj (qA h0 (Yn a1 h0 z (zb 3 (h0.var ⋯))) (Yn I h0 z (zb 3 (h0.var ⋯))))))) (zm (jo vm)) jN);exact(zm (jo (jF M ⋯ h0 ⋯ (zc (PO.v (Ql Y a0 h0 (zb 3 (h0.var ⋯)) (PO.v (qW (yP zl))) iZ)) (zc (PO.v (km O ⋯ h0 ⋯ (zc (zb 0 (h0.var ⋯)) (zc (zb 1 (h0.var ⋯)) (zc (PO.v (qW (yP zl))) (zc (zb 2 (h0.var ⋯)) (zc vm zl))))))) zl))))))
theorem ok_law{f:Addr}{fd:FuncData}(D:L2.Fun K "law" "law" (top 42) f fd)(z:FnD P w K mg base 1 "_law_cell" 2 F_law_cell)(M:FnD P w K mg base 1 "_law_ways" 2 F_law_ways_k22)(O:FnD P w K mg base 3 "_law_built" 5 F_law_built)(Y:FnD P w K mg base 2 "_law_base" 3 F_law_base_k22)(a0:FnD P w K mg base 4 "_law_due" 5 F_law_due_21)(a1:FnD P w K mg base 2 "_law_bars" 4 F_law_bars_23)(a2:FnD P w K mg base 2 "_law_loads" 4 F_law_loads_21)(I:FnD P w K mg base 2 "_law_is_base" 2 F_law_is_base_k22)(J:FnD P w K mg base 6 "carried" 4 F_carried)(a3:FnD P w K mg base 6 "_law_arrow_right" 3 F_law_arrow_right)(a4:mg "all" = none)(a5:mg "list" = none)(a6:mg "range" = none):FnOk P w K mg base CX0 7 f fd ["_law_script"] (spF K 1 F_law_k21):=
 nW (N:=["_law_script","_law_cell_here","_law_p","_law_rooms","_law_ways_here","_law_row_here","_law_i","_law_j","_law_base_here","_law_handed","_law_due_here"]) D ⋯ λX hP hw hK hm hb h0 hx=>by
  subst hP hw hK hm hb;exact(by refine ze ?_ ?_;exact(zQ 1 (h0.set 1 ⋯ (jF z ⋯ h0 ⋯ (zc (zb 0 (h0.var ⋯)) (zc zg zl)))));refine ze ?_ ?_;exact(zQ 2 (h0.set 2 ⋯ (zO (PO.q (qW (yP (zc zg (zc zg (zc zg (zc zg zl))))))) (jd (zb 1 (h0.var ⋯)) zg))));refine ze ?_ ?_;exact(zQ 3 (h0.set 3 ⋯ (jR zg (jd (xC (zb 1 (h0.var ⋯)) zg) zg))));refine ze ?_ ?_;exact(zQ 4 (h0.set 4 ⋯ (jF M ⋯ h0 ⋯ (zc (xC (zb 1 (h0.var ⋯)) zg) (zc (zb 3 (h0.var ⋯)) zl)))));refine ze ?_ ?_;exact(zQ 5 (h0.set 5 ⋯ (jF O ⋯ h0 ⋯ (zc (zb 0 (h0.var ⋯)) (zc zg (zc (zb 2 (h0.var ⋯)) (zc (zb 4 (h0.var ⋯)) (zc (PO.v (km a1 ⋯ h0 ⋯ (zc (zb 0 (h0.var ⋯)) (zc zg (zc (jd (xC (zb 1 (h0.var ⋯)) zg) (zO (PO.q (qW (yP (zc zg (zc zg (zc zg (zc zg zl))))))) (jd (zb 1 (h0.var ⋯)) zg))) (zc (zb 3 (h0.var ⋯)) zl)))))) zl))))))));refine ze ?_ ?_;exact(zQ 6 (h0.set 6 ⋯ (jd (jF z ⋯ h0 ⋯ (zc (zb 0 (h0.var ⋯)) (zc zg zl))) (zb 3 (h0.var ⋯)))));refine ze ?_ ?_;exact(zQ 7 (h0.set 7 ⋯ (jd (xC (jF z ⋯ h0 ⋯ (zc (zb 0 (h0.var ⋯)) (zc zg zl))) zg) (zb 3 (h0.var ⋯)))));refine ze ?_ ?_;exact(zQ 8 (h0.set 8 ⋯ (PO.v (km Y ⋯ h0 ⋯ (zc (zb 2 (h0.var ⋯)) (zc (zO (PV.q (zO (zq 5 (h0.var ⋯)) zg)) (zb 6 (h0.var ⋯))) (zc (PO.v (km a2 ⋯ h0 ⋯ (zc (zb 0 (h0.var ⋯)) (zc zg (zc (zb 2 (h0.var ⋯)) (zc (zO (PV.q (zO (zq 5 (h0.var ⋯)) zg)) (zb 6 (h0.var ⋯))) zl)))))) zl)))))));refine ze ?_ ?_;exact(zQ 9 (h0.set 9 ⋯ (PO.v (Qm h0 ⋯ a5 (zq 8 (h0.var ⋯))))));refine ze ?_ ?_;exact(zQ 10 (h0.set 10 ⋯ (jF a0 ⋯ h0 ⋯ (zc (zb 2 (h0.var ⋯)) (zc (zb 5 (h0.var ⋯)) (zc (zb 8 (h0.var ⋯)) (zc (zb 6 (h0.var ⋯)) (zc (zb 7 (h0.var ⋯)) zl))))))));refine ze ?_ ?_;exact(qV (Zm (Jm (kl (k8 (jF I ⋯ h0 ⋯ (zc (PO.v (km J ⋯ h0 ⋯ (zc (zb 5 (h0.var ⋯)) (zc (zb 9 (h0.var ⋯)) (zc (zb 6 (h0.var ⋯)) (zc (zb 7 (h0.var ⋯)) zl)))))) (zc (zb 10 (h0.var ⋯)) zl))))) (Zj (yo h0 (zb 9 (h0.var ⋯)) (zb 8 (h0.var ⋯)))))) (zm (jo vm)) jN);refine ze ?_ ?_;exact(qV (kl (k8 (jF I ⋯ h0 ⋯ (zc (PO.v (km J ⋯ h0 ⋯ (zc (zb 5 (h0.var ⋯)) (zc (zb 9 (h0.var ⋯)) (zc (zb 6 (h0.var ⋯)) (zc (zb 6 (h0.var ⋯)) zl)))))) (zc (zb 8 (h0.var ⋯)) zl))))) (zm (jo vm)) jN);exact(zm (jo (aY h0 ⋯ a4 (PO.q (zY (own:=["_law_k"]) (fr:=[("_law_p",2),("_law_row_here",5)]) (T:= .nm 0) h0.calm (h0.compOk (fr:=[("_law_p",2),("_law_row_here",5)]) ⋯) ⋯ (PIF.c (jf h0 ⋯ a6 (qU (zb 3 (h0.var ⋯)) zg))) (λfp s2 H2=>have h1:=h0.cq ["_law_k"] [("_law_p",2),("_law_row_here",5)] fp s2 H2 ⋯;h1.tgt 0 ⋯) (λfp s2 H2=>have h1:=h0.cq ["_law_k"] [("_law_p",2),("_law_row_here",5)] fp s2 H2 ⋯;jF a3 ⋯ h1 ⋯ (zc (zb 1 (h1.var ⋯)) (zc (zb 2 (h1.var ⋯)) (zc (zb 0 (h1.var ⋯)) zl))))))))))
theorem ok_init{f C:Addr}{fd:FuncData}(z:L2.Fun K "__init__" "Arrow.__init__" (inCls (top 16) 0) f fd)(c:ClsA K C):FnOk P w K mg base CX0 1 f fd ["self","p","table"] (spInit C):=
 ez (k:=0) z ⋯ c λX I hw J hm M h0=>by
  subst I hw J hm M;exact j8 (ba (h0.var ⋯) (h0.var ⋯) rfl) (xf (ba (h0.var ⋯) (h0.var ⋯) rfl))
theorem ok_mRf{f C:Addr}{fd:FuncData}(I:L2.Fun K "forth" "Right.forth" (inCls (top 17) 0) f fd)(c:ClsA K C)(J:FnD P w K mg base 4 "led_on" 3 F_led_on):FnOk P w K mg base CX0 5 f fd ["self","base"] (spForth K C F_led_on):=
 yS (k:=4) I ⋯ c λX M hw O hm z h0=>by
  subst M hw O hm z;obtain⟨fa,fd,ps,hn,G,hm,Y,z⟩:=J.ex;rw [hn]at G;exact xf (yp (xE G (h0.room.mono ⋯) (h0.gl (x:="led_on") ⋯).1 hm Y z .nil wj (zK (yt (h0.var ⋯) rfl) (zK (yt (h0.var ⋯) rfl) (zK (h0.var ⋯) jw)))))
theorem ok_mLf{f C:Addr}{fd:FuncData}(I:L2.Fun K "forth" "Left.forth" (inCls (top 18) 0) f fd)(c:ClsA K C)(J:FnD P w K mg base 4 "led_into" 3 F_led_into):FnOk P w K mg base CX0 5 f fd ["self","base"] (spForth K C F_led_into):=
 yS (k:=4) I ⋯ c λX M hw O hm z h0=>by
  subst M hw O hm z;obtain⟨fa,fd,ps,hn,G,hm,Y,z⟩:=J.ex;rw [hn]at G;exact xf (yp (xE G (h0.room.mono ⋯) (h0.gl (x:="led_into") ⋯).1 hm Y z .nil wj (zK (yt (h0.var ⋯) rfl) (zK (yt (h0.var ⋯) rfl) (zK (h0.var ⋯) jw)))))
theorem ok_mRb{f C:Addr}{fd:FuncData}(I:L2.Fun K "back" "Right.back" (inCls (top 17) 1) f fd)(c:ClsA K C)(J:FnD P w K mg base 4 "led_into" 3 F_led_into):FnOk P w K mg base CX0 5 f fd ["self","base"] (spForth K C F_led_into):=
 yS (k:=4) I ⋯ c λX M hw O hm z h0=>by
  subst M hw O hm z;obtain⟨fa,fd,ps,hn,G,hm,Y,z⟩:=J.ex;rw [hn]at G;exact xf (yp (xE G (h0.room.mono ⋯) (h0.gl (x:="led_into") ⋯).1 hm Y z .nil wj (zK (yt (h0.var ⋯) rfl) (zK (yt (h0.var ⋯) rfl) (zK (h0.var ⋯) jw)))))
theorem ok_mLb{f C:Addr}{fd:FuncData}(I:L2.Fun K "back" "Left.back" (inCls (top 18) 1) f fd)(c:ClsA K C)(J:FnD P w K mg base 4 "led_on" 3 F_led_on):FnOk P w K mg base CX0 5 f fd ["self","base"] (spForth K C F_led_on):=
 yS (k:=4) I ⋯ c λX M hw O hm z h0=>by
  subst M hw O hm z;obtain⟨fa,fd,ps,hn,G,hm,Y,z⟩:=J.ex;rw [hn]at G;exact xf (yp (xE G (h0.room.mono ⋯) (h0.gl (x:="led_on") ⋯).1 hm Y z .nil wj (zK (yt (h0.var ⋯) rfl) (zK (yt (h0.var ⋯) rfl) (zK (h0.var ⋯) jw)))))
end
end DL
namespace PySem.W.Fast
def tw17219633299235493935:=0
def tw14416457360488623069:=0
def tw3254222149139093396:=0
def tw9375428619542165682:=0
def tw10709252878861055480:=0
def tw12545852790848550134:=0
def tw16498717119030584927:=0
def tw9444018761386933929:=0
def tw1210929169608906824:=0
def tw5390197273954142062:=0
def tw4761254784113091067:=0
def tw8693719655026780484:=0
def tw9560507812889424821:=0
def tw18000290750284898637:=0
def tw15038639037595715585:=0
def tw12296347832628039042:=0
def tw4017543131412165811:=0
def tw9947812448226042003:=0
def tw2450383667447395505:=0
def tw16433205203960617785:=0
def tw2580226286741387961:=0
def tw11866593897840985210:=0
def tw16472828995257353591:=0
def tw3135006692145443560:=0
def tw15129352011551126446:=0
def tw14719692739876874451:=0
def tw9014913590381809232:=0
def tw3494365214748203340:=0
def tw8394632495276189965:=0
def tw15056404645263744919:=0
def tw11416999777442659409:=0
def tw10128328130844987635:=0
def tw8435204202372793074:=0
def tw9685945557234068188:=0
def tw13559960700947981089:=0
def tw10556041637544578953:=0
def tw16216308389663806623:=0
def tw6916716352578818666:=0
def tw17694716718570970669:=0
def tw10915867077147403798:=0
def tw3071750416822316872:=0
def tw11493644197749721915:=0
def tw2257770310228923154:=0
def tw16967689497384147885:=0
def tw10032858034567691318:=0
def tw10541407855283663720:=0
end PySem.W.Fast
open PySem PySem.W PyProof.Rows
set_option maxRecDepth 100000 in
set_option maxHeartbeats 0 in
theorem PySem.Challenge.cw_barsplit_k21_carried_along_a_row_holds : PySem.Challenge.rw_barsplit_k21_carried_along_a_row.Holds := by
 w_on;o_law;k_head;(case hw=>w_witness2)
 k_fill
 refine L2.walk_ofK (l:=rJ) (n:=63) (k:=7) (x:="_law_script") (CX:=L2.CX0) (sp:=λK=>DL.spF K 1 DL.F_law_k21) rfl ⋯ rfl ⟨rfl,by decide,by decide⟩ (λw h Y=>PySem.W.kIn_of Y) ?F ?S ?C
 case S=>exact λK H a ns J hO hS=>DL.law_true hS (DL.law_k21 ns J)
 case C=>exact λ_ _ _ _ z=>z
 case F=>
  intro w mg fa h I G bm;have an:mg "all" = none:=tE I G (by k_is);have bn:mg "any" = none:=tE I G (by k_is);have bv:mg "bool" = none:=tE I G (by k_is);have a2:mg "enumerate" = none:=tE I G (by k_is);have ap:mg "int" = none:=tE I G (by k_is);have a7:mg "isinstance" = none:=tE I G (by k_is);have a3:mg "len" = none:=tE I G (by k_is);have a1:mg "list" = none:=tE I G (by k_is);have bx:mg "min" = none:=tE I G (by k_is);have M:mg "range" = none:=tE I G (by k_is);have c0:mg "sorted" = none:=tE I G (by k_is);have ar:mg "sum" = none:=tE I G (by k_is);have O:mg "tuple" = none:=tE I G (by k_is);have a0:mg "zip" = none:=tE I G (by k_is);have c1:DL.DefAt (L2.KOf I) mg "_law_cell" (DL.top 23) ["_law_script","_law_k"]:=by
   dsimp only [L2.KOf];refine' DL.def_mk I G ?a ?l ?c ?k ?b
   (case a=>k_is);(case l=>k_is);(case c=>k_is);(case k=>k_is)
   (case b=>intro _ _ _ _ _ _ us J;obtain⟨_,_,rfl⟩:=DL.len2 J;rfl)
  have c2:DL.DefAt (L2.KOf I) mg "_law_ways" (DL.top 34) ["_law_cell_here","_law_rooms"]:=by
   dsimp only [L2.KOf];refine' DL.def_mk I G ?a ?l ?c ?k ?b
   (case a=>k_is);(case l=>k_is);(case c=>k_is);(case k=>k_is)
   (case b=>intro _ _ _ _ _ _ us J;obtain⟨_,_,rfl⟩:=DL.len2 J;rfl)
  have c3:DL.DefAt (L2.KOf I) mg "_law_ends" (DL.top 32) ["_law_k","_law_way"]:=by
   dsimp only [L2.KOf];refine' DL.def_mk I G ?a ?l ?c ?k ?b
   (case a=>k_is);(case l=>k_is);(case c=>k_is);(case k=>k_is)
   (case b=>intro _ _ _ _ _ _ us J;obtain⟨_,_,rfl⟩:=DL.len2 J;rfl)
  have c4:DL.DefAt (L2.KOf I) mg "_law_laid" (DL.top 36) ["_law_ways_here","_law_some"]:=by
   dsimp only [L2.KOf];refine' DL.def_mk I G ?a ?l ?c ?k ?b
   (case a=>k_is);(case l=>k_is);(case c=>k_is);(case k=>k_is)
   (case b=>intro _ _ _ _ _ _ us J;obtain⟨_,_,rfl⟩:=DL.len2 J;rfl)
  have c5:DL.DefAt (L2.KOf I) mg "_law_row" (DL.top 33) ["_law_p","_law_ways_here","_law_widths","_law_tables"]:=by
   dsimp only [L2.KOf];refine' DL.def_mk I G ?a ?l ?c ?k ?b
   (case a=>k_is);(case l=>k_is);(case c=>k_is);(case k=>k_is)
   (case b=>intro _ _ _ _ _ _ us J;obtain⟨_,_,_,_,rfl⟩:=DL.len4 J;rfl)
  have c6:DL.DefAt (L2.KOf I) mg "_law_step" (DL.top 37) ["_law_p","_law_ways_here","_law_tables","_law_room","_law_a","_law_b","_law_times"]:=by
   dsimp only [L2.KOf];refine' DL.def_mk I G ?a ?l ?c ?k ?b
   (case a=>k_is);(case l=>k_is);(case c=>k_is);(case k=>k_is)
   (case b=>intro _ _ _ _ _ _ us J;obtain⟨_,_,_,_,_,_,_,rfl⟩:=DL.len7 J;rfl)
  have c7:DL.DefAt (L2.KOf I) mg "_law_built" (DL.top 38) ["_law_script","_law_at","_law_p","_law_ways_here","_law_some"]:=by
   dsimp only [L2.KOf];refine' DL.def_mk I G ?a ?l ?c ?k ?b
   (case a=>k_is);(case l=>k_is);(case c=>k_is);(case k=>k_is)
   (case b=>intro _ _ _ _ _ _ us J;obtain⟨_,_,_,_,_,rfl⟩:=DL.len5 J;rfl)
  have ca:DL.DefAt (L2.KOf I) mg "_law_less" (DL.top 24) ["_law_p","_law_row_here","_law_other","_law_times"]:=by
   dsimp only [L2.KOf];refine' DL.def_mk I G ?a ?l ?c ?k ?b
   (case a=>k_is);(case l=>k_is);(case c=>k_is);(case k=>k_is)
   (case b=>intro _ _ _ _ _ _ us J;obtain⟨_,_,_,_,rfl⟩:=DL.len4 J;rfl)
  have cc:DL.DefAt (L2.KOf I) mg "_law_base" (DL.top 25) ["_law_p","_law_long","_law_loads_here"]:=by
   dsimp only [L2.KOf];refine' DL.def_mk I G ?a ?l ?c ?k ?b
   (case a=>k_is);(case l=>k_is);(case c=>k_is);(case k=>k_is)
   (case b=>intro _ _ _ _ _ _ us J;obtain⟨_,_,_,rfl⟩:=DL.len3 J;rfl)
  have cd:DL.DefAt (L2.KOf I) mg "_law_span" (DL.top 28) ["_law_p","_law_long","_law_base_here"]:=by
   dsimp only [L2.KOf];refine' DL.def_mk I G ?a ?l ?c ?k ?b
   (case a=>k_is);(case l=>k_is);(case c=>k_is);(case k=>k_is)
   (case b=>intro _ _ _ _ _ _ us J;obtain⟨_,_,_,rfl⟩:=DL.len3 J;rfl)
  have ce:DL.DefAt (L2.KOf I) mg "_law_led" (DL.top 26) ["_law_p","_law_rows","_law_load"]:=by
   dsimp only [L2.KOf];refine' DL.def_mk I G ?a ?l ?c ?k ?b
   (case a=>k_is);(case l=>k_is);(case c=>k_is);(case k=>k_is)
   (case b=>intro _ _ _ _ _ _ us J;obtain⟨_,_,_,rfl⟩:=DL.len3 J;rfl)
  have cf:DL.DefAt (L2.KOf I) mg "_law_all" (DL.top 27) ["_law_p","_law_long"]:=by
   dsimp only [L2.KOf];refine' DL.def_mk I G ?a ?l ?c ?k ?b
   (case a=>k_is);(case l=>k_is);(case c=>k_is);(case k=>k_is)
   (case b=>intro _ _ _ _ _ _ us J;obtain⟨_,_,rfl⟩:=DL.len2 J;rfl)
  have ch:DL.DefAt (L2.KOf I) mg "_law_next" (DL.top 39) ["_law_p","_law_row_here","_law_base_here","_law_k","_law_forth"]:=by
   dsimp only [L2.KOf];refine' DL.def_mk I G ?a ?l ?c ?k ?b
   (case a=>k_is);(case l=>k_is);(case c=>k_is);(case k=>k_is)
   (case b=>intro _ _ _ _ _ _ us J;obtain⟨_,_,_,_,_,rfl⟩:=DL.len5 J;rfl)
  have ci:DL.DefAt (L2.KOf I) mg "_law_due" (DL.top 40) ["_law_p","_law_row_here","_law_base_here","_law_i","_law_j"]:=by
   dsimp only [L2.KOf];refine' DL.def_mk I G ?a ?l ?c ?k ?b
   (case a=>k_is);(case l=>k_is);(case c=>k_is);(case k=>k_is)
   (case b=>intro _ _ _ _ _ _ us J;obtain⟨_,_,_,_,_,rfl⟩:=DL.len5 J;rfl)
  have cl:DL.DefAt (L2.KOf I) mg "_law_bars" (DL.top 35) ["_law_script","_law_at","_law_many","_law_rooms"]:=by
   dsimp only [L2.KOf];refine' DL.def_mk I G ?a ?l ?c ?k ?b
   (case a=>k_is);(case l=>k_is);(case c=>k_is);(case k=>k_is)
   (case b=>intro _ _ _ _ _ _ us J;obtain⟨_,_,_,_,rfl⟩:=DL.len4 J;rfl)
  have cm:DL.DefAt (L2.KOf I) mg "_law_loads" (DL.top 31) ["_law_script","_law_at","_law_p","_law_long"]:=by
   dsimp only [L2.KOf];refine' DL.def_mk I G ?a ?l ?c ?k ?b
   (case a=>k_is);(case l=>k_is);(case c=>k_is);(case k=>k_is)
   (case b=>intro _ _ _ _ _ _ us J;obtain⟨_,_,_,_,rfl⟩:=DL.len4 J;rfl)
  have co:DL.DefAt (L2.KOf I) mg "_law_whole" (DL.top 29) ["_law_found"]:=by
   dsimp only [L2.KOf];refine' DL.def_mk I G ?a ?l ?c ?k ?b
   (case a=>k_is);(case l=>k_is);(case c=>k_is);(case k=>k_is)
   (case b=>intro _ _ _ _ _ _ us J;obtain⟨_,rfl⟩:=DL.len1 J;rfl)
  have cq:DL.DefAt (L2.KOf I) mg "_law_is_base" (DL.top 30) ["_law_found","_law_due_here"]:=by
   dsimp only [L2.KOf];refine' DL.def_mk I G ?a ?l ?c ?k ?b
   (case a=>k_is);(case l=>k_is);(case c=>k_is);(case k=>k_is)
   (case b=>intro _ _ _ _ _ _ us J;obtain⟨_,_,rfl⟩:=DL.len2 J;rfl)
  have cr:DL.DefAt (L2.KOf I) mg "rests" (DL.top 4) ["p","numbers"]:=by
   dsimp only [L2.KOf];refine' DL.def_mk I G ?a ?l ?c ?k ?b
   (case a=>k_is);(case l=>k_is);(case c=>k_is);(case k=>k_is)
   (case b=>intro _ _ _ _ _ _ us J;obtain⟨_,_,rfl⟩:=DL.len2 J;rfl)
  have cs:DL.DefAt (L2.KOf I) mg "inverse" (DL.top 5) ["p","x"]:=by
   dsimp only [L2.KOf];refine' DL.def_mk I G ?a ?l ?c ?k ?b
   (case a=>k_is);(case l=>k_is);(case c=>k_is);(case k=>k_is)
   (case b=>intro _ _ _ _ _ _ us J;obtain⟨_,_,rfl⟩:=DL.len2 J;rfl)
  have ct:DL.DefAt (L2.KOf I) mg "cleared" (DL.top 10) ["p","load","pivot","place"]:=by
   dsimp only [L2.KOf];refine' DL.def_mk I G ?a ?l ?c ?k ?b
   (case a=>k_is);(case l=>k_is);(case c=>k_is);(case k=>k_is)
   (case b=>intro _ _ _ _ _ _ us J;obtain⟨_,_,_,_,rfl⟩:=DL.len4 J;rfl)
  have cv:DL.DefAt (L2.KOf I) mg "base_of" (DL.top 11) ["p","long","loads"]:=by
   dsimp only [L2.KOf];refine' DL.def_mk I G ?a ?l ?c ?k ?b
   (case a=>k_is);(case l=>k_is);(case c=>k_is);(case k=>k_is)
   (case b=>intro _ _ _ _ _ _ us J;obtain⟨_,_,_,rfl⟩:=DL.len3 J;rfl)
  have cw:DL.DefAt (L2.KOf I) mg "led" (DL.top 6) ["p","table","load"]:=by
   dsimp only [L2.KOf];refine' DL.def_mk I G ?a ?l ?c ?k ?b
   (case a=>k_is);(case l=>k_is);(case c=>k_is);(case k=>k_is)
   (case b=>intro _ _ _ _ _ _ us J;obtain⟨_,_,_,rfl⟩:=DL.len3 J;rfl)
  have cx:DL.DefAt (L2.KOf I) mg "led_on" (DL.top 13) ["p","table","base"]:=by
   dsimp only [L2.KOf];refine' DL.def_mk I G ?a ?l ?c ?k ?b
   (case a=>k_is);(case l=>k_is);(case c=>k_is);(case k=>k_is)
   (case b=>intro _ _ _ _ _ _ us J;obtain⟨_,_,_,rfl⟩:=DL.len3 J;rfl)
  have cy:DL.DefAt (L2.KOf I) mg "behind_noughts" (DL.top 12) ["many","base"]:=by
   dsimp only [L2.KOf];refine' DL.def_mk I G ?a ?l ?c ?k ?b
   (case a=>k_is);(case l=>k_is);(case c=>k_is);(case k=>k_is)
   (case b=>intro _ _ _ _ _ _ us J;obtain⟨_,_,rfl⟩:=DL.len2 J;rfl)
  have d0:DL.DefAt (L2.KOf I) mg "turned_over" (DL.top 7) ["table"]:=by
   dsimp only [L2.KOf];refine' DL.def_mk I G ?a ?l ?c ?k ?b
   (case a=>k_is);(case l=>k_is);(case c=>k_is);(case k=>k_is)
   (case b=>intro _ _ _ _ _ _ us J;obtain⟨_,rfl⟩:=DL.len1 J;rfl)
  have d5:DL.DefAt (L2.KOf I) mg "same_table" (DL.top 8) ["many"]:=by
   dsimp only [L2.KOf];refine' DL.def_mk I G ?a ?l ?c ?k ?b
   (case a=>k_is);(case l=>k_is);(case c=>k_is);(case k=>k_is)
   (case b=>intro _ _ _ _ _ _ us J;obtain⟨_,rfl⟩:=DL.len1 J;rfl)
  have d6:DL.DefAt (L2.KOf I) mg "led_into" (DL.top 14) ["p","table","base"]:=by
   dsimp only [L2.KOf];refine' DL.def_mk I G ?a ?l ?c ?k ?b
   (case a=>k_is);(case l=>k_is);(case c=>k_is);(case k=>k_is)
   (case b=>intro _ _ _ _ _ _ us J;obtain⟨_,_,_,rfl⟩:=DL.len3 J;rfl)
  have d7:DL.DefAt (L2.KOf I) mg "arrow_by" (DL.top 19) ["p","way","table"]:=by
   dsimp only [L2.KOf];refine' DL.def_mk I G ?a ?l ?c ?k ?b
   (case a=>k_is);(case l=>k_is);(case c=>k_is);(case k=>k_is)
   (case b=>intro _ _ _ _ _ _ us J;obtain⟨_,_,_,rfl⟩:=DL.len3 J;rfl)
  have d8:DL.DefAt (L2.KOf I) mg "arrow_at" (DL.top 20) ["row","k"]:=by
   dsimp only [L2.KOf];refine' DL.def_mk I G ?a ?l ?c ?k ?b
   (case a=>k_is);(case l=>k_is);(case c=>k_is);(case k=>k_is)
   (case b=>intro _ _ _ _ _ _ us J;obtain⟨_,_,rfl⟩:=DL.len2 J;rfl)
  have d9:DL.DefAt (L2.KOf I) mg "carried" (DL.top 21) ["row","base","i","j"]:=by
   dsimp only [L2.KOf];refine' DL.def_mk I G ?a ?l ?c ?k ?b
   (case a=>k_is);(case l=>k_is);(case c=>k_is);(case k=>k_is)
   (case b=>intro _ _ _ _ _ _ us J;obtain⟨_,_,_,_,rfl⟩:=DL.len4 J;rfl)
  have db:DL.DefAt (L2.KOf I) mg "_law_arrow_right" (DL.top 41) ["_law_p","_law_row_here","_law_k"]:=by
   dsimp only [L2.KOf];refine' DL.def_mk I G ?a ?l ?c ?k ?b
   (case a=>k_is);(case l=>k_is);(case c=>k_is);(case k=>k_is)
   (case b=>intro _ _ _ _ _ _ us J;obtain⟨_,_,_,rfl⟩:=DL.len3 J;rfl)
  have dd:DL.DefAt (L2.KOf I) mg "law" (DL.top 42) ["_law_script"]:=by
   dsimp only [L2.KOf];refine' DL.def_mk I G ?a ?l ?c ?k ?b
   (case a=>k_is);(case l=>k_is);(case c=>k_is);(case k=>k_is)
   (case b=>intro _ _ _ _ _ _ us J;obtain⟨_,rfl⟩:=DL.len1 J;rfl)
  have AR:DL.ArrB (L2.KOf I) mg (DL.inCls (DL.top 16) 0) (DL.inCls (DL.top 17) 0) (DL.inCls (DL.top 18) 0) (DL.inCls (DL.top 17) 1) (DL.inCls (DL.top 18) 1):=by
   dsimp only [L2.KOf];refine' DL.arr_mk2 I G ?nR ?nL ?nA ?iR ?iL ?mR ?mL ?oR ?oL ?uI ?uR ?uL ?xR ?xL ?vI ?vR ?vL ?yR ?yL ?w1 ?w2 ?w3 ?w4 ?w5 ?z1 ?z2 ?z3 ?z4 ?z5 ?bR ?bL ?cR ?cL ?dA ?dR ?dL ?gI ?gR ?gL ?hR ?hL
   (case nR=>k_is)
   (case nL=>k_is)
   (case nA=>k_is)
   (case iR=>k_is)
   (case iL=>k_is)
   (case mR=>k_is)
   (case mL=>k_is)
   (case oR=>k_is)
   (case oL=>k_is)
   (case uI=>k_is)
   (case uR=>k_is)
   (case uL=>k_is)
   (case xR=>k_is)
   (case xL=>k_is)
   (case vI=>k_is)
   (case vR=>k_is)
   (case vL=>k_is)
   (case yR=>k_is)
   (case yL=>k_is)
   (case w1=>k_is)
   (case w2=>k_is)
   (case w3=>k_is)
   (case w4=>k_is)
   (case w5=>k_is)
   (case z1=>k_is)
   (case z2=>k_is)
   (case z3=>k_is)
   (case z4=>k_is)
   (case z5=>k_is)
   (case bR=>kernel_rfl)
   (case bL=>kernel_rfl)
   (case cR=>kernel_rfl)
   (case cL=>kernel_rfl)
   (case dA=>kernel_rfl)
   (case dR=>kernel_rfl)
   (case dL=>kernel_rfl)
   (case gI=>intro _ _ _ _ _ _ us J;obtain⟨_,_,_,rfl⟩:=DL.len3 J;rfl)
   (case gR=>intro _ _ _ _ _ _ us J;obtain⟨_,_,rfl⟩:=DL.len2 J;rfl)
   (case gL=>intro _ _ _ _ _ _ us J;obtain⟨_,_,rfl⟩:=DL.len2 J;rfl)
   (case hR=>intro _ _ _ _ _ _ us J;obtain⟨_,_,rfl⟩:=DL.len2 J;rfl)
   (case hL=>intro _ _ _ _ _ _ us J;obtain⟨_,_,rfl⟩:=DL.len2 J;rfl)
  obtain⟨f,fd,Fu,hb,hm⟩:=dd.ex;have e0:=bm.symm.trans hm;cases e0;refine⟨fd,λs u=> .of_eq (hb [u] rfl),λbase kb nb=>?_⟩;obtain⟨CR,CL,fI,fR,fL,bR,bL,dI,dR,dL,eR,eL,q3,q4,q5,q6,q7,q8,p7,p8,q9,e5,e6,e7,e8,ax,e9,ea,eb,ec,q1,q2,hR,hL,ft,ef,eg⟩:=AR.ex;have ei:DL.NewAt (rJ).prog w (L2.KOf I) mg base 1 "Right" CR:=⟨fI,dI,q3,DL.ok_init q9 q5,q1,ax,hR⟩;have ej:DL.NewAt (rJ).prog w (L2.KOf I) mg base 1 "Left" CL:=⟨fI,dI,q4,DL.ok_init q9 q6,q2,ax,hL⟩;have a4:DL.FnD (rJ).prog w (L2.KOf I) mg base 1 "_law_cell" 2 DL.F_law_cell:=DL.ok_law_cell c1 a3 bx M;have ek:DL.FnD (rJ).prog w (L2.KOf I) mg base 1 "_law_ways" 2 DL.F_law_ways_k22:=DL.ok_law_ways_k22 c2 M;have ac:DL.FnD (rJ).prog w (L2.KOf I) mg base 1 "_law_ends" 2 DL.F_law_ends_k22:=DL.ok_law_ends_k22 c3;have em:DL.FnL (rJ).prog w (L2.KOf I) mg base 2 "_law_laid" 2 DL.F_law_laid:=DL.ok_law_laid c4 ac a2 ap a3 M;have en:DL.FnD (rJ).prog w (L2.KOf I) mg base 2 "_law_row" 4 DL.F_law_row_k22:=DL.ok_law_row_k22 c5 ac a2 O;have eo:DL.FnY (rJ).prog w (L2.KOf I) mg base 2 "_law_step" 2 4 DL.F_law_step:=DL.ok_law_step c6 ac a2 M a0;have eq:DL.FnD (rJ).prog w (L2.KOf I) mg base 3 "_law_built" 5 DL.F_law_built:=DL.ok_law_built c7 em en a4 eo a2 M;have er:DL.FnD (rJ).prog w (L2.KOf I) mg base 1 "_law_less" 4 DL.F_law_less_k22:=DL.ok_law_less_k22 ca a0;have b0:DL.FnD (rJ).prog w (L2.KOf I) mg base 2 "_law_base" 3 DL.F_law_base_k22:=DL.ok_law_base_k22 cc er a3 a1 M O;have et:DL.FnD (rJ).prog w (L2.KOf I) mg base 1 "_law_span" 3 DL.F_law_span:=DL.ok_law_span cd a1 M O a0;have eu:DL.FnD (rJ).prog w (L2.KOf I) mg base 1 "_law_led" 3 DL.F_law_led_k22:=DL.ok_law_led_k22 ce ar O a0;have ev:DL.FnD (rJ).prog w (L2.KOf I) mg base 1 "_law_all" 2 DL.F_law_all_k22:=DL.ok_law_all_k22 cf M;have b9:DL.FnD (rJ).prog w (L2.KOf I) mg base 3 "_law_next" 5 DL.F_law_next:=DL.ok_law_next ch et b0 eu ev;have ew:DL.FnD (rJ).prog w (L2.KOf I) mg base 4 "_law_due" 5 DL.F_law_due_21:=DL.ok_law_due_21 ci b9 M;have ey:DL.FnD (rJ).prog w (L2.KOf I) mg base 2 "_law_bars" 4 DL.F_law_bars_23:=DL.ok_law_bars_23 cl a4 M c0;have f0:DL.FnD (rJ).prog w (L2.KOf I) mg base 2 "_law_loads" 4 DL.F_law_loads_21:=DL.ok_law_loads_21 cm a4 M O;have f1:DL.FnD (rJ).prog w (L2.KOf I) mg base 1 "_law_whole" 1 DL.F_law_whole:=DL.ok_law_whole co bv ap a7;have bb:DL.FnD (rJ).prog w (L2.KOf I) mg base 2 "_law_is_base" 2 DL.F_law_is_base_k22:=DL.ok_law_is_base_k22 cq f1 an a7 a3 a1 O a0;have am:DL.FnD (rJ).prog w (L2.KOf I) mg base 1 "rests" 2 DL.F_rests:=DL.ok_rests cr O;have f2:DL.FnD (rJ).prog w (L2.KOf I) mg base 1 "inverse" 2 DL.F_inverse:=DL.ok_inverse cs M;have f3:DL.FnD (rJ).prog w (L2.KOf I) mg base 2 "cleared" 4 DL.F_cleared:=DL.ok_cleared ct am a0;have bd:DL.FnD (rJ).prog w (L2.KOf I) mg base 3 "base_of" 3 DL.F_base_of:=DL.ok_base_of cv am f2 f3 M;have f4:DL.FnD (rJ).prog w (L2.KOf I) mg base 2 "led" 3 DL.F_led:=DL.ok_led cw am ar a0;have a5:DL.FnD (rJ).prog w (L2.KOf I) mg base 4 "led_on" 3 DL.F_led_on:=DL.ok_led_on cx bd f4;have f5:DL.FnD (rJ).prog w (L2.KOf I) mg base 1 "behind_noughts" 2 DL.F_behind_noughts:=DL.ok_behind_noughts cy bn;have f6:DL.FnD (rJ).prog w (L2.KOf I) mg base 1 "turned_over" 1 DL.F_turned_over:=DL.ok_turned_over d0 M O;have f7:DL.FnD (rJ).prog w (L2.KOf I) mg base 1 "same_table" 1 DL.F_same_table:=DL.ok_same_table d5 M O;have a6:DL.FnD (rJ).prog w (L2.KOf I) mg base 4 "led_into" 3 DL.F_led_into:=DL.ok_led_into d6 f5 bd f6 f7 a0;have f8:DL.FnD (rJ).prog w (L2.KOf I) mg base 3 "arrow_by" 3 DL.F_arrow_by:=DL.ok_arrow_by d7 ei ej;have be:DL.FnD (rJ).prog w (L2.KOf I) mg base 4 "arrow_at" 2 DL.F_arrow_at:=DL.ok_arrow_at d8 f8;have bg:DL.MethB (rJ).prog w (L2.KOf I) mg base 5 "Right" "forth" DL.F_led_on:=⟨CR,fR,dR,hR,q7,DL.ok_mRf e5 q5 a5,e9⟩;have bi:DL.MethB (rJ).prog w (L2.KOf I) mg base 5 "Left" "forth" DL.F_led_into:=⟨CL,fL,dL,hL,q8,DL.ok_mLf e6 q6 a6,ea⟩;have f9:DL.MethB (rJ).prog w (L2.KOf I) mg base 5 "Right" "back" DL.F_led_into:=⟨CR,bR,eR,hR,p7,DL.ok_mRb e7 q5 a6,eb⟩;have fh:DL.MethB (rJ).prog w (L2.KOf I) mg base 5 "Left" "back" DL.F_led_on:=⟨CL,bL,eL,hL,p8,DL.ok_mLb e8 q6 a5,ec⟩;have fk:DL.FnD (rJ).prog w (L2.KOf I) mg base 6 "carried" 4 DL.F_carried:=DL.ok_carried d9 a5 a6 be a1 M bg bi f9 fh;have fl:DL.FnD (rJ).prog w (L2.KOf I) mg base 6 "_law_arrow_right" 3 DL.F_law_arrow_right:=DL.ok_law_arrow_right db a5 a6 be bb b9 a7 bg bi ef eg;exact DL.ok_law Fu a4 ek eq b0 ew ey f0 bb fk fl an a1 M
