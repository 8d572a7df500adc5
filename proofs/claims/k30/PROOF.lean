import PyProof.Rows.All
import Wide.All
import OpenK.AllK
import Wide.FinOn
import Lean
import PyProof.EqAt
import PyProof.EqKinds
import PyProof.TupleCall
import PySem.Str
import PyProof.ZipIter
import PyProof.IsiBase
import KE.KItemsList
import KE.KIsAll
import OpenK.KOwn
import KE.KSortAsk
import PyProof.StrBlockI
import PyProof.Rows.EqDataRows
import PyProof.Rows.InDataRows
import PyProof.SumWalkG
import PyProof.ConsumeWalk
import PyProof.WalksMore
import KE.KSortTup
import PyProof.ListMulRoad
import PyProof.EnumFor
import PyProof.Rows.EnumRows
import PyProof.StrBlockL
import PyProof.JoinWalk
import PyProof.NsDelKeeps
import KE.KTryDeep
import PyProof.InstStoreFacts
import PyProof.NsCount
import PyProof.ExcClass2
import PyProof.Rows.FStr
import PyProof.StationsW
import PyProof.Rows.Catch
import KE.KRevIter
import PyProof.CollectIter
import PyProof.TupleOfGen
import PyProof.Rows.Tup
import PyProof.Draws
import PyProof.EnumMake
import PyProof.StrWalks
import PyProof.SliceStr2
import PyProof.ListNew
import KE.KDictOf
import PyProof.ListRange
import PyProof.Rows.GenSrcRange
import PyProof.ListCopy
import PyProof.AttrMissHeap
import KE.KSortKey
import PyProof.TableCode
import PyProof.Rows.KernelRfl
import PySem.Challenge.RW_barsplit_k30_whole_any_row_falls_into_ba
open PySem.Challenge renaming rw_barsplit_k30_whole_any_row_falls_into_ba → zic
open PySem renaming wpAny_bind → zid, wpAny_pure → zik, wpAny_field → ziX, wpAny_setField_rec → zi4, wpAny_callSpecial?_slot → zjh, wpAny_seqItems → zjk, wpAny_truthy_bool → zjp, wpAny_call_entry → zjC, wpAny_newObj_type → zjD, wpAny_holding → zjH, wpAny_mono → zjW, wpAny_loadPart' → zjX, wpAny_onRaise → zj1, wpAny_attempt → zke, wpAny_letGo → zkq, sizeLine_eq → zkr, mem_of_lookup → zkv, Builtin → zkx, wpAny_rule → zkG, wpAny_Call_Name_kw → zkL, call_meets → zkS, wpAny_passesOwn → zla, pushCells_keeps → zlc, wpAny_typeOf → zlj, wpAny_pyIter_tuple → zlk, wpAny_newTuple → zln, wpAny_pyIter_zip → zlC, codeAny_mono → zlK, wpAny_updateSeq_pair → zlT, codeAny_call_builtin → zlU, wpAny_standAt → zma, wpAny_newList → zmb, wpAny_pyIter_list → zmd, typeIs_int → zme, concat_meets → zmg, wpAny_isInstance → zmh, noFill_tuple_add → zmi
open List renaming range → zie, mem_range → zig, getElem?_eq_getElem → zih, replicate → zii, getD_eq_getElem?_getD → zil, getElem?_cons_zero → zin, getElem?_cons_succ → zio, mem_cons → ziq, size_toArray → zir, getElem?_set_ne → zis, getElem?_eq_some_iff → zit, mem_cons_of_mem → ziu, mem_cons_self → ziv, map_congr_left → ziy, mem_map → ziB, length_map → ziD, mem_append_right → ziG, not_mem_nil → ziH, map_cons → ziK, getElem?_set_self → ziM, mem_filter → ziO, length_cons → ziQ, getElem?_append_right → ziW, map_map → ziZ, getElem?_append_left → zi9, getElem?_map → zja, nodup_cons → zjc, length_nil → zjd, eq_nil_of_length_eq_zero → zje, map_append → zjf, lookup_cons → zjl, length_range → zjm, length_append → zjo, mem_of_getElem? → zjs, set_cons_zero → zjv, set_cons_succ → zjw, range_succ → zjE, all_eq_true → zjG, countP_eq_length_filter → zjJ, replicate_succ → zjQ, range_eq_range' → zjT, range'_succ → zjY, pairwise_iff_getElem → zj0, flatten_cons → zj4, find?_cons → zj5, countP_congr → zj6, getElem_mem → zka, zip_cons_cons → zkf, mem_singleton → zkg, toArray → zkj, length_singleton → zkk, Pairwise → zkn, mem_or_eq_of_mem_set → zkt, drop_eq_getElem_cons → zku, range' → zkw, zip_map' → zkz, nil_append → zkA, mem_append → zkB, getElem?_replicate → zkC, append_nil → zkD, take_of_length_le → zkH, pairwise_lt_range → zkI, pairwise_map → zkJ, ext_getElem? → zkK, length_take → zkR, any_cons → zkU, all_cons → zkV, getElem?_range → zkZ, forIn_cons → zk0, filter_append → zk5, range_add → zk7, getElem?_zip_eq_some → zk8, forIn_nil → zk9, zipIdx_cons → zlo, cons_append → zlp, zipIdx_nil → zlt, map_nil → zlu, length_filter_le → zlv, mem_append_left → zlD, getElem_of_mem → zlG, filterMap_cons → zlH, map_singleton → zlS, length_eq_countP_add_countP → zlY, getElem?_set → zl0, foldl → zl1, filter_congr → zl2, any_eq_false → zl3, drop_length → zl8, any_eq_true → zl9
open PySem.Heap renaming get?_push_of_some → zif, lt_size → ziw, get?_push_size → zix, push → ziA, size_push → ziP, get?_update_other → zju, size_update → zkb, SameBut → zkl, get?_push_ne → zko, get?_update_self → zkP, get?_update_ne → zlI
open Option renaming bind_some → zij, map_some → ziC, isSome_iff_exists → zjx, some → zjO, map → zlR
open Nat renaming le_refl → zim, lt_of_lt_of_le → ziF, ne_of_lt → ziI, le_add_right → ziL, lt_or_ge → ziN, not_lt_zero → ziU, zero_add → zi1, lt_irrefl → zi8, lt_succ_of_lt → zjb, zero_le → zjj, le_trans → zjt, ne_of_gt → zjI, reduceAdd → zjL, lt_succ_self → zjM, add_sub_cancel_left → zjV, lt_trichotomy → zkN, le_succ → zk1, le_succ_of_le → zlh, mul_comm → zlA, le_of_lt → zlB, add_assoc → zlX
open PySem.Builtin.SmallTypes renaming nextOf → ziz, ownedTupleIsFree → ziJ, ownedTupleHandOut → zjg, ownedTupleFields → zk3
open Int renaming mul_emod → ziE, emod_lt_of_pos → ziS, emod_emod → ziY, emod_nonneg → zi5, emod_eq_of_lt → zjn, add_emod → zjB, toNat_natCast → zjK, mul_comm → zjN, sub_emod → zjZ, eq_ofNat_of_zero_le → zj9, mul_assoc → zkF, mul_add → zlq, emod_eq_emod_iff_emod_sub_eq_zero → zlE, toNat_of_nonneg → zlP, mul_left_comm → zl6
open Bool renaming false_ne_true → ziR, or_eq_true → zjF, false_eq_true → zjR, not_eq_true' → zj7, false_and → zkO, true_and → zkX, and_true → zlm, eq_iff_iff → zlx
open PySem.Obj renaming mapSeq → ziT, data_mapFields → zlW
open PySem.Value renaming none → ziV, ref → zjz, type → zkm, str → zlL, int → zlM
open PySem.Str renaming ofString → zi0, join → zlV
open PySem.W renaming mg_none_of → zi2, kia_one → zi3, kitOne → zjS, cellsFrom_some → zky, typeIn → zls, methodObj → zlN, kitx_list → zlO, nsIn → zlQ
open Ne renaming symm → zi6
open PyProof.Rows renaming callWith_type1 → zi7, slot_tuple_getitem → zjy, listUpdate_at → zkM, slot_tupleiter_next → zlb, tupleItemsOf_ → zly, callWith_builtin1 → zlz, get?_update_seq → zlJ, seqEpoch_at → zl4, size_push' → zmf
open Option.some renaming inj → zji
open PySem.SeqAt renaming EqAt → zjq
open Classical renaming byContradiction → zjr, axiomOfChoice → zk6
open Array renaming length_toList → zjA, getD_eq_getD_getElem? → zki
open PySem.Builtin.Tuple renaming tupleExact → zjP, tupleIsExact → zkc
open Sum renaming inl → zjU, inr → zl5
open False renaming elim → zj2
open PySem.NameKind renaming cell → zj3
open PySem.F renaming slot_zip_next → zj8, slot_enumerate_next → zkp, slot_list_getattribute → zkE, slot_tuple_mul → zkY, args_tuple_add_2 → zk4, entry_tuple_add → zld, slot_tuple_add → zlg, args_zip_next_1 → zlr, entry_zip_next → zlw, slot_int_rmul → zlF, args_tuple_mul_2 → zl7, entry_tuple_mul → zmc
open True renaming intro → zkd
open PySem.Builtin.Slice renaming slicePlaces → zkh, sliceAdjust → zkQ
open PySem.SeqAt.EqAt renaming int_int → zks
open List.Pairwise renaming imp_of_mem → zkT, filter → zle
open PySem.Builtin.List renaming listTooLong → zkW
open PySem.Calls renaming spliced_cons → zk2, spliced_nil → zlZ
open PySem.Shared renaming heap → zlf
open ForInStep renaming yield → zli
open PySem.Heap.SameBut renaming update → zll
local macro_rules | `(⋯) => `(by first | decide +kernel | omega | simp)
noncomputable section
set_option Elab.async false
set_option linter.all false
set_option maxRecDepth 100000
set_option maxHeartbeats 4000000
namespace L2
open PySem PySem.Spec PyProof.Rows
abbrev Key:=Sum Int Str
def K9:Key->Value->Bool
 | .inl k,v=>Value.isInt k v
 | .inr x,v=>Value.isStrOf x v
def zh3(w:World):Key->Int
 | .inl k=>hashInt k
 | .inr x=>hashStr w x
theorem jU : ∀{k:Key} {v:Value},K9 k v=true->(∃i t,k=zjU i/\v=zlM i t)\/(∃x t,k=zl5 x/\v=zlL x t)
 | .inl i,v,h=>by
  obtain⟨t,e⟩:=Value.isInt_shape (k:=i) (v:=v) h;exact .inl ⟨i,t,rfl,e⟩
 | .inr x,v,h=>by
  obtain⟨t,e⟩:=Value.isStrOf_shape (x:=x) (v:=v) h;exact .inr ⟨x,t,rfl,e⟩
theorem VF(i:Int)(t:Tok):K9 (.inl i) (.int i t)=true:=by simp [K9,Value.isInt]
theorem VE(x:Str)(t:Tok):K9 (.inr x) (.str x t)=true:=by simp [K9,Value.isStrOf]
theorem ze0(a b:Int):decide ((zjU a:Key)=zjU b)=(a==b):=by
 by_cases e:a=b
 ·subst e;simp
 ·have h : ¬(zjU a:Key)=zjU b:=λq=>e (zjU.inj q)
  rw [decide_eq_false h];exact(beq_eq_false_iff_ne.mpr e).symm
theorem zeX(a b:Str):decide ((zl5 a:Key)=zl5 b)=decide (a=b):=by
 by_cases e:a=b
 ·subst e;simp
 ·have h : ¬(zl5 a:Key)=zl5 b:=λq=>e (zl5.inj q)
  rw [decide_eq_false h,decide_eq_false e]
theorem zeZ(a:Int)(b:Str):decide ((zjU a:Key)=zl5 b)=false:=decide_eq_false (λq=>nomatch q)
theorem zeY(a:Str)(b:Int):decide ((zl5 a:Key)=zjU b)=false:=decide_eq_false (λq=>nomatch q)
def qA(prog:Program)(w:World):PySem.KeyKind prog w Key where
 is:=K9
 hash:=zh3 w
 inj:=λv a b ha I=>by
  rcases jU ha with⟨i,t,rfl,rfl⟩ | ⟨x,t,rfl,rfl⟩
  ·rcases jU I with⟨j,u,rfl,e⟩ | ⟨y,u,rfl,e⟩
   ·injection e with e1 _;rw [e1]
   ·exact nomatch e
  ·rcases jU I with⟨j,u,rfl,e⟩ | ⟨y,u,rfl,e⟩
   ·exact nomatch e
   ·injection e with e1 _;rw [e1]
 byValue:=λk v h=>by
  rcases jU h with⟨i,t,rfl,rfl⟩ | ⟨x,t,rfl,rfl⟩<;>rfl
 pyHash:=λz h=>by
  rcases jU z with⟨i,t,rfl,rfl⟩ | ⟨x,t,rfl,rfl⟩
  ·exact wpAny_pyHash_int h
  ·exact wpAny_pyHash_str h
 eqBool:=λO z h=>by
  rcases jU O with⟨i,t,rfl,rfl⟩ | ⟨x,t,rfl,rfl⟩
  ·rcases jU z with⟨j,u,rfl,rfl⟩ | ⟨y,u,rfl,rfl⟩
   ·rw [ze0]at h;exact wpAny_eqBool_int h
   ·rw [zeZ]at h;exact zjq.int_str i t y u _ _ _ _ h
  ·rcases jU z with⟨j,u,rfl,rfl⟩ | ⟨y,u,rfl,rfl⟩
   ·rw [zeY]at h;exact zjq.str_int x t j u _ _ _ _ h
   ·rw [zeX]at h;exact wpAny_eqBool_str h
 «strs» :=λk x t v h=>by
  rcases jU h with⟨i,u,rfl,e⟩ | ⟨y,u,rfl,e⟩
  ·exact nomatch e
  ·injection e with e1 _
   subst e1;cases v<;>rfl
theorem QZ(prog:Program)(w:World)(i:Int)(t:Tok):(qA prog w).is (.inl i) (.int i t)=true:=VF i t
theorem QY(prog:Program)(w:World)(x:Str)(t:Tok):(qA prog w).is (.inr x) (.str x t)=true:=VE x t
inductive V where
 | non | bl (b:Bool) | int (i:Int) | str (x:Str) | byt (b:Array UInt8) | flt (b:UInt64) | ref (a:Addr) | ty (n:String)
 deriving DecidableEq
def RelV:V->Value->Prop
 | .non,u=>u=ziV
 | .bl b,u=>u=Value.bool b
 | .int i,u=>∃t,u=zlM i t
 | .str x,u=>∃t,u=zlL x t
 | .byt b,u=>∃t,u=Value.bytes b t
 | .flt b,u=>∃t,u=Value.float b t
 | .ref a,u=>u=zjz a
 | .ty n,u=>u=zkm n
abbrev Vals:List V->List Value->Prop:=Paired RelV
theorem Vals.length{xs:List V}{us:List Value}(r:Vals xs us):xs.length=us.length:=Paired.length r
theorem Vals.get : ∀{xs:List V} {us:List Value} {i:Nat} {x:V},Vals xs us->xs[i]? = some x->∃u,us[i]? = some u/\RelV x u
 | _,_,_,_,.nil,e=>by simp at e
 | _,_,0,_,.cons r _,e=>by simp at e;subst e;exact⟨_,rfl,r⟩
 | _,_,i+1,x,.cons _ t,e=>by
  obtain⟨u,h1,h2⟩:=Vals.get (i:=i) (x:=x) t (by simpa using e);exact⟨u,by simpa using h1,h2⟩
theorem Vals.set{x:V}{u:Value}(r:RelV x u) : ∀{xs:List V} {us:List Value} (i:Nat),Vals xs us->Vals (xs.set i x) (us.set i u)
 | _,_,_,.nil=> .nil
 | _,_,0,.cons _ t=> .cons r t
 | _,_,i+1,.cons q t=> .cons q (Vals.set r i t)
theorem Vals.append : ∀{xs ys:List V} {us z:List Value},Vals xs us->Vals ys z->Vals (xs++ys) (us++z)
 | _,_,_,_,.nil,s=>s
 | _,_,_,_,.cons r t,s=> .cons r (Vals.append t s)
theorem Vals.take : ∀{xs:List V} {us:List Value} (n:Nat),Vals xs us->Vals (xs.take n) (us.take n)
 | _,_,0,_=> .nil
 | _,_,_+1,.nil=> .nil
 | _,_,n+1,.cons r t=> .cons r (Vals.take n t)
theorem Vals.drop : ∀{xs:List V} {us:List Value} (n:Nat),Vals xs us->Vals (xs.drop n) (us.drop n)
 | _,_,0,r=>r
 | _,_,_+1,.nil=> .nil
 | _,_,n+1,.cons _ t=>Vals.drop n t
def RelO:Option V->Option Value->Prop
 | some v,some u=>RelV v u
 | none,none=>True
 | _,_=>False
def KV{κ:Type}:List (κ×V)->List (κ×Value)->Prop:=Paired λ(p:κ×V) (q:κ×Value)=>p.1=q.1/\RelV p.2 q.2
def kV:Key->V
 | .inl i=> .int i
 | .inr x=> .str x
inductive HO where
 | lst (xs:List V)
 | tup (xs:List V)
 | dK (kvs:List (Key×V)) | dT (kvs:List (List Key×V))
 | set (S:Int->Bool) (n:Nat)
 | ins (C dx:Addr) (fs:List (Str×V))
 | own (x:Addr)
 | xd (fs:List (Str×V))
 | met (f x:Addr)
 | rng (lo hi:Int)
 | frz (o:Obj) (u:HO)
 | tbl (ps:Array Value)
 | ext (φ:Heap->Prop)
abbrev Hp:=Addr->Option HO
def upd(H:Hp)(a:Addr)(o:HO):Hp:=λb=>if b=a then some o else H b
theorem zL{H:Hp}{a:Addr}{o:HO}:upd H a o a=some o:=by unfold upd;rw [if_pos rfl]
theorem zG{H:Hp}{a b:Addr}{o:HO}(h:b≠a):upd H a o b=H b:=by unfold upd;rw [if_neg h]
theorem Yw{H:Hp}{a:Addr}{o u:HO}:upd (upd H a o) a u=upd H a u:=by
 funext b;unfold upd;split<;>rfl
theorem jP{H:Hp}{a b:Addr}{o:HO}(h:H a=some o)(h':H b=none):a≠b:=by
 intro e;subst e;rw [h]at h';cases h'
def IsTupD(h:Heap)(a:Addr)(items:Array Value):Prop:=∃o,h.get? a=some o/\(o.cls,o.dict)=(zkm "tuple",none)/\∃n,o.data = .seq items n
theorem IsTupD.new(h:Heap)(items:Array Value):IsTupD (h.push {cls:= .type "tuple",data:= .seq items}) h.objs.size items:=⟨_,zix _ rfl,rfl,_,rfl⟩
theorem IsTupD.tup{h:Heap}{a:Addr}{items:Array Value}(x:IsTupD h a items):IsTup h a items:=let ⟨o,e,c,r⟩:=x;⟨o,e,(Prod.mk.inj c).1,r⟩
section
variable(P:Program)(w:World)
def ObjOk(H:Hp)(h:Heap)(a:Addr):HO->Prop
 | .lst xs=>xs.length<=sizeLine/\∃(z:List Value) (n:Nat),Vals xs z/\h.get? a=some {cls:= .type "list",data:= .seq z.toArray n}
 | .tup xs=>xs.length<=sizeLine/\∃z:List Value,Vals xs z/\IsTupD h a z.toArray
 | .dK kvs=>kvs.length<=sizeLine/\(a==sysModules)=false/\∃vs,KV kvs vs/\h.DictOf (qA P w) a vs
 | .dT kvs=>kvs.length<=sizeLine/\(a==sysModules)=false/\∃xs:List (List Key×Addr×Value),
  Paired (λ(p:List Key×V) (q:List Key×Addr×Value)=>p.1=q.1/\H q.2.1=some (.tup (p.1.map kV))/\RelV p.2 q.2.2) kvs xs/\
  ∃o es I,h.get? a=some o/\o.ExactDict/\o.data = .dict es I/\es.toList=xs.map (entryOfKey (tupleKind (qA P w)))/\(xs.map (·.1)).Nodup
 | .set S n=>h.SetOf (intKind P w) a S n
 | .ins C dx fs=>H dx=some (.own a)/\fs.length<=1000/\dx≠a/\h.get? a=some (PySem.W.instObj C dx)/\
  ∃mA,h.Ns1 dx mA/\(∀f,RelO (fs.lookup f) (mA f))/\PySem.Within mA (fs.map (·.1))
 | .own _=>∃o,h.get? a=some o
 | .xd fs=>∃mA,h.Ns1 a mA/\∀f,RelO (fs.lookup f) (mA f)
 | .rng lo hi=>∃t u v,h.get? a=some {cls:= .type "range",data:= .fields #[.int lo t,.int hi u,.int 1 v]}
 | .frz o u=>h.get? a=some o/\ObjOk H h a u
 | .tbl ps=>h.get? a=some {cls:= .none,data:= .fields ps}
 | .met f x=>h.get? a=some (zlN (.ref f) (.ref x))
 | .ext φ=>φ h/\(∃o,h.get? a=some o)/\∀h1 h2:Heap,φ h1->(∀o,h1.get? a=some o->h2.get? a=some o)->φ h2
def HOk(H:Hp)(h:Heap):Prop:=∀a o,H a=some o->ObjOk P w H h a o
end
section
variable{P:Program}{w:World}{H H':Hp}{h h':Heap}{a:Addr}{o:HO}
theorem ObjOk.lt(x:ObjOk P w H h a o):a<h.objs.size:=by
 cases o with
 | lst xs=>obtain⟨_,_,_,_,e⟩:=x;exact ziw e
 | tup xs=>obtain⟨_,_,_,p⟩:=x;exact p.tup.lt
 | dK kvs=>obtain⟨_,_,_,_,o,_,_,e,_⟩:=x;exact ziw e
 | dT kvs=>obtain⟨_,_,_,_,o,_,_,e,_⟩:=x;exact ziw e
 | set S n=>obtain⟨o,_,_,_,e,_⟩:=x;exact ziw e
 | ins C dx fs=>obtain⟨_,_,_,e,_⟩:=x;exact ziw e
 | own y=>obtain⟨_,e⟩:=x;exact ziw e
 | xd fs=>obtain⟨_,⟨_,_,_,e,_⟩,_⟩:=x;exact ziw e
 | rng lo hi=>obtain⟨_,_,_,e⟩:=x;exact ziw e
 | frz z u=>obtain⟨e,_⟩:=x;exact ziw e
 | tbl ps=>exact ziw (show h.get? a=some _ from x)
 | met f y=>exact ziw (show h.get? a=some _ from x)
 | ext φ=>obtain⟨_,⟨_,e⟩,_⟩:=x;exact ziw e
theorem Paired.mapP{α β:Type}{F G:α->β->Prop} : ∀{z:List α} {I:List β},Paired F z I->(∀a b,F a b->G a b)->Paired G z I
 | _,_,.nil,_=> .nil
 | _,_,.cons r t,f=> .cons (f _ _ r) (Paired.mapP t f)
theorem ObjOk.stay(x:ObjOk P w H h a o)(k : ∀b u,(b=a\/H b=some (.own a))->h.get? b=some u->h'.get? b=some u)
 (Y : ∀b,H b=some (.own a)->H' b=some (.own a)) (Z : ∀b xs,H b=some (.tup xs)->H' b=some (.tup xs)):ObjOk P w H' h' a o:=by
 induction o with
 | lst xs=>obtain⟨z,U,n,r,e⟩:=x;exact⟨z,U,n,r,k _ _ (.inl rfl) e⟩
 | tup xs=>obtain⟨z,U,r,I,e,c⟩:=x;exact⟨z,U,r,I,k _ _ (.inl rfl) e,c⟩
 | dK kvs=>obtain⟨z,y,vs,r,I,es,O,e,c⟩:=x;exact⟨z,y,vs,r,I,es,O,k _ _ (.inl rfl) e,c⟩
 | dT kvs=>
  obtain⟨z,y,xs,r,I,es,O,e,c⟩:=x;exact⟨z,y,xs,Paired.mapP r λp q z=>⟨z.1,Z _ _ z.2.1,z.2.2⟩,I,es,O,k _ _ (.inl rfl) e,c⟩
 | set S n=>obtain⟨I,es,O,t,e,c⟩:=x;exact⟨I,es,O,t,k _ _ (.inl rfl) e,c⟩
 | ins C dx fs=>
  obtain⟨d,z,ne,e,mA,⟨od,es,O,e2,c⟩,r⟩:=x;exact⟨Y _ d,z,ne,k _ _ (.inl rfl) e,mA,⟨od,es,O,k _ _ (.inr d) e2,c⟩,r⟩
 | own y=>obtain⟨I,e⟩:=x;exact⟨I,k _ _ (.inl rfl) e⟩
 | xd fs=>obtain⟨mA,⟨od,es,O,e,c⟩,r⟩:=x;exact⟨mA,⟨od,es,O,k _ _ (.inl rfl) e,c⟩,r⟩
 | rng lo hi=>obtain⟨t,u,v,e⟩:=x;exact⟨t,u,v,k _ _ (.inl rfl) e⟩
 | frz I u ih=>obtain⟨e,q⟩:=x;exact⟨k _ _ (.inl rfl) e,ih q⟩
 | tbl ps=>
  have e:h.get? a=some {cls:= .none,data:= .fields ps}:=x;show h'.get? a=some {cls:= .none,data:= .fields ps};exact k a _ (.inl rfl) e
 | met f y=>
  have e:h.get? a=some (zlN (.ref f) (.ref y)):=x;show h'.get? a=some (zlN (.ref f) (.ref y));exact k a _ (.inl rfl) e
 | ext φ=>obtain⟨p,⟨o,e⟩,st⟩:=x;exact⟨st _ _ p λo q=>k _ _ (.inl rfl) q,⟨o,k _ _ (.inl rfl) e⟩,st⟩
theorem HOk.lt(x:HOk P w H h)(e:H a=some o):a<h.objs.size:=(x a o e).lt
theorem HOk.fresh(x:HOk P w H h)(e:h.objs.size<=a):H a=none:=by
 cases q:H a with
 | none=>rfl
 | some u=>exact absurd (ziF (x.lt q) e) (zi8 _)
theorem HOk.kept(x:HOk P w H h)(k : ∀b u,h.get? b=some u->h'.get? b=some u):HOk P w H h':=λa o e=>
 (x a o e).stay (λb u _ q=>k b u q) (λ_ q=>q) λ_ _ q=>q
theorem HOk.laid(x:HOk P w H h)(k : ∀b u,h.get? b=some u->h'.get? b=some u)(I:h.objs.size<=a)(new:ObjOk P w (upd H a o) h' a o):HOk P w (upd H a o) h':=λb u e=>by
 have hn:=x.fresh I;by_cases z:b=a
 ·subst z;rw [zL]at e;cases e;exact new
 ·rw [zG z]at e
  exact(x b u e).stay (λc v _ q=>k c v q) (λc q=>by rw [zG (jP q hn)];exact q) λc xs q=>by rw [zG (jP q hn)];exact q
end
def Rd(H:Hp)(a:Addr)(u:HO):Prop:=H a=some u\/∃o,H a=some (.frz o u)
theorem Rd.ok{P:Program}{w:World}{H:Hp}{h:Heap}{a:Addr}{u:HO}(r:Rd H a u)(x:HOk P w H h):ObjOk P w H h a u:=by
 rcases r with r | ⟨o,r⟩
 ·exact x a u r
 ·obtain⟨_,q⟩:=x a _ r
  exact q
def Mut:Option HO->Prop
 | some (.lst _)=>True
 | some (.dK _)=>True
 | some (.dT _)=>True
 | some (.set _ _)=>True
 | some (.ins _ _ _)=>True
 | some (.ext _)=>True
 | _=>False
section
variable{P:Program}{w:World}{H:Hp}{h h':Heap}{x e:Addr}{o':HO}
theorem HOk.write(ok:HOk P w H h)(I:Mut (H x))(Y:e=x\/H e=some (.own x))(k : ∀b u,b≠e->h.get? b=some u->h'.get? b=some u)(a1 : ∃u,h'.get? e=some u)
 (new:ObjOk P w (upd H x o') h' x o'):HOk P w (upd H x o') h':=λb u q=>by
 have Z : ∀c y,H c=some (.own y)->c≠x:=λc y r z=>by subst z;rw [r]at I;exact I
 have a2 : ∀c xs,H c=some (.tup xs)->c≠x:=λc xs r z=>by subst z;rw [r]at I;exact I
 by_cases O:b=x
 ·subst O;rw [zL]at q;cases q;exact new
 ·rw [zG O]at q
  by_cases S:b=e
  ·have q':H b=some (.own x):=by
    rcases Y with z | z
    ·exact absurd (S.trans z) O
    ·rw [S];exact z
   rw [q]at q';cases q';obtain⟨v,hv⟩:=a1;exact⟨v,by rw [S];exact hv⟩
  ·refine(ok b u q).stay (λc v U r=>k c v ?_ r) (λc r=>by rw [zG (Z c b r)];exact r) λc xs r=>by rw [zG (a2 c xs r)];exact r
   rcases U with rfl | U
   ·exact S
   ·rintro rfl
    rcases Y with z | z
    ·exact Z c b U z
    ·rw [U]at z;cases z;exact O rfl
end
structure Un(fs ex:List Addr)(H H':Hp)(h h':Heap):Prop where
 keep : ∀b o,h.get? b=some o->H b=none->b∉fs->b∉ex->h'.get? b=some o
 slot : ∀b o,h.get? b=some o->H b=none->b∈fs->b∉ex->∃sl,h'.get? b=some {o with slots:=sl}
 free : ∀b o,h.get? b=some o->H b=none->b∉ex->H' b=none
 there : ∀b o,h.get? b=some o->b∉ex->∃o',h'.get? b=some o'
 tups : ∀b xs,H b=some (.tup xs)->H' b=some (.tup xs)
 frzs : ∀b o u,H b=some (.frz o u)->H' b=some (.frz o u)
 tbls : ∀b ps,H b=some (.tbl ps)->∃more,H' b=some (.tbl (ps++more))
section
variable{fs fs' ex ex':List Addr}{H H1 H2:Hp}{h h1 h2 h':Heap}{a x e:Addr}{o:HO}
theorem Un.any(u:Un fs ex H H1 h h1){b:Addr}{z:Obj}(q:h.get? b=some z)(n:H b=none)(hx:b∉ex) : ∃sl,h1.get? b=some {z with slots:=sl}:=by
 by_cases I:b∈fs
 ·exact u.slot b z q n I hx
 ·exact⟨z.slots,u.keep b z q n I hx⟩
theorem Un.kept(k : ∀b u,h.get? b=some u->h'.get? b=some u):Un fs ex H H h h':=
 ⟨λb z q _ _ _=>k b z q,λb z q _ _ _=>⟨z.slots,k b z q⟩,λ_ _ _ n _=>n,λb z q _=>⟨z,k b z q⟩,λ_ _ q=>q,λ_ _ _ q=>q,λ_ ps q=>⟨#[],by rw [q];simp⟩⟩
theorem Un.refl:Un fs ex H H h h:=Un.kept λ_ _ q=>q
theorem Un.laid(k : ∀b u,h.get? b=some u->h'.get? b=some u)(z:h.objs.size<=a)(hn:H a=none):Un fs ex H (upd H a o) h h' where
 keep:=λb u q _ _ _=>k b u q
 slot:=λb u q _ _ _=>⟨u.slots,k b u q⟩
 free:=λb u q n _=>by rw [zG (ziI (ziF (ziw q) z))];exact n
 there:=λb u q _=>⟨u,k b u q⟩
 tups:=λb xs q=>by rw [zG (jP q hn)];exact q
 frzs:=λb u xs q=>by rw [zG (jP q hn)];exact q
 tbls:=λb ps q=>⟨#[],by rw [zG (jP q hn),q];simp⟩
theorem Un.write(I:Mut (H x))(U:e=x\/H e=some (.own x))(k : ∀b u,b≠e->h.get? b=some u->h'.get? b=some u)(Y : ∃u,h'.get? e=some u):Un fs ex H (upd H x o) h h':=by
 have hx : ∀b,H b=none->b≠x:=λb n z=>by subst z;rw [n]at I;exact I
 have O : ∀b,H b=none->b≠e:=λb n z=>by
  subst z;rcases U with r | r
  ·exact hx b n r
  ·rw [n]at r;cases r
 have hm : ∀b u,H b=some u->¬Mut (some u)->b≠x:=λb u q nm z=>by subst z;rw [q]at I;exact nm I
 refine⟨λb u q n _ _=>k b u (O b n) q,λb u q n _ _=>⟨u.slots,k b u (O b n) q⟩,λb u q n _=>by rw [zG (hx b n)];exact n,λb u q _=>?_,
  λb xs q=>by rw [zG (hm b _ q λz=>z)];exact q,λb u xs q=>by rw [zG (hm b _ q λz=>z)];exact q,λb ps q=>⟨#[],by rw [zG (hm b _ q λz=>z),q];simp⟩⟩
 by_cases S:b=e
 ·subst S;exact Y
 ·exact⟨u,k b u S q⟩
end
def trk(h:Heap)(H:Hp):List Addr:=(zie h.objs.size).filter λa=>(H a).isSome
def za3(h:Heap)(H:Hp):Heap:=PySem.W.hideAll h (trk h H)
theorem VQ(h:Heap)(H:Hp):(za3 h H).objs.size=h.objs.size:=PySem.W.hideAll_size _ _
theorem za2{h:Heap}{H:Hp}{b:Addr}{o:Obj}(e:h.get? b=some o)(n:H b=none):(za3 h H).get? b=some o:=
 PySem.W.hideAll_get _ e λhm=>by
  have q:(H b).isSome=true:=(ziO.mp hm).2;rw [n]at q;simp at q
theorem zcQ{h:Heap}{H:Hp}{b:Addr}{o:Obj}(e:(za3 h H).get? b=some o):h.get? b=some o/\H b=none:=by
 have I:h.get? b=some o:=PySem.W.of_hideAll (trk h H) e;refine⟨I,?_⟩;cases q:H b with
 | none=>rfl
 | some x=>
  have hm:b∈trk h H:=ziO.mpr ⟨zig.mpr (ziw I),by simp [q]⟩;have z:(za3 h H).get? b=none:=PySem.W.hideAll_none (trk h H) hm;rw [z]at e;cases e
def zdx(g h:Heap)(L:Addr):List (Addr×Obj):=(zie h.objs.size).filterMap λa=>if a=L\/(g.get? a).isSome=true then none else (h.get? a).map λo=>(a,o)
def rest(g h:Heap)(L d:Addr):List (Addr×Obj):=(zdx g h L).filter λp=>decide (p.1≠d)
structure Mod(K:PySem.W.Frag)(mg:Str->Option Value)(base:Heap):Prop where
 kin:K.In base
 glob:base.Ns mainGlobals mg
 blt : ∃mb,base.Ns builtinsNs mb/\∀x:Str,x ≠ "__name__"->mb x=bootBuiltins x
 nolimit:base.NoLimit
structure Cx where
 prog:Program
 w:World
 K:PySem.W.Frag
 mg:Str->Option Value
 base:Heap
 A:Around
 N:List Str
 s₀:Shared
 H₀:Hp
 env:Env
 outer:List Env
 stack:List Env
 ex:List Addr
 fn:Str->Bool
 calm:Bool
 pn:List (Addr×Obj)
 xe:Value->Shared->Prop
def frs(l:List Env):List Addr:=l.filterMap (·.frame)
abbrev Cx.fs(X:Cx):List Addr:=frs X.outer
def Vis(sc:Scope)(x:Str):Prop:=sc.names.lookup x=some .local\/sc.names.lookup x=some .cell\/sc.names.lookup x=some .free
def Loc(sc:Scope)(x:Str):Prop:=sc.names.lookup x=some .local\/sc.names.lookup x=some .cell
def Look(env:Env)(h:Heap)(m:Str->Option Value)(x:Str)(u:Value):Prop:=
 (env.kindOf x=some .local/\m x=some u)\/((env.kindOf x=some .cell\/env.kindOf x=some .free)/\∃c,env.cells.lookup x=some c/\h.IsCell c (some u))
structure Cx.Ok(X:Cx):Prop where
 mod:Mod X.K X.mg X.base
 kind:X.env.scope.kind = .function
 glob:X.env.globals=mainGlobals
 blt:X.env.builtins=builtinsNs
 above:X.s₀.heap.objs.size<=X.env.locals
 inj : ∀x y c,X.env.cells.lookup x=some c->X.env.cells.lookup y=some c->x=y
 has : ∀x,(X.env.kindOf x=some .cell\/X.env.kindOf x=some .free)->∃c,X.env.cells.lookup x=some c
 cab : ∀x c,X.fn x=true->X.env.cells.lookup x=some c->X.s₀.heap.objs.size<=c
 hd:X.calm=true->X.A.handled=none
 frames:X.A.frames=some X.stack
 stk:X.stack=X.outer\/(X.stack=X.env::X.outer/\X.env.frame=some X.env.locals)
 exf : ∀b∈X.ex,b≠X.env.locals/\∀x c,X.env.cells.lookup x=some c->c≠b
 bs : ∀b o,X.base.get? b=some o->X.s₀.heap.get? b=some o/\X.H₀ b=none
 bsz:X.base.objs.size<=X.s₀.heap.objs.size
 noex : ∀b o,X.base.get? b=some o->b∉X.ex
 exfs : ∀b∈X.ex,b∉X.fs
 funs:X.s₀.heap.FunFrames X.base X.outer
 frf : ∀b∈X.fs,X.H₀ b=none
structure Inv(X:Cx)(pins:List (Addr×Obj))(σ:List (Option V))(H:Hp)(s:Shared):Prop where
 ok:X.Ok
 os:s.os=X.s₀.os
 bare:AllBare s.gens
 base:Un X.fs X.ex X.H₀ H X.s₀.heap s.heap
 loc : ∃m,s.heap.Ns X.env.locals m/\∀(i:Nat) (x:Str) (v:V),X.N[i]? = some x->σ[i]? = some (some v)->Vis X.env.scope x->∃u,RelV v u/\Look X.env s.heap m x u
 cell : ∀x c,X.env.cells.lookup x=some c->∃v,s.heap.IsCell c v
 free:H X.env.locals=none
 freeC : ∀x c,X.env.cells.lookup x=some c->H c=none
 pin : ∀p∈X.pn++pins,s.heap.get? p.1=some p.2/\H p.1=none/\p.1≠X.env.locals/\p.1∉X.fs/\∀v,p.2.data ≠ .cell v
 hok:HOk X.prog X.w H s.heap
 len:σ.length=X.N.length
section
variable{X:Cx}{pins:List (Addr×Obj)}{σ:List (Option V)}{H H':Hp}{s:Shared}{h':Heap}
theorem Cx.Ok.nofr(ok:X.Ok){b:Addr}{o:Obj}(e:X.base.get? b=some o):b∉X.fs:=λz=>by
 have:=(ok.funs.mem z).1;rw [e]at this;cases this
theorem Inv.bs(I:Inv X pins σ H s) : ∀b o,X.base.get? b=some o->s.heap.get? b=some o/\H b=none:=λb o e=>
 ⟨I.base.keep b o (I.ok.bs b o e).1 (I.ok.bs b o e).2 (I.ok.nofr e) (I.ok.noex b o e),I.base.free b o (I.ok.bs b o e).1 (I.ok.bs b o e).2 (I.ok.noex b o e)⟩
theorem Inv.bk(I:Inv X pins σ H s) : ∀b o,X.base.get? b=some o->s.heap.get? b=some o:=λb o e=>(I.bs b o e).1
theorem Inv.mod(I:Inv X pins σ H s):Mod X.K X.mg X.base:=I.ok.mod
theorem Inv.kIn(I:Inv X pins σ H s):X.K.In s.heap:=I.ok.mod.kin.keeps I.bk
theorem Inv.lt(I:Inv X pins σ H s):X.env.locals<s.heap.objs.size:=let ⟨_,hn,_⟩:=I.loc;hn.lt
theorem Inv.sz(I:Inv X pins σ H s):X.s₀.heap.objs.size<=s.heap.objs.size:=zjt I.ok.above (zlB I.lt)
theorem Inv.nofs(I:Inv X pins σ H s){a:Addr}(h:s.heap.objs.size<=a):a∉X.fs:=λz=>by
 obtain⟨_,o,O,_⟩:=I.ok.funs.mem z;exact absurd (ziF (ziw O) (zjt I.sz h)) (zi8 _)
theorem Inv.cne(I:Inv X pins σ H s) : ∀x c,X.env.cells.lookup x=some c->c≠X.env.locals:=λx c e z=>by
 obtain⟨v,o,O,hd⟩:=I.cell x c e;obtain⟨m,⟨o',es,Y,S,U,_⟩,_⟩:=I.loc;rw [z,S]at O;cases O;rw [U]at hd;cases hd
theorem Inv.funs(I:Inv X pins σ H s):s.heap.FunFrames X.base X.outer:=by
 have all : ∀(l:List Env),(∀b∈frs l,b∈X.fs)->X.s₀.heap.FunFrames X.base l->s.heap.FunFrames X.base l:=by
  intro l
  induction l with
  | nil=>intro _ _;trivial
  | cons env r Z=>
   intro Y hl;obtain⟨hk,⟨L,o,O,hn,ho,hd⟩,hr⟩:=hl;have S:L∈X.fs:=Y L (by unfold frs;rw [zlH,O];exact ziv);obtain⟨sl,e⟩:=I.base.slot L o ho (I.ok.frf L S) S λz=>I.ok.exfs L z S;exact⟨hk,⟨L,_,O,hn,e,hd⟩,Z (λb U=>Y b (by unfold frs;rw [zlH,O];exact ziu _ U)) hr⟩
 exact all X.outer (λ_ U=>U) I.ok.funs
theorem Inv.stack(I:Inv X pins σ H s):s.heap.FunFrames X.base X.stack:=by
 rcases I.ok.stk with e | ⟨e,z⟩
 ·rw [e];exact I.funs
 ·rw [e]
  obtain⟨m,hn,_⟩:=I.loc;refine .cons (by rw [I.ok.kind];decide) z hn ?_ I.funs;exact Heap.get?_none_of_le (zjt I.ok.bsz I.ok.above)
theorem Inv.stkSub(I:Inv X pins σ H s) : ∀b∈frs X.stack,b∈X.env.locals::X.fs:=λb z=>by
 rcases I.ok.stk with e | ⟨e,O⟩
 ·rw [e]at z;exact ziu _ z
 ·rw [e]at z
  unfold frs at z;rw [zlH,O]at z;exact z
theorem Inv.stkFree(I:Inv X pins σ H s) : ∀b∈frs X.stack,H b=none:=λb O=>by
 rcases ziq.mp (I.stkSub b O)with e | O
 ·rw [e];exact I.free
 ·obtain⟨_,o,S,_⟩:=I.ok.funs.mem O
  exact I.base.free b o S (I.ok.frf b O) λz=>I.ok.exfs b z O
theorem Inv.step{g':Array GenState}{t':Nat}{d':Drawn}{ch:List Addr}(I:Inv X pins σ H s)
 (U : ∀b∈ch,(b∈X.ex\/X.s₀.heap.objs.size<=b)/\b≠X.env.locals/\(∀x c,X.env.cells.lookup x=some c->c≠b)/\∀p∈X.pn++pins,p.1≠b)
 (keep : ∀b o,b≠X.env.locals->b∉X.fs->b∉ch->s.heap.get? b=some o->H b=none->h'.get? b=some o)
 (slot : ∀b o,b≠X.env.locals->b∈X.fs->b∉ch->s.heap.get? b=some o->H b=none->∃sl,h'.get? b=some {o with slots:=sl}) (free : ∀b o,b∉ch->s.heap.get? b=some o->H b=none->H' b=none)
 (there : ∀b o,b∉ch->s.heap.get? b=some o->∃o',h'.get? b=some o')
 (tups : ∀b xs,H b=some (.tup xs)->H' b=some (.tup xs)) (frzs : ∀b o u,H b=some (.frz o u)->H' b=some (.frz o u)) (tbls : ∀b ps,H b=some (.tbl ps)->∃more,H' b=some (.tbl (ps++more)))
 (ns : ∀m,s.heap.Ns X.env.locals m->h'.Ns X.env.locals m) (hok:HOk X.prog X.w H' h') (hg:AllBare g') :
 Inv X pins σ H' {s with heap:=h',gens:=g',drawn:=d',toks:=t'}:=by
 have a1 : ∀b o,X.s₀.heap.get? b=some o->b≠X.env.locals:=λb o e=>ziI (ziF (ziw e) I.ok.above);have a0 : ∀b o,X.s₀.heap.get? b=some o->b∉X.ex->b∉ch:=λb o e hx O=>by
  rcases (U b O).1 with z | z
  ·exact hx z
  ·exact absurd (ziF (ziw e) z) (zi8 _)
 have a2 : ∀x c,X.env.cells.lookup x=some c->∀v,s.heap.IsCell c v->h'.IsCell c v:=λx c e v hZ=>by
  obtain⟨o,S,hd⟩:=hZ;have Y:c∉ch:=λz=>(U c z).2.2.1 x c e rfl;by_cases hc:c∈X.fs
  ·obtain⟨sl,q⟩:=slot c o (I.cne x c e) hc Y S (I.freeC x c e)
   exact⟨_,q,hd⟩
  ·exact⟨o,keep c o (I.cne x c e) hc Y S (I.freeC x c e),hd⟩
 refine⟨I.ok,I.os,hg,⟨λb o e n O hx=>?_,λb o e n O hx=>?_,λb o e n hx=>?_,λb o e hx=>?_,λb xs e=>tups b xs (I.base.tups b xs e),λb o xs e=>frzs b o xs (I.base.frzs b o xs e),λb ps e=>?_⟩,?_,λx c e=>?_,?_,λx c e=>?_,λp hp=>?_,hok,I.len⟩
 ·exact keep b o (a1 b o e) O (a0 b o e hx) (I.base.keep b o e n O hx) (I.base.free b o e n hx)
 ·obtain⟨sl,e1⟩:=I.base.slot b o e n O hx
  obtain⟨a8,Z⟩:=slot b _ (a1 b o e) O (a0 b o e hx) e1 (I.base.free b o e n hx);exact⟨a8,Z⟩
 ·obtain⟨o',e1⟩:=I.base.there b o e hx
  exact free b o' (a0 b o e hx) e1 (I.base.free b o e n hx)
 ·obtain⟨o',e1⟩:=I.base.there b o e hx
  exact there b o' (a0 b o e hx) e1
 ·obtain⟨m1,e1⟩:=I.base.tbls b ps e
  obtain⟨m2,Z⟩:=tbls b _ e1;exact⟨m1++m2,by rw [Z,Array.append_assoc]⟩
 ·obtain⟨m,hn,hl⟩:=I.loc
  refine⟨m,ns m hn,λi x v e1 Z e3=>?_⟩;obtain⟨u,r,l⟩:=hl i x v e1 Z e3;refine⟨u,r,?_⟩;rcases l with l | ⟨k,c,e,z⟩
  ·exact .inl l
  ·exact .inr ⟨k,c,e,a2 x c e _ z⟩
 ·obtain⟨v,z⟩:=I.cell x c e
  exact⟨v,a2 x c e v z⟩
 ·obtain⟨m,⟨o,_,_,S,_⟩,_⟩:=I.loc
  exact free _ o (λz=>(U _ z).2.1 rfl) S I.free
 ·obtain⟨v,o,S,hd⟩:=I.cell x c e
  exact free c o (λz=>(U c z).2.2.1 x c e rfl) S (I.freeC x c e)
 ·obtain⟨e,n,ne,nf,d⟩:=I.pin p hp
  have Y:p.1∉ch:=λz=>(U p.1 z).2.2.2 p hp rfl;exact⟨keep p.1 p.2 ne nf Y e n,free p.1 p.2 Y e n,ne,nf,d⟩
theorem Inv.un{t':Nat}(I:Inv X pins σ H s)(u:Un X.fs [] H H' s.heap h')(hok:HOk X.prog X.w H' h'):Inv X pins σ H' {s with heap:=h',toks:=t'}:=by
 obtain⟨m,⟨o,es,ep,S,r⟩,_⟩:=id I.loc;obtain⟨sl,Y⟩:=u.any S I.free ⋯;exact I.step (g':=s.gens) (d':=s.drawn) (ch:=[]) (λ_ z=>nomatch z) (λb o _ O _ e n=>u.keep b o e n O ⋯) (λb o _ O _ e n=>u.slot b o e n O ⋯) (λb o _ e n=>u.free b o e n ⋯) (λb o _ e=>u.there b o e ⋯) u.tups u.frzs u.tbls (λm' hm=>by
  obtain⟨o',Z,a0,U,r'⟩:=hm;rw [S]at U;cases U;exact⟨_,Z,a0,Y,r'⟩) hok I.bare
theorem Inv.call{g':Array GenState}{t':Nat}{d':Drawn}{ch:List Addr}(I:Inv X pins σ H s)(u:Un (frs X.stack) ch H H' s.heap h')(hok:HOk X.prog X.w H' h')(hg:AllBare g')
 (U : ∀b∈ch,(b∈X.ex\/X.s₀.heap.objs.size<=b)/\b≠X.env.locals/\(∀x c,X.env.cells.lookup x=some c->c≠b)/\∀p∈X.pn++pins,p.1≠b) :
 Inv X pins σ H' {s with heap:=h',gens:=g',drawn:=d',toks:=t'}:=by
 obtain⟨m,⟨o,es,ep,Y,r⟩,_⟩:=id I.loc;obtain⟨sl,S⟩:=u.any Y I.free λz=>(U _ z).2.1 rfl;exact I.step (ch:=ch) U (λb o S hb O e n=>u.keep b o e n (λz=>(ziq.mp (I.stkSub b z)).elim S hb) O) (λb o _ _ O e n=>u.any e n O) (λb o O e n=>u.free b o e n O) (λb o O e=>u.there b o e O) u.tups u.frzs u.tbls (λm' hm=>by
  obtain⟨o',a2,a3,Z,r'⟩:=hm;rw [Y]at Z;cases Z;exact⟨_,a2,a3,S,r'⟩) hok hg
theorem Inv.turned{t':Nat}{it:Addr}(I:Inv X pins σ H s)(k : ∀b o,b≠it->s.heap.get? b=some o->h'.get? b=some o)(hn:H it=none)(S:it≠X.env.locals)
 (h1:it∈X.ex\/X.s₀.heap.objs.size<=it) (h2 : ∀x c,X.env.cells.lookup x=some c->c≠it) (Y : ∀p∈X.pn++pins,p.1≠it):Inv X pins σ H {s with heap:=h',toks:=t'}:=by
 have U : ∀b u,H b=some u->b≠it:=λb u e z=>by rw [z,hn]at e;cases e
 refine I.step (g':=s.gens) (d':=s.drawn) (ch:=[it]) (λb Z=>?_) (λb o _ _ O e _=>k b o (λz=>O (by simp [z])) e) (λb o _ _ O e _=>⟨o.slots,k b o (λz=>O (by simp [z])) e⟩) (λ_ _ _ _ n=>n)
  (λb o O e=>⟨o,k b o (λz=>O (by simp [z])) e⟩) (λ_ _ e=>e) (λ_ _ _ e=>e) (λb ps e=>⟨#[],by rw [e];simp⟩) (λm hm=>?_) (λb u e=>?_) I.bare
 ·have e:b=it:=by simpa using Z
  subst e;exact⟨h1,S,h2,Y⟩
 ·obtain⟨o,es,ep,ho,r⟩:=hm
  exact⟨o,es,ep,k _ o (zi6 S) ho,r⟩
 ·refine(I.hok b u e).stay (λc v O q=>k c v ?_ q) (λ_ q=>q) λ_ _ q=>q
  rcases O with z | z
  ·rw [z];exact U b u e
  ·exact U c _ z
theorem Inv.tok(I:Inv X pins σ H s)(t:Nat):Inv X pins σ H {s with toks:=t}:=I.un (h':=s.heap) (t':=t) Un.refl I.hok
theorem Inv.kept{t':Nat}(I:Inv X pins σ H s)(k : ∀b u,s.heap.get? b=some u->h'.get? b=some u):Inv X pins σ H {s with heap:=h',toks:=t'}:=I.un (Un.kept k) (I.hok.kept k)
theorem Inv.laid{a:Addr}{o:HO}{t':Nat}(I:Inv X pins σ H s)(k : ∀b u,s.heap.get? b=some u->h'.get? b=some u)(z:s.heap.objs.size<=a)(new:ObjOk X.prog X.w (upd H a o) h' a o) :
 Inv X pins σ (upd H a o) {s with heap:=h',toks:=t'}:=I.un (Un.laid k z (I.hok.fresh z)) (I.hok.laid k z new)
theorem Inv.write{x e:Addr}{o:HO}{t':Nat}(I:Inv X pins σ H s)(z:Mut (H x))(O:e=x\/H e=some (.own x))(k : ∀b u,b≠e->s.heap.get? b=some u->h'.get? b=some u)(S : ∃u,h'.get? e=some u)
 (new:ObjOk X.prog X.w (upd H x o) h' x o):Inv X pins σ (upd H x o) {s with heap:=h',toks:=t'}:=I.un (Un.write z O k S) (I.hok.write z O k S new)
theorem Inv.pins_of{O:List (Addr×Obj)}(I:Inv X pins σ H s)(h : ∀p∈O,s.heap.get? p.1=some p.2/\H p.1=none/\p.1≠X.env.locals/\p.1∉X.fs/\∀v,p.2.data ≠ .cell v):Inv X O σ H s:=
 ⟨I.ok,I.os,I.bare,I.base,I.loc,I.cell,I.free,I.freeC,λp S=>(zkB.mp S).elim (λz=>I.pin p (zlD _ z)) (h p),I.hok,I.len⟩
theorem XW{N:List Str}(z:N.Nodup){i j:Nat}{x:Str}(a:N[i]? = some x)(b:N[j]? = some x):i=j:=by
 obtain⟨h1,e1⟩:=zit.mp a;obtain⟨h2,I⟩:=zit.mp b;exact(List.getElem_inj z).mp (e1.trans I.symm)
theorem Jw{M:Model}{A:Around}{E:Value->Shared->Prop}{i:Nat}{x:Str}{v:V}{u:Value}{Q:Unit->Shared->Prop}(I:Inv X pins σ H s)(hN:X.N.Nodup)(hi:X.N[i]? = some x)(hx:Loc X.env.scope x)(r:RelV v u)
 (h : ∀s',Inv X pins (σ.set i (some v)) H s'->(∃a,zkl a s.heap s'.heap/\(a=X.env.locals\/X.env.cells.lookup x=some a))->Q () s') (hf:X.fn x=true\/X.env.scope.names.lookup x=some .local:=by first | exact .inl rfl | exact .inr rfl | assumption):wpAny M A (storeName X.env x u) Q E s:=by
 obtain⟨m,hn,hl⟩:=id I.loc;have ah:(X.env.scope.kind == .class || (X.env.scope.kind == .module && X.env.locals != X.env.globals))=false:=by rw [I.ok.kind];rfl
 have aa:i<σ.length:=by rw [I.len];exact(zit.mp hi).1
 have cne:=I.cne;have ab : ∀{a:Addr} {h':Heap},(∃o,s.heap.get? a=some o/\H a=none)->zkl a s.heap h'->HOk X.prog X.w H h':=λ{a h'} ha O b ob e=>by
  obtain⟨_,_,ac⟩:=ha;refine(I.hok b ob e).stay (λc w' S q=>(O.2 c ?_).trans q) (λ_ q=>q) λ_ _ q=>q;rintro rfl;rcases S with rfl | S
  ·rw [ac]at e;cases e
  ·rw [ac]at S;cases S
 rcases hx with Y | Y
 ·refine wpAny_storeName_local Y hn (λh' aj O=>?_) ah
  obtain⟨oL,_,_,al,_⟩:=id hn;refine h _ ⟨I.ok,I.os,I.bare,⟨λb o e n Z hx=>?_,λb o e n Z hx=>?_,I.base.free,λb o e hx=>?_,I.base.tups,I.base.frzs,I.base.tbls⟩,⟨_,aj,λj y v' e1 U e3=>?_⟩,λy c e=>?_,I.free,I.freeC,λp hp=>?_,ab ⟨oL,al,I.free⟩ O,by simpa using I.len⟩ ⟨_,O,.inl rfl⟩
  ·exact(O.2 b (ziI (ziF (ziw e) I.ok.above))).trans (I.base.keep b o e n Z hx)
  ·obtain⟨sl,e1⟩:=I.base.slot b o e n Z hx
   exact⟨sl,(O.2 b (ziI (ziF (ziw e) I.ok.above))).trans e1⟩
  ·obtain⟨o',e1⟩:=I.base.there b o e hx
   exact⟨o',(O.2 b (ziI (ziF (ziw e) I.ok.above))).trans e1⟩
  ·by_cases hj:j=i
   ·subst hj
    rw [hi]at e1;cases e1;rw [ziM aa]at U;cases U;exact⟨u,r,.inl ⟨Y,by simp⟩⟩
   ·rw [zis (zi6 hj)]at U
    obtain⟨u',r',q⟩:=hl j y v' e1 U e3;refine⟨u',r',?_⟩;rcases q with⟨k,e⟩ | ⟨k,c,e,z⟩
    ·refine .inl ⟨k,?_⟩
     have:y≠x:=λe=>hj (XW hN e1 (e ▸ hi));simp [this,e]
    ·exact .inr ⟨k,c,e,z.sameBut O (cne y c e)⟩
  ·obtain⟨w',z⟩:=I.cell y c e
   exact⟨w',z.sameBut O (cne y c e)⟩
  ·obtain⟨e,n,ne,nf,d⟩:=I.pin p hp
   exact⟨(O.2 p.1 ne).trans e,n,ne,nf,d⟩
 ·have a7:X.fn x=true:=by
   rcases hf with z | z
   ·exact z
   ·rw [z]at Y;cases Y
  obtain⟨c,S⟩:=I.ok.has x (.inl Y);obtain⟨w',z⟩:=I.cell x c S;refine wpAny_storeName_cell I.ok.kind Y S z (λh' ad O=>?_);obtain⟨oc,ae,am⟩:=id z;refine h {s with heap:=h'} ⟨I.ok,I.os,I.bare,⟨λb o e n Z hx=>?_,λb o e n Z hx=>?_,I.base.free,λb o e hx=>?_,I.base.tups,I.base.frzs,I.base.tbls⟩,⟨m,hn.sameBut O (zi6 (cne x c S)),λj y v' e1 U e3=>?_⟩,λy c' e=>?_,I.free,I.freeC,λp hp=>?_,ab ⟨oc,ae,I.freeC x c S⟩ O,by simpa using I.len⟩ ⟨c,O,.inr S⟩
  ·exact(O.2 b (ziI (ziF (ziw e) (I.ok.cab x c a7 S)))).trans (I.base.keep b o e n Z hx)
  ·obtain⟨sl,e1⟩:=I.base.slot b o e n Z hx
   exact⟨sl,(O.2 b (ziI (ziF (ziw e) (I.ok.cab x c a7 S)))).trans e1⟩
  ·obtain⟨o',e1⟩:=I.base.there b o e hx
   exact⟨o',(O.2 b (ziI (ziF (ziw e) (I.ok.cab x c a7 S)))).trans e1⟩
  ·by_cases hj:j=i
   ·subst hj
    rw [hi]at e1;cases e1;rw [ziM aa]at U;cases U;exact⟨u,r,.inr ⟨.inl Y,c,S,ad⟩⟩
   ·rw [zis (zi6 hj)]at U
    obtain⟨u',r',q⟩:=hl j y v' e1 U e3;refine⟨u',r',?_⟩;rcases q with q | ⟨k,c',e,z'⟩
    ·exact .inl q
    ·refine .inr ⟨k,c',e,z'.sameBut O ?_⟩
     rintro rfl;exact hj (XW hN e1 (I.ok.inj _ _ _ e S ▸ hi))
  ·by_cases af:c'=c
   ·subst af;exact⟨_,ad⟩
   ·obtain⟨w2,z2⟩:=I.cell y c' e
    exact⟨w2,z2.sameBut O af⟩
  ·obtain⟨e,n,ne,nf,d⟩:=I.pin p hp
   refine⟨(O.2 p.1 ?_).trans e,n,ne,nf,d⟩;intro q;rw [q,ae]at e;have q':oc=p.2:=zji e;exact d w' (by rw [<- q'];exact am)
theorem XE{M:Model}{A:Around}{E:Value->Shared->Prop}{i:Nat}{x:Str}{v:V}{u:Value}{Q:Unit->Shared->Prop}(I:Inv X pins σ H s)(z:X.N.Nodup)(hi:X.N[i]? = some x)(hx:Loc X.env.scope x)(r:RelV v u)
 (h : ∀s',Inv X pins (σ.set i (some v)) H s'->Q () s') (O:X.fn x=true\/X.env.scope.names.lookup x=some .local:=by first | exact .inl rfl | exact .inr rfl | assumption):wpAny M A (storeName X.env x u) Q E s:=
 Jw I z hi hx r (λs' S _=>h s' S) O
theorem Inv.call'{s':Shared}{ch:List Addr}(I:Inv X pins σ H s)(z:s'.os=s.os)(u:Un (frs X.stack) ch H H' s.heap s'.heap)(hok:HOk X.prog X.w H' s'.heap)(O:AllBare s'.gens)
 (S : ∀b∈ch,(b∈X.ex\/X.s₀.heap.objs.size<=b)/\b≠X.env.locals/\(∀x c,X.env.cells.lookup x=some c->c≠b)/\∀p∈X.pn++pins,p.1≠b):Inv X pins σ H' s':=by
 obtain⟨h',g',d',t',o'⟩:=s';have e:o'=s.os:=z;subst e;exact I.call (g':=g') (t':=t') (d':=d') u hok O S
end
abbrev XK:=Value->Option Addr->Hp->Prop
abbrev St:=List (Option V)
abbrev VK:=V->Hp->Prop
abbrev TE:=St->Hp->VK->Prop
abbrev TT:=St->Hp->(Bool->Hp->Prop)->Prop
abbrev TA:=St->Hp->(List V->Hp->Prop)->Prop
structure Ends where
 nx:St->Hp->Prop
 rt:VK
 bk:St->Hp->Prop:=λ_ _=>False
 ct:St->Hp->Prop:=λ_ _=>False
abbrev TS:=Ends->St->Hp->Prop
def EP(X:Cx)(pins:List (Addr×Obj))(σ:St)(Q:VK)(u:Value)(s':Shared):Prop:=∃v H',Inv X pins σ H' s'/\RelV v u/\Q v H'
def TP(X:Cx)(pins:List (Addr×Obj))(σ:St)(Q:Bool->Hp->Prop)(b:Bool)(s':Shared):Prop:=∃H',Inv X pins σ H' s'/\Q b H'
def AP(X:Cx)(pins:List (Addr×Obj))(σ:St)(Q:List V->Hp->Prop)(us:List Value)(s':Shared):Prop:=∃vs H',Inv X pins σ H' s'/\Vals vs us/\Q vs H'
def SP(X:Cx)(pins:List (Addr×Obj))(D:Ends)(f:Flow)(s':Shared):Prop:=
 match f with
 | .next=>∃z H',Inv X pins z H' s'/\D.nx z H'
 | .brk=>∃z H',Inv X pins z H' s'/\D.bk z H'
 | .cont=>∃z H',Inv X pins z H' s'/\D.ct z H'
 | .ret u=>∃v z H',Inv X pins z H' s'/\RelV v u/\D.rt v H'
def PE(X:Cx)(e:Expr)(t:TE):Prop:=
 ∀(pins:List (Addr×Obj)) (s:Shared) (σ:St) (H:Hp) (Q:VK),Inv X pins σ H s->t σ H Q->wpAny (model X.prog X.w) X.A (eval e X.env) (EP X pins σ Q) X.xe s
def PT(X:Cx)(e:Expr)(t:TT):Prop:=
 ∀(pins:List (Addr×Obj)) (s:Shared) (σ:St) (H:Hp) (Q:Bool->Hp->Prop),Inv X pins σ H s->t σ H Q->wpAny (model X.prog X.w) X.A (isTrue e X.env (eval e X.env)) (TP X pins σ Q) X.xe s
def PW(X:Cx)(e:Expr)(t:TT):Prop:=
 ∀(z:Sem Value) (pins:List (Addr×Obj)) (s:Shared) (σ:St) (H:Hp) (Q:Bool->Hp->Prop),Inv X pins σ H s->t σ H Q->wpAny (model X.prog X.w) X.A (isTrue e X.env z) (TP X pins σ Q) X.xe s
theorem PW.pt{X:Cx}{e:Expr}{t:TT}(h:PW X e t):PT X e t:=h _
def PA(X:Cx)(es:List Expr)(t:TA):Prop:=
 ∀(pos:Pos) (pins:List (Addr×Obj)) (s:Shared) (σ:St) (H:Hp) (Q:List V->Hp->Prop),Inv X pins σ H s->t σ H Q->wpAny (model X.prog X.w) X.A (spliced (backTo pos (starEach es X.env))) (AP X pins σ Q) X.xe s
def PS(X:Cx)(st:Stmt)(t:TS):Prop:=
 ∀(pins:List (Addr×Obj)) (s:Shared) (σ:St) (H:Hp) (D:Ends),Inv X pins σ H s->t D σ H->wpAny (model X.prog X.w) X.A (exec st X.env) (SP X pins D) X.xe s
def PSs(X:Cx)(st:List Stmt)(t:TS):Prop:=
 ∀(pins:List (Addr×Obj)) (s:Shared) (σ:St) (H:Hp) (D:Ends),Inv X pins σ H s->t D σ H->wpAny (model X.prog X.w) X.A (execs st X.env) (SP X pins D) X.xe s
theorem thn{α:Type}{t:Sem α}{Q z:α->Shared->Prop}{M:Model}{A:Around}{E:Value->Shared->Prop}{s:Shared}(h:wpAny M A t Q E s)(I : ∀a s,Q a s->z a s):wpAny M A t z E s:=zjW h I λ_ _ x=>x
section
variable{X:Cx}
def zdz(i:Nat):TE:=λσ H Q=>∃v,σ[i]? = some (some v)/\Q v H
def tC(v:V):TE:=λ_ H Q=>Q v H
theorem zev{i:Nat}{x:Str}{pos:Pos}(Y:X.N[i]? = some x)(Z:Vis X.env.scope x)(hd:(x==("__debug__" : Str))=false:=by decide)(a0:(x==("__classdict__" : Str))=false:=by decide):PE X (.Name x pos) (zdz i):=by
 intro pins s σ H Q I h;obtain⟨v,e,h⟩:=h;obtain⟨m,hn,hl⟩:=I.loc;obtain⟨u,r,l⟩:=hl i x v Y e Z;have O:EP X pins σ Q u s:=⟨v,H,I,r,h⟩;rcases l with⟨z,hm⟩ | ⟨z,c,S,U⟩
 ·exact wpAny_Name (wpAny_loadName_local I.ok.kind z hn hm O) hd
 ·rcases z with z | z
  ·exact wpAny_Name (wpAny_loadName_cell I.ok.kind z S U O) hd
  ·exact wpAny_Name (wpAny_loadName_free I.ok.kind z S U O a0) hd
theorem zeC{i j pos}:PE X (.Constant (.int i) j pos) (tC (.int i)):=λ_ _ _ H _ I h=>wpAny_Constant_int ⟨.int i,H,I.tok _,⟨_,rfl⟩,h⟩
theorem zgt{b j pos}:PE X (.Constant (.bool b) j pos) (tC (.bl b)):=λ_ _ _ H _ I h=>Constant_bool ⟨.bl b,H,I,rfl,h⟩
theorem zeA{j pos}:PE X (.Constant .none j pos) (tC .non):=λ_ _ _ H _ I h=>Constant_none ⟨.non,H,I,rfl,h⟩
theorem zex{x j pos}:PE X (.Constant (.str x) j pos) (tC (.str x)):=λ_ _ _ H _ I h=>Calls.Constant_str ⟨.str x,H,I.tok _,⟨_,rfl⟩,h⟩
def Gl(X:Cx)(x:Str):Prop:=X.env.kindOf x=some .globalImplicit
theorem VA{E:Value->Shared->Prop}{pins:List (Addr×Obj)}{s:Shared}{σ:St}{H:Hp}{x:Str}{u:Value}{pos:Pos}{Q:Value->Shared->Prop}(I:Inv X pins σ H s)(z:Gl X x)(hm:X.mg x=some u)(h:Q u s)
 (hd:(x==("__debug__" : Str))=false:=by decide):wpAny (model X.prog X.w) X.A (eval (.Name x pos) X.env) Q E s:=
 Calls.Name_function_global I.ok.kind z (Calls.loadGlobal_global (by rw [I.ok.glob];exact I.mod.glob.keeps I.bk) hm h) hd
theorem xt{E:Value->Shared->Prop}{pins:List (Addr×Obj)}{s:Shared}{σ:St}{H:Hp}{x:Str}{u:Value}{pos:Pos}{Q:Value->Shared->Prop}(I:Inv X pins σ H s)(z:Gl X x)(hm:X.mg x=none)(O:bootBuiltins x=some u)(h:Q u s)
 (hn:x ≠ "__name__":=by decide) (hd:(x==("__debug__" : Str))=false:=by decide):wpAny (model X.prog X.w) X.A (eval (.Name x pos) X.env) Q E s:=by
 obtain⟨mb,h1,h2⟩:=I.mod.blt;exact Calls.Name_function_global I.ok.kind z (Calls.loadGlobal_builtin (by rw [I.ok.glob];exact I.mod.glob.keeps I.bk) hm (by rw [I.ok.blt];exact h1.keeps I.bk) ((h2 x hn).trans O) h) hd
variable{a b:Expr}{ta tb:TE}{pos:Pos}
def PC(X:Cx)(z:CmpOp)(a b:Expr)(t:TE):Prop:=
 ∀(pins:List (Addr×Obj)) (s:Shared) (σ:St) (H:Hp) (Q:VK),Inv X pins σ H s->t σ H Q->
  wpAny (model X.prog X.w) X.A (eval a X.env) (λv I=>wpAny (model X.prog X.w) X.A (eval b X.env) (λu O=>wpAny (model X.prog X.w) X.A (compareOp z v u) (EP X pins σ Q) X.xe O) X.xe I) X.xe s
theorem zaL(b:Expr){z:CmpOp}(h:z ≠ .In)(h2:z ≠ .NotIn):behindInMarks z b=false:=by
 have e1:(z==CmpOp.In)=false:=by cases z<;>first | rfl | exact absurd rfl h
 have I:(z==CmpOp.NotIn)=false:=by cases z<;>first | rfl | exact absurd rfl h2
 cases b<;>simp [behindInMarks,e1,I]
def tB(t:TE):TT:=λσ H Q=>t σ H λx H1=>∃c,x = .bl c/\Q c H1
theorem zel{z:CmpOp}{t:TE}(h:PC X z a b t)(h1:behindInMarks z b=false:=by first | exact zaL _ ⋯ ⋯ | rfl):PT X (.Compare a [z] [b] pos) (tB t):=by
 intro pins s σ H Q I hw;refine wpAny_isTrue_Compare1 (thn (h pins s σ H _ I hw) λv s1 h1=>thn h1 λu s2 h2=>thn h2 λc Z O=>?_) h1;obtain⟨x,H1,S,U,Y⟩:=O;obtain⟨d,rfl,q⟩:=Y;cases U;exact zjp ⟨H1,S,q⟩
theorem zej{e:Expr}{t:TE}(h:PE X e t)(O : ∀z,isTrue e X.env z=(do let v <- z;standAt e.pos;holding [v] (truthy v)):=by intro _;rfl):PT X e (tB t):=by
 intro pins s σ H Q I hw;refine isTrue_plain (thn (h pins s σ H _ I hw) λv s1 S=>?_) (O _);obtain⟨x,H1,U,Y,Z⟩:=S;obtain⟨d,rfl,q⟩:=Z;cases Y;exact zjp ⟨H1,U,q⟩
variable{tA tB':TT}{rest:List Expr}
def zhU(t u:TT):TT:=λσ H Q=>t σ H λc H1=>if c=true then u σ H1 Q else Q false H1
def tOr(t u:TT):TT:=λσ H Q=>t σ H λc H1=>if c=true then Q true H1 else u σ H1 Q
def zhP(t:TT):TT:=λσ H Q=>t σ H λc H1=>Q (!c) H1
theorem zcm(ha:PT X a tA):PW X (.BoolOp .And [a] pos) tA:=by
 intro z pins s σ H Q I h;refine isTrue_and (thn (ha pins s σ H Q I h) λc s1 e=>?_);cases c with
 | true=>exact isTrue_and_nil e
 | false=>exact e
theorem zd9(ha:PT X a tA):PW X (.BoolOp .Or [a] pos) tA:=by
 intro z pins s σ H Q I h;refine isTrue_or (thn (ha pins s σ H Q I h) λc s1 e=>?_);cases c with
 | false=>exact isTrue_or_nil e
 | true=>exact e
theorem zea(ha:PT X a tA)(S:PW X (.BoolOp .And (b::rest) pos) tB'):PW X (.BoolOp .And (a::b::rest) pos) (zhU tA tB'):=by
 intro U pins s σ H Q I h;refine isTrue_and (thn (ha pins s σ H _ I h) λc s1 Y=>?_);obtain⟨H1,z,O⟩:=Y;cases c with
 | true=>exact S U pins s1 σ H1 Q z O
 | false=>exact⟨H1,z,O⟩
theorem zgp(ha:PT X a tA)(S:PW X (.BoolOp .Or (b::rest) pos) tB'):PW X (.BoolOp .Or (a::b::rest) pos) (tOr tA tB'):=by
 intro U pins s σ H Q I h;refine isTrue_or (thn (ha pins s σ H _ I h) λc s1 Y=>?_);obtain⟨H1,z,O⟩:=Y;cases c with
 | true=>exact⟨H1,z,O⟩
 | false=>exact S U pins s1 σ H1 Q z O
theorem zek(ha:PT X a tA):PT X (.UnaryOp .Not a pos) (zhP tA):=by
 intro pins s σ H Q I h;exact isTrue_not (ha pins s σ H (λc H1=>Q (!c) H1) I h)
def zgj(ta tb:TE):TE:=λσ H Q=>ta σ H λx H1=>∃c,x = .bl c/\if c=true then tb σ H1 Q else Q (.bl false) H1
def zgd(ta:TE):TE:=λσ H Q=>ta σ H λx H1=>∃c,x = .bl c/\Q (.bl (!c)) H1
theorem zey{op}{t:TE}(h:PE X a t):PE X (.BoolOp op [a] pos) t:=λpins s σ H Q I hw=>BoolOp_one (h pins s σ H Q I hw)
theorem zeE(ha:PE X a ta)(S:PE X (.BoolOp .And (b::rest) pos) tb):PE X (.BoolOp .And (a::b::rest) pos) (zgj ta tb):=by
 intro pins s σ H Q I h;refine BoolOp_and (thn (ha pins s σ H _ I h) λv s1 U=>?_);obtain⟨x,H1,O,Y,z⟩:=U;obtain⟨c,rfl,z⟩:=z;cases Y;refine zjp ?_;cases c with
 | true=>exact S pins s1 σ H1 Q O z
 | false=>exact⟨.bl false,H1,O,rfl,z⟩
theorem zez(ha:PE X a ta):PE X (.UnaryOp .Not a pos) (zgd ta):=by
 intro pins s σ H Q I h;refine UnaryOp_ (thn (ha pins s σ H _ I h) λv s1 O=>?_);obtain⟨x,H1,S,U,z⟩:=O;obtain⟨c,rfl,z⟩:=z;cases U;exact not_of (zjp ⟨.bl (!c),H1,S,rfl,z⟩)
def tIf(t:TT)(ta tb:TE):TE:=λσ H Q=>t σ H λc H1=>if c=true then ta σ H1 Q else tb σ H1 Q
theorem zaz{c:Expr}(S:PT X c tA)(ha:PE X a ta)(U:PE X b tb):PE X (.IfExp c a b pos) (tIf tA ta tb):=by
 intro pins s σ H Q I h;refine wpAny_IfExp (thn (S pins s σ H _ I h) λd s1 Y=>?_);obtain⟨H1,z,O⟩:=Y;cases d with
 | true=>exact ha pins s1 σ H1 Q z O
 | false=>exact U pins s1 σ H1 Q z O
end
def SqL(K:PySem.W.Frag)(H:Hp)(a:Addr)(xs:List V):Prop:=
 Rd H a (.lst xs)\/
  ∃(o:Obj) (z:Array Value) (n:Nat),K.lookup a=some o/\o.cls = .type "list"/\o.dict=none/\o.data = .seq z n/\z.size<=sizeLine/\Vals xs z.toList
def SqT(K:PySem.W.Frag)(H:Hp)(a:Addr)(xs:List V):Prop:=
 Rd H a (.tup xs)\/
  ∃(o:Obj) (z:Array Value) (n:Nat),K.lookup a=some o/\(o.cls,o.dict)=(zkm "tuple",none)/\o.data = .seq z n/\z.size<=sizeLine/\Vals xs z.toList
def zh9:Value->Option V
 | .none=>some .non
 | .bool b=>some (.bl b)
 | .int i _=>some (.int i)
 | .str x _=>some (.str x)
 | .bytes b _=>some (.byt b)
 | .float b _=>some (.flt b)
 | .ref a=>some (.ref a)
 | .type n=>some (.ty n)
 | _=>none
theorem RelV.abs{x:V}{u:Value}(r:RelV x u):zh9 u=some x:=by
 cases x with
 | non=>cases r;rfl
 | bl _=>cases r;rfl
 | int _=>obtain⟨t,rfl⟩:=r;rfl
 | str _=>obtain⟨t,rfl⟩:=r;rfl
 | byt _=>obtain⟨t,rfl⟩:=r;rfl
 | flt _=>obtain⟨t,rfl⟩:=r;rfl
 | ref _=>cases r;rfl
 | ty _=>cases r;rfl
theorem RelV.inj{x y:V}{u:Value}(r:RelV x u)(q:RelV y u):x=y:=zji (r.abs.symm.trans q.abs)
theorem Vals.inj : ∀{xs ys:List V} {us:List Value},Vals xs us->Vals ys us->xs=ys
 | _,_,_,.nil,.nil=>rfl
 | _,_,_,.cons r t,.cons r' t'=>by rw [r.inj r',Vals.inj t t']
section
variable{X:Cx}{pins:List (Addr×Obj)}{σ:St}{H:Hp}{s:Shared}{a:Addr}{xs ys:List V}
theorem SqL.of{K:PySem.W.Frag}(h:H a=some (.lst xs)):SqL K H a xs:= .inl (.inl h)
theorem SqT.of{K:PySem.W.Frag}(h:H a=some (.tup xs)):SqT K H a xs:= .inl (.inl h)
theorem Inv.list(I:Inv X pins σ H s)(h:SqL X.K H a xs) : ∃O:List Value,Vals xs O/\PlainL s.heap a O.toArray/\xs.length<=sizeLine:=by
 rcases h with h | ⟨o,O,n,S,U,hd,Y,Z,r⟩
 ·obtain⟨z,O,n,r,e⟩:=h.ok I.hok
  exact⟨O,r,⟨_,n,e,rfl,rfl,rfl⟩,z⟩
 ·refine⟨O.toList,r,⟨o,n,I.kIn a o S,U,hd,by simpa using Y⟩,?_⟩
  have e:=r.length;simp only [zjA]at e;omega
theorem Inv.tuple(I:Inv X pins σ H s)(h:SqT X.K H a xs) : ∃O:List Value,Vals xs O/\IsTup s.heap a O.toArray/\xs.length<=sizeLine:=by
 rcases h with h | ⟨o,O,n,S,U,Y,Z,r⟩
 ·obtain⟨z,O,r,p⟩:=h.ok I.hok
  exact⟨O,r,p.tup,z⟩
 ·refine⟨O.toList,r,⟨o,I.kIn a o S,(Prod.mk.inj U).1,n,by simpa using Y⟩,?_⟩
  have e:=r.length;simp only [zjA]at e;omega
theorem Inv.list_inj(I:Inv X pins σ H s)(h:SqL X.K H a xs)(h':SqL X.K H a ys):xs=ys:=by
 obtain⟨O,r,⟨o,n,e,_,_,d⟩,_⟩:=I.list h;obtain⟨its',r',⟨o',n',z,_,_,d'⟩,_⟩:=I.list h';rw [e]at z;cases z;rw [d]at d';injection d' with S _;have:O=its':=by simpa using congrArg Array.toList S
 subst this;exact r.inj r'
theorem Inv.tuple_inj(I:Inv X pins σ H s)(h:SqT X.K H a xs)(h':SqT X.K H a ys):xs=ys:=by
 obtain⟨O,r,⟨o,e,_,n,d⟩,_⟩:=I.tuple h;obtain⟨its',r',⟨o',z,_,n',d'⟩,_⟩:=I.tuple h';rw [e]at z;cases z;rw [d]at d';injection d' with S _;have:O=its':=by simpa using congrArg Array.toList S
 subst this;exact r.inj r'
end
abbrev Cx.wish(X:Cx)(E:Value->Shared->Prop):Cx:={X with xe:=E}
abbrev Cx.nox(X:Cx):Cx:=X.wish λ_ _=>False
theorem Cx.Ok.wish{X:Cx}(ok:X.Ok)(E:Value->Shared->Prop):(X.wish E).Ok:=
 ⟨ok.mod,ok.kind,ok.glob,ok.blt,ok.above,ok.inj,ok.has,ok.cab,ok.hd,ok.frames,ok.stk,ok.exf,ok.bs,ok.bsz,ok.noex,ok.exfs,ok.funs,ok.frf⟩
theorem Cx.Ok.unwish{X:Cx}{E:Value->Shared->Prop}(ok:(X.wish E).Ok):X.Ok:=
 ⟨ok.mod,ok.kind,ok.glob,ok.blt,ok.above,ok.inj,ok.has,ok.cab,ok.hd,ok.frames,ok.stk,ok.exf,ok.bs,ok.bsz,ok.noex,ok.exfs,ok.funs,ok.frf⟩
section
variable{X:Cx}{pins:List (Addr×Obj)}{σ:St}{H:Hp}{s:Shared}{E:Value->Shared->Prop}
theorem Inv.wish(I:Inv X pins σ H s)(E:Value->Shared->Prop):Inv (X.wish E) pins σ H s:=⟨I.ok.wish E,I.os,I.bare,I.base,I.loc,I.cell,I.free,I.freeC,I.pin,I.hok,I.len⟩
theorem Inv.unwish(I:Inv (X.wish E) pins σ H s):Inv X pins σ H s:=⟨I.ok.unwish,I.os,I.bare,I.base,I.loc,I.cell,I.free,I.freeC,I.pin,I.hok,I.len⟩
theorem SP.unwish{D:Ends}{f:Flow}{s':Shared}(h:SP (X.wish E) pins D f s'):SP X pins D f s':=by
 cases f with
 | next=>obtain⟨z,H',I,q⟩:=h;exact⟨z,H',I.unwish,q⟩
 | brk=>obtain⟨z,H',I,q⟩:=h;exact⟨z,H',I.unwish,q⟩
 | cont=>obtain⟨z,H',I,q⟩:=h;exact⟨z,H',I.unwish,q⟩
 | ret u=>obtain⟨v,z,H',I,r,q⟩:=h;exact⟨v,z,H',I.unwish,r,q⟩
theorem PSs.nox{st:List Stmt}{t:TS}(h:PSs X.nox st t):PSs X st t:=λpins s σ H D I hw=>
 zjW (h pins s σ H D (I.wish _) hw) (λ_ _ q=>q.unwish) λ_ _ z=>zj2 z
end
section
variable{X:Cx}{st:Stmt}{rest:List Stmt}{t u:TS}{e:Expr}{te:TE}{pos:Pos}
def zgf:TS:=λD σ H=>D.nx σ H
def zhN(t u:TS):TS:=λD σ H=>t {D with nx:=u D} σ H
theorem zct:PSs X [] zgf:=λ_ _ σ H _ I h=>wpAny_execs_nil ⟨σ,H,I,h⟩
theorem zak(h1:PS X st t)(h2:PSs X rest u):PSs X (st::rest) (zhN t u):=by
 intro pins s σ H D I h;refine wpAny_execs_cons (thn (h1 pins s σ H {D with nx:=u D} I h) λf s1 q=>?_);cases f with
 | next=>
  obtain⟨z,H',O,q⟩:=q;exact h2 pins s1 z H' D O q
 | ret v=>exact q
 | brk=>exact q
 | cont=>exact q
theorem zcs(h1:PS X st t):PSs X [st] t:=by
 intro pins s σ H D I h;refine wpAny_execs_cons (thn (h1 pins s σ H D I h) λf s1 q=>?_);cases f with
 | next=>exact wpAny_execs_nil q
 | ret v=>exact q
 | brk=>exact q
 | cont=>exact q
def zgi:TS:=λD σ H=>D.ct σ H
theorem QR:PS X (.Continue pos) zgi:=λ_ _ σ H _ I h=>wpAny_Continue ⟨σ,H,I,h⟩
theorem Inv.quiet{pins:List (Addr×Obj)}{σ:St}{H:Hp}{s:Shared}(I:Inv X pins σ H s):interactive X.env=false:=by simp [interactive,I.ok.kind]
def zgg(te:TE):TS:=λD σ H=>te σ H λ_ H1=>D.nx σ H1
theorem zcv(z:PE X e te)(O:swapsWith e none pos.line X.env=pure false:=by rfl):PS X (.Expr e pos) (zgg te):=by
 intro pins s σ H D I h;exact wpAny_Expr_any (thn (z pins s σ H _ I h) λv s1 ⟨x,H1,S,Y,U⟩=>⟨σ,H1,S,U⟩) I.quiet O
def zhO(te:TE):TS:=λD σ H=>te σ H D.rt
theorem Y7(z:PE X e te):PS X (.Return (some e) pos) (zhO te):=by
 intro pins s σ H D I h;exact wpAny_Return_some (thn (z pins s σ H _ I h) λv s1 ⟨x,H1,O,S,U⟩=>⟨x,σ,H1,O,S,U⟩)
def zhR(c:TT)(t u:TS):TS:=λD σ H=>c σ H λb H1=>if b=true then t D σ H1 else u D σ H1
theorem zgq{c:Expr}{a b:List Stmt}{tc:TT}(S:PT X c tc)(ha:PSs X a t)(U:PSs X b u):PS X (.If c a b pos) (zhR tc t u):=by
 intro pins s σ H D I h;refine wpAny_If (thn (S pins s σ H _ I h) λd s1 Y=>?_);obtain⟨H1,z,O⟩:=Y;cases d with
 | true=>exact ha pins s1 σ H1 D z O
 | false=>exact U pins s1 σ H1 D z O
def zdM:TS:=λ_ _ _=>False
theorem zap:PS X st zdM:=λ_ _ _ _ _ _ h=>h.elim
end
abbrev TG:=V->St->Hp->(St->Hp->Prop)->Prop
abbrev TGs:=List V->St->Hp->(St->Hp->Prop)->Prop
def PG(X:Cx)(I:Expr)(t:TG):Prop:=
 ∀(pins:List (Addr×Obj)) (s:Shared) (σ:St) (H:Hp) (v:V) (u:Value) (Q:St->Hp->Prop),Inv X pins σ H s->RelV v u->t v σ H Q->
  wpAny (model X.prog X.w) X.A (assign I X.env u) (λ_ s'=>∃z H',Inv X pins z H' s'/\Q z H') X.xe s
def PGs(X:Cx)(ts:List Expr)(t:TGs):Prop:=
 ∀(pins:List (Addr×Obj)) (s:Shared) (σ:St) (H:Hp) (vs:List V) (us:List Value) (Q:St->Hp->Prop),Inv X pins σ H s->Vals vs us->t vs σ H Q->
  wpAny (model X.prog X.w) X.A (assignInOrder ((assignEach ts X.env).map (·.2)) us) (λ_ s'=>∃z H',Inv X pins z H' s'/\Q z H') X.xe s
abbrev zg9:=V->V->V->Hp->(Hp->Prop)->Prop
def zhJ(X:Cx)(t:zg9):Prop:=
 ∀(pins:List (Addr×Obj)) (s:Shared) (σ:St) (H:Hp) (o i v:V) (z I u:Value) (Q:Hp->Prop),Inv X pins σ H s->RelV o z->RelV i I->RelV v u->t o i v H Q->
  wpAny (model X.prog X.w) X.A (setItem z I u) (λ_ s'=>∃H',Inv X pins σ H' s'/\Q H') X.xe s
section
variable{X:Cx}{pos:Pos}
def ya(i:Nat):TG:=λv σ H Q=>Q (σ.set i (some v)) H
theorem Vf{i:Nat}{x:Str}(z:X.N.Nodup)(hi:X.N[i]? = some x)(hx:Loc X.env.scope x)(O:X.fn x=true\/X.env.scope.names.lookup x=some .local:=by first | exact .inl rfl | exact .inr rfl | assumption):PG X (.Name x pos) (ya i):=by
 intro pins s σ H v u Q I r h;exact wpAny_assign_Name (XE I z hi hx r (λs' S=>⟨_,H,S,h⟩) O)
def zhy:TGs:=λvs σ H Q=>vs=[]/\Q σ H
def zfb(t:TG)(u:TGs):TGs:=λvs σ H Q=>∃v r,vs=v::r/\t v σ H λz H'=>u r z H' Q
theorem j1:PGs X [] zhy:=by
 intro pins s σ H vs us Q I r h;obtain⟨e,h⟩:=h;subst e;cases r;exact assignInOrder_nil ⟨σ,H,I,h⟩
theorem zN{e:Expr}{es:List Expr}{t:TG}{u:TGs}(h1:PG X e t)(h2:PGs X es u)
 (z:(assignEach (e::es) X.env).map (·.2)=assign e X.env::(assignEach es X.env).map (·.2):=by rfl):PGs X (e::es) (zfb t u):=by
 intro pins s σ H vs us Q I r h;obtain⟨v,vr,e1,h⟩:=h;subst e1;cases r with
 | cons r O=>
  rw [z];refine assignInOrder_cons (thn (h1 pins s σ H _ _ _ I r h) λ_ s1 S=>?_);obtain⟨U,H1,Y,Z⟩:=S;exact h2 pins s1 U H1 _ _ Q Y O Z
def zhx(K:PySem.W.Frag)(n:Nat)(t:TGs):TG:=λv σ H Q=>∃a xs,v = .ref a/\SqT K H a xs/\xs.length=n/\t xs σ H Q
theorem zeu{es:List Expr}{k:Nat}{t:TGs}{n:Nat}(O:X.calm=true)(h:PGs X es t)
 (hn:(assignEach es X.env).length=n:=by rfl) (S:(assignEach es X.env).findIdx? (·.1)=none:=by rfl):PG X (.Tuple es k pos) (zhx X.K n t):=by
 intro pins s σ H v u Q I r hw;obtain⟨a,xs,e1,U,Y,hw⟩:=hw;subst e1;cases r;obtain⟨a1,z,Z,hz⟩:=I.tuple U;refine assign_Tuple_tuple (I.ok.hd O) Z (by simp [hn,<- Y,z.length]) S λh' hx=>?_;have I1:Inv X pins σ H {s with heap:=h'}:=I.kept (t':=s.toks) λb o e=>hx b o (ziI (ziw e)) e;exact h pins _ σ H xs _ Q I1 (by simpa using z) hw
def zh6(to z:TE)(t:zg9):TG:=λv σ H Q=>to σ H λo H1=>z σ H1 λi H2=>t o i v H2 λI=>Q σ I
theorem Ve{o i:Expr}{to U:TE}{t:zg9}(Y:PE X o to)(hi:PE X i U)(Z:zhJ X t)
 (ha : ∀v,assign (.Subscript o i pos) X.env v=(do
   let z <- holding [v] (eval o X.env);let O <- holding [v,z] (eval i X.env)
   standAt pos
   holding [v,z,O] (setItem z O v)
   release [v,z,O] []):=by intro _;rfl):PG X (.Subscript o i pos) (zh6 to U t):=by
 intro pins s σ H v u Q I r h;rw [ha];refine zid (zjH (thn (Y pins s σ H _ I h) λz s1 S=>?_));obtain⟨x,H1,I1,r1,q1⟩:=S;refine zid (zjH (thn (hi pins s1 σ H1 _ I1 q1) λO s2 S=>?_));obtain⟨y,H2,I2,r2,q2⟩:=S;refine zid (zma (zid (zjH (thn (Z pins s2 σ H2 x y v z O u _ I2 r1 r2 r q2) λ_ s3 S=>?_))));obtain⟨H3,I3,q3⟩:=S;exact wpAny_release ⟨σ,H3,I3,q3⟩
def YH(te:TE)(g:TG):TS:=λD σ H=>te σ H λx H1=>g x σ H1 D.nx
theorem JM{tg e:Expr}{te:TE}{g:TG}(z:PE X e te)(O:PG X tg g)(S:swapsWithSole [tg] e pos.line X.env=pure false:=by rfl)(hw:swappedStores [tg] e X.env=pure none:=by rfl)
 (h1:(assignEach [tg] X.env).map (·.2)=[assign tg X.env]:=by rfl):PS X (.Assign [tg] e pos) (YH te g):=by
 intro pins s σ H D I h;refine wpAny_Assign_stores (thn (z pins s σ H _ I h) λv s1 U=>?_) S hw;obtain⟨x,H1,Y,Z,q1⟩:=U;rw [h1];exact thn (O pins s1 σ H1 x v _ Y Z q1) λ_ s2 q=>q
theorem zem{i:Nat}{x:Str}{e:Expr}{te:TE}{pos':Pos}(z:X.N.Nodup)(hi:X.N[i]? = some x)(hx:Loc X.env.scope x)(O:PE X e te)(S:swapsWith e (some (.Name x pos')) pos.line X.env=pure false:=by rfl)(U:X.fn x=true\/X.env.scope.names.lookup x=some .local:=by first | exact .inl rfl | exact .inr rfl | assumption) :
 PS X (.Assign [.Name x pos'] e pos) (YH te (ya i)):=by
 intro pins s σ H D I h;refine wpAny_Assign_Name (thn (O pins s σ H _ I h) λv s1 Y=>?_) S;obtain⟨y,H1,Z,r1,q1⟩:=Y;exact XE Z z hi hx r1 (λs2 I2=>⟨_,H1,I2,q1⟩) U
end
structure It where
 go:Nat->Hp->Prop
 yld:Nat->Hp->V->Hp->Prop
 stop:Nat->Hp->Prop
def FpOk(X:Cx)(pins:List (Addr×Obj))(H:Hp)(b:Addr):Prop:=
 H b=none/\b≠X.env.locals/\b∉X.fs/\(b∈X.ex\/X.s₀.heap.objs.size<=b)/\(∀x c,X.env.cells.lookup x=some c->c≠b)/\∀p∈X.pn++pins,p.1≠b
theorem Inv.fpOk{X:Cx}{pins:List (Addr×Obj)}{σ:St}{H H':Hp}{s:Shared}{b:Addr}(I:Inv X pins σ H s)(O:s.heap.objs.size<=b)(hn:H' b=none):FpOk X pins H' b:=by
 refine⟨hn,zjI (ziF I.lt O),I.nofs O,.inr (zjt I.sz O),λx c e z=>?_,λp S z=>?_⟩
 ·obtain⟨v,q⟩:=I.cell x c e
  exact absurd (ziF q.lt (by rw [z];exact O)) (zi8 _)
 ·exact absurd (ziF (ziw (I.pin p S).1) (by rw [z];exact O)) (zi8 _)
structure Turn(P:Program)(w:World)(K:PySem.W.Frag)(tg:Expr)(J:It)(fp:List Addr)(it:Addr)(tn:Nat->Heap->Prop):Prop where
 mem:it∈fp
 obj : ∀i h,tn i h->∀b∈fp,∃o,h.get? b=some o/\∀v,o.data ≠ .cell v
 keep : ∀i h h',tn i h->(∀b∈fp,∀o,h.get? b=some o->h'.get? b=some o)->tn i h'
 item : ∀(X:Cx),X.prog=P->X.w=w->X.K=K->X.calm=true->∀(i:Nat) (pins:List (Addr×Obj)) (s:Shared) (σ:St) (H:Hp) (E:Value->Shared->Prop),Inv X pins σ H s->(∀b∈fp,FpOk X pins H b)->tn i s.heap->J.go i H->
  wpAny (model P w) X.A (pyNext (.ref it)) (λr s1=>∃u,r=some u/\
   wpAny (model P w) X.A (letOwnedTupleGo tg (.ref it) u) (λ_ s2=>∃x H',Inv X pins σ H' s2/\RelV x u/\J.yld i H x H'/\tn (i+1) s2.heap/\∀b∈fp,H' b=none) E s1) E s
 done : ∀(X:Cx),X.prog=P->X.w=w->X.K=K->X.calm=true->∀(i:Nat) (pins:List (Addr×Obj)) (s:Shared) (σ:St) (H:Hp) (E:Value->Shared->Prop),Inv X pins σ H s->(∀b∈fp,FpOk X pins H b)->tn i s.heap->J.stop i H->
  wpAny (model P w) X.A (pyNext (.ref it)) (λr s1=>r=none/\Inv X pins σ H s1) E s
 self : ∀(A:Around) (i:Nat) (s:Shared) (Q:Value->Shared->Prop) (E:Value->Shared->Prop),tn i s.heap->Q (.ref it) s->wpAny (model P w) A (pyIter (.ref it)) Q E s
abbrev TI:=St->Hp->(It->Hp->Prop)->Prop
def PIE(X:Cx)(pins:List (Addr×Obj))(σ:St)(tg:Expr)(R:It->Hp->Prop)(z:Value)(s2:Shared):Prop:=
 ∃(it:Addr) (fp:List Addr) (tn:Nat->Heap->Prop) (J:It) (H':Hp),z = .ref it/\Inv X pins σ H' s2/\Turn X.prog X.w X.K tg J fp it tn/\tn 0 s2.heap/\(∀b∈fp,FpOk X pins H' b)/\R J H'
def PI(X:Cx)(tg iter:Expr)(wi:TI):Prop:=
 ∀(pins:List (Addr×Obj)) (s:Shared) (σ:St) (H:Hp) (R:It->Hp->Prop),Inv X pins σ H s->wi σ H R->
  wpAny (model X.prog X.w) X.A (eval iter X.env) (λv s1=>wpAny (model X.prog X.w) X.A (pyIter v) (PIE X pins σ tg R) X.xe s1) X.xe s
theorem zc7{M:Model}{A:Around}{E:Value->Shared->Prop}{s:Shared}{tg:Expr}{it:Addr}{u:Value}{o:Obj}{n:String}{vs:Array Value}{Q:Unit->Shared->Prop}(I:s.heap.get? it=some o)(O:o.cls = .type n)(hd:o.data = .fields vs)
 (hn:["enumerate","zip","dict_itemiterator","dict_reverseitemiterator","odict_iterator","itertools.zip_longest","itertools.pairwise"].contains n=false) (z:Q () s):wpAny M A (letOwnedTupleGo tg (.ref it) u) Q E s:=by
 unfold letOwnedTupleGo;cases tg<;>first
  | exact zik z
  | (cases u<;>first
      | exact zik z
      | (refine zid (wpAny_load I ?_)
         rw [O,hd];show wpAny M A (if (["enumerate","zip","dict_itemiterator","dict_reverseitemiterator","odict_iterator","itertools.zip_longest","itertools.pairwise"].contains n && vs[0]? == some (rawInt _))=true then _ else _) Q E s;rw [if_neg (by intro h;rw [hn,zkO]at h;cases h)];exact zik z))
def Itl(K:PySem.W.Frag)(a:Addr):It:=
 ⟨λi H=>∃xs x,SqL K H a xs/\xs[i]? = some x,λi H x H'=>H'=H/\∀xs,SqL K H a xs->xs[i]? = some x,λi H=>∃xs,SqL K H a xs/\xs.length<=i⟩
def Itt(K:PySem.W.Frag)(a:Addr):It:=
 ⟨λi H=>∃xs x,SqT K H a xs/\xs[i]? = some x,λi H x H'=>H'=H/\∀xs,SqT K H a xs->xs[i]? = some x,λi H=>∃xs,SqT K H a xs/\xs.length<=i⟩
def Itr(lo:Int)(n:Nat):It:=⟨λi _=>i<n,λi H x H'=>H'=H/\x = .int (lo+i),λi _=>n<=i⟩
theorem Yy{P:Program}{w:World}{K:PySem.W.Frag}{tg:Expr}(a it:Addr):Turn P w K tg (Itl K a) [it] it (λi h=>h.IsListIter it a i) where
 mem:=by simp
 obj:=λi h st b O=>by
  have e:b=it:=by simpa using O
  subst e;obtain⟨o,e,c,d⟩:=st;exact⟨o,e,λv z=>by rw [d]at z;cases z⟩
 keep:=λi h h' st k=>st.at λo e=>k it ⋯ o e
 item:=by
  intro X Y hw Z hc i pins s σ H E I S st hg;subst Y hw Z;obtain⟨xs,x,U,hx⟩:=hg;obtain⟨a9,rv,p,hz⟩:=I.list U;obtain⟨u,hu,ru⟩:=rv.get hx;obtain⟨f0,f1,f2,f3,f4,f5⟩:=S it ⋯;refine wpAny_pyNext_list_item st p.isList (x:=u) (by simpa using hu) λh' a8 sb=>?_;have I1:Inv X pins σ H {s with heap:=h'}:=I.turned (t':=s.toks) (λb o O e=>(sb.2 b O).trans e) f0 f1 f3 f4 f5;obtain⟨o,e,c,d⟩:=id a8;exact⟨u,rfl,zc7 (s:={s with heap:=h'}) e c d ⋯ ⟨x,H,I1,ru,⟨rfl,λys hy=>by rw [I.list_inj hy U];exact hx⟩,a8,λb O=>(S b O).1⟩⟩
 done:=by
  intro X Y hw Z hc i pins s σ H E I S st hg;subst Y hw Z;obtain⟨xs,U,hx⟩:=hg;obtain⟨a9,rv,p,hz⟩:=I.list U;obtain⟨f0,f1,f2,f3,f4,f5⟩:=S it ⋯;have hl:=rv.length;exact wpAny_pyNext_list_end (I.ok.hd hc) st p.isList (by simp;omega) λh' eb=>⟨rfl,I.turned (t':=s.toks) (λb o O e=>eb b o O e) f0 f1 f3 f4 f5⟩
 self:=λ_ _ _ _ _ st h=>wpAny_pyIter_listiter st h
theorem Kt{P:Program}{w:World}{K:PySem.W.Frag}{tg:Expr}(a it:Addr):Turn P w K tg (Itt K a) [it] it (λi h=>h.IsTupleIter it a i) where
 mem:=by simp
 obj:=λi h st b O=>by
  have e:b=it:=by simpa using O
  subst e;obtain⟨o,e,c,d⟩:=st;exact⟨o,e,λv z=>by rw [d]at z;cases z⟩
 keep:=λi h h' st k=>st.at λo e=>k it ⋯ o e
 item:=by
  intro X Y hw Z hc i pins s σ H E I S st hg;subst Y hw Z;obtain⟨xs,x,U,hx⟩:=hg;obtain⟨a1,rv,p,hz⟩:=I.tuple U;obtain⟨u,hu,ru⟩:=rv.get hx;obtain⟨f0,f1,f2,f3,f4,f5⟩:=S it ⋯;refine wpAny_pyNext_tuple_item st (show s.heap.IsTuple a a1.toArray from p) (x:=u) (by simpa using hu) λh' a9 sb=>?_;have I1:Inv X pins σ H {s with heap:=h'}:=I.turned (t':=s.toks) (λb o O e=>(sb.2 b O).trans e) f0 f1 f3 f4 f5;obtain⟨o,e,c,d⟩:=id a9;exact⟨u,rfl,zc7 (s:={s with heap:=h'}) e c d ⋯ ⟨x,H,I1,ru,⟨rfl,λys hy=>by rw [I.tuple_inj hy U];exact hx⟩,a9,λb O=>(S b O).1⟩⟩
 done:=by
  intro X Y hw Z hc i pins s σ H E I S st hg;subst Y hw Z;obtain⟨xs,U,hx⟩:=hg;obtain⟨a1,rv,p,hz⟩:=I.tuple U;obtain⟨f0,f1,f2,f3,f4,f5⟩:=S it ⋯;have hl:=rv.length;exact wpAny_pyNext_tuple_end (I.ok.hd hc) st (show s.heap.IsTuple a a1.toArray from p) (by simp;omega) λh' eb=>⟨rfl,I.turned (t':=s.toks) (λb o O e=>eb b o O e) f0 f1 f3 f4 f5⟩
 self:=λ_ _ _ _ _ st h=>wpAny_pyIter_tupleiter st h
theorem Ku{P:Program}{w:World}{K:PySem.W.Frag}{tg:Expr}(it:Addr)(lo:Int)(n:Nat):Turn P w K tg (Itr lo n) [it] it (λi h=>IsRangeIter h it (lo+(i:Nat)*1) ((n:Int) - (i:Nat)) 1) where
 mem:=by simp
 obj:=λi h st b O=>by
  have e:b=it:=by simpa using O
  subst e;exact⟨_,st,λv z=>by
   have z':Data.fields _=Data.cell v:=z;cases z'⟩
 keep:=λi h h' st k=>k it ⋯ _ st
 item:=by
  intro X U hw Y Z i pins s σ H E I S st hg;subst U hw Y;obtain⟨f0,f1,f2,f3,f4,f5⟩:=S it ⋯;have W:=Walks.range (prog:=X.prog) (w:=X.w) (I.ok.hd Z) it lo 1 n;refine W.item i s _ _ hg st λv h' tk hv a6 kk=>?_;obtain⟨t,rfl⟩:=hv;have I1:Inv X pins σ H {s with heap:=h',toks:=tk}:=I.turned (λb o O e=>kk b o (by simpa using O) e) f0 f1 f3 f4 f5;refine⟨_,rfl,zc7 (s:={s with heap:=h',toks:=tk}) (n:="range_iterator") a6 rfl rfl ⋯ ⟨.int (lo+i),H,I1,⟨t,?_⟩,⟨rfl,rfl⟩,a6,λb O=>(S b O).1⟩⟩;rw [Int.mul_one]
 done:=by
  intro X U hw Y Z i pins s σ H E I S st hg;subst U hw Y;obtain⟨f0,f1,f2,f3,f4,f5⟩:=S it ⋯;exact wpAny_pyNext_range_end (I.ok.hd Z) st (by have:n<=i:=hg;omega) λh' eb=>⟨rfl,I.turned (t':=s.toks) (λb o O e=>eb b o O e) f0 f1 f3 f4 f5⟩
 self:=λ_ _ _ _ _ st h=>wpAny_pyIter_rangeiter st h
section
variable{X:Cx}{tg:Expr}
theorem XN{pins:List (Addr×Obj)}{σ:St}{H:Hp}{s:Shared}{R:It->Hp->Prop}{E:Value->Shared->Prop}{lo hi:Int}{t u v:Tok}{tk:Nat}(I:Inv X pins σ H s)(h1 : -(2 ^ 62)<=lo)(h2:lo<2 ^ 62)(O : -(2 ^ 62)<=hi)(S:hi<2 ^ 62)
 (q:R (Itr lo (hi - lo).toNat) H):wpAny (model X.prog X.w) X.A (pyIter (.ref s.heap.objs.size)) (PIE X pins σ tg R) E {s with heap:=s.heap.push {cls:= .type "range",data:= .fields #[.int lo t,.int hi u,.int 1 v]},toks:=tk}:=by
 refine wpAny_pyIter_range (IsRange.new ..) (small_one h1 h2 O S) ?_;have z:Inv X pins σ H {s with heap:=s.heap.push {cls:= .type "range",data:= .fields #[.int lo t,.int hi u,.int 1 v]},toks:=tk}:=I.kept λb o e=>zif _ e;refine⟨(s.heap.push {cls:= .type "range",data:= .fields #[.int lo t,.int hi u,.int 1 v]}).objs.size,[(s.heap.push {cls:= .type "range",data:= .fields #[.int lo t,.int hi u,.int 1 v]}).objs.size],_,_,H,rfl,
  z.kept (t':=tk) λb o e=>zif _ e,Ku _ lo (hi - lo).toNat,?_,λb U=>?_,q⟩
 ·have e1:lo+((0:Nat):Int)*1=lo:=by simp
  have Y:(((hi - lo).toNat:Nat):Int) - ((0:Nat):Int)=Builtin.Range.rangeSize lo hi 1:=by rw [rangeSize_one];split<;>omega
  show IsRangeIter _ _ (lo+((0:Nat):Int)*1) ((((hi - lo).toNat:Nat):Int) - ((0:Nat):Int)) 1;rw [e1,Y];exact zix _ rfl
 ·have e:b=(s.heap.push {cls:= .type "range",data:= .fields #[.int lo t,.int hi u,.int 1 v]}).objs.size:=by simpa using U
  subst e;exact z.fpOk (zim _) (z.hok.fresh (zim _))
def zgG(ta:TA):TI:=λσ H R=>ta σ H λvs H1=>∃j:Int,vs=[.int j]/\ -(2 ^ 62)<=j/\j<2 ^ 62/\R (Itr 0 j.toNat) H1
def zgF(ta:TA):TI:=λσ H R=>ta σ H λvs H1=>∃i j:Int,vs=[.int i,.int j]/\(-(2 ^ 62)<=i/\i<2 ^ 62/\ -(2 ^ 62)<=j/\j<2 ^ 62)/\R (Itr i (j - i).toNat) H1
theorem Vd{a:Expr}{ta:TA}{p pos:Pos}(O:Gl X "range")(hm:X.mg "range" = none)(ha:PA X [a] ta)(S:starEach [a] X.env=[(false,eval a X.env)]:=by rfl):PI X tg (.Call (.Name "range" p) [a] [] pos) (zgG ta):=by
 intro pins s σ H R I h;refine Call_ (xt I O hm boot_range (zi7 (thn (ha pos pins s σ H _ I h) λus s1 U=>?_) S rfl));obtain⟨vs,H1,Y,Z,z⟩:=U;obtain⟨j,e,z,q2,q⟩:=z;subst e;cases Z with
 | cons r rr=>
  cases rr;obtain⟨t,rfl⟩:=r;exact call_range_1 (XN Y ⋯ ⋯ z q2 (by simpa using q))
theorem Vb{a b:Expr}{ta:TA}{p pos:Pos}(U:Gl X "range")(hm:X.mg "range" = none)(ha:PA X [a,b] ta)(Y:starEach [a,b] X.env=[(false,eval a X.env),(false,eval b X.env)]:=by rfl)(S:starEach [b] X.env=[(false,eval b X.env)]:=by rfl) :
 PI X tg (.Call (.Name "range" p) [a,b] [] pos) (zgF ta):=by
 intro pins s σ H R I h;refine Call_ (xt I U hm boot_range (zi7 (thn (ha pos pins s σ H _ I h) λus s1 Z=>?_) (by rw [Y,S]) (by rw [S];rfl)));obtain⟨vs,H1,I1,r1,z⟩:=Z;obtain⟨i,j,e,⟨z,q2,q3,q4⟩,q⟩:=z;subst e;cases r1 with
 | cons r O=>
  cases O with
  | cons r' O=>
   cases O;obtain⟨t,rfl⟩:=r;obtain⟨t',rfl⟩:=r';exact call_range_2 (XN I1 z q2 q3 q4 q)
def zhS(wi:TI)(g:TG)(tb:TS):TS:=λD σ H=>wi σ H λJ H1=>∃W:Nat->Nat->St->Hp->Prop,(∃m,W 0 m σ H1)/\∀i m σ H,W i m σ H->
 (J.stop i H/\D.nx σ H)\/(J.go i H/\∃N:St->Hp->Prop,(∀z H',N z H'->∃m',m'<m/\W (i+1) m' z H')/\∀x H',J.yld i H x H'->g x σ H' λI H2=>tb {D with nx:=N,ct:=N,bk:=D.nx} I H2)
def JP(fp:List Addr)(h:Heap):List (Addr×Obj):=fp.filterMap λb=>(h.get? b).map λo=>(b,o)
theorem ku{fp:List Addr}{h:Heap}{b:Addr}{o:Obj}(z:b∈fp)(e:h.get? b=some o):(b,o)∈JP fp h:=List.mem_filterMap.mpr ⟨b,z,by rw [e];rfl⟩
theorem Vl{fp:List Addr}{h:Heap}{p:Addr×Obj}(z:p∈JP fp h):p.1∈fp/\h.get? p.1=some p.2:=by
 obtain⟨b,I,e⟩:=List.mem_filterMap.mp z;cases q:h.get? b with
 | none=>rw [q]at e;cases e
 | some o=>
  rw [q]at e;have O:(b,o)=p:=zji e;subst O;exact⟨I,q⟩
theorem Inv.pinned{pins:List (Addr×Obj)}{σ:St}{H:Hp}{s:Shared}{fp:List Addr}(I:Inv X pins σ H s)(U : ∀b∈fp,FpOk X pins H b)(Y : ∀b∈fp,∃o,s.heap.get? b=some o/\∀v,o.data ≠ .cell v):Inv X (pins++JP fp s.heap) σ H s:=
 I.pins_of λp Z=>(zkB.mp Z).elim (λz=>I.pin p (ziG _ z)) λz=>by
  obtain⟨O,e⟩:=Vl z;obtain⟨f0,f1,f2,_⟩:=U p.1 O;obtain⟨o,S,d⟩:=Y p.1 O;rw [e]at S;cases S;exact⟨e,f0,f1,f2,d⟩
theorem Inv.unpinned{pins z:List (Addr×Obj)}{σ:St}{H:Hp}{s:Shared}(I:Inv X (pins++z) σ H s):Inv X pins σ H s:=I.pins_of λp O=>I.pin p (ziG _ (zlD _ O))
theorem zen{iter:Expr}{body:List Stmt}{wi:TI}{g:TG}{tb:TS}{pos:Pos}(hp:PassesOwn (model X.prog X.w) X.A X.env X.xe)(hc:X.calm=true)(hi:PI X tg iter wi)(hg:PG X tg g)(z:PSs X body tb)
 (hs : ∀x,foldedSetIterable iter X.env x=pure x:=by intro _;rfl):PS X (.For tg iter body [] pos) (zhS wi g tb):=by
 intro pins s σ H D I h;refine wpAny_For (thn (hi pins s σ H _ I h) λv s1 h1=>thn h1 λbb s2 h2=>?_) hs;obtain⟨it,fp,tn,J,H2,e,I2,T,ak,f2,W,⟨m0,w0⟩,an⟩:=h2;subst e;have a5 : ∀{H':Hp},(∀b∈fp,H' b=none)->∀b∈fp,FpOk X pins H' b:=λhn b z=>⟨hn b z,(f2 b z).2⟩;refine codeAny_forLoop_any (λn s'=>∃i σ' H',Inv X pins σ' H' s'/\tn i s'.heap/\(∀b∈fp,H' b=none)/\W i n σ' H') ?_ m0 ⟨0,σ,H2,I2,ak,λb z=>(f2 b z).1,w0⟩;rintro n s3 ⟨i,σ3,H3,I3,ad,ae,w3⟩;rcases an i n σ3 H3 w3 with⟨stop,qn⟩ | ⟨go,N,hN,step⟩
 ·refine zla hp (thn (T.done X rfl rfl rfl hc i pins s3 σ3 H3 X.xe I3 (a5 ae) ad stop) λr s4 Z=>?_)
  obtain⟨hr,I4⟩:=Z;subst hr;exact wpAny_execs_nil ⟨σ3,H3,I4,qn⟩
 ·refine zla hp (thn (T.item X rfl rfl rfl hc i pins s3 σ3 H3 X.xe I3 (a5 ae) ad go) λr s4 Z=>?_)
  obtain⟨u,hr,h4⟩:=Z;subst hr;refine zla hp (thn h4 λ_ s5 Z=>?_);obtain⟨x,H5,I5,r5,y5,a7,ay⟩:=Z;have az:=I5.pinned (a5 ay) (T.obj _ _ a7);refine zla hp (thn (hg _ s5 σ3 H5 x u _ az r5 (step x H5 y5)) λ_ s6 Z=>?_);obtain⟨σ6,H6,I6,q6⟩:=Z;refine zla hp (thn (z _ s6 σ6 H6 _ I6 q6) λf s7 Y=>?_);have again : ∀{O:St} {S:Hp},Inv X (pins++JP fp s5.heap) O S s7->N O S->∃m,m<n/\∃i σ' H',Inv X pins σ' H' s7/\tn i s7.heap/\(∀b∈fp,H' b=none)/\W i m σ' H':=λ{O S} U n7=>by
   obtain⟨m',hm,w7⟩:=hN O S n7;refine⟨m',hm,i+1,O,S,U.unpinned,T.keep _ _ _ a7 λb z o e=>(U.pin (b,o) (ziG _ (ziG _ (ku z e)))).1,λb z=>?_,w7⟩;obtain⟨o,e,d⟩:=T.obj _ _ a7 b z;exact(U.pin (b,o) (ziG _ (ziG _ (ku z e)))).2.1
  cases f with
  | next=>obtain⟨O,S,U,n7⟩:=Y;exact again U n7
  | cont=>obtain⟨O,S,U,n7⟩:=Y;exact again U n7
  | brk=>obtain⟨O,S,U,Y⟩:=Y;exact⟨O,S,U.unpinned,Y⟩
  | ret v=>obtain⟨x7,O,S,U,r7,Y⟩:=Y;exact⟨x7,O,S,U.unpinned,r7,Y⟩
end
theorem Qa{lo:Int}{n:Nat}{g:TG}{tb:TS}{D:Ends}{σ:St}{H:Hp}(z:Nat->St->Hp->Prop)(U:z 0 σ H)
 (Y : ∀i σ H,i<n->z i σ H->g (.int (lo+i)) σ H λI H2=>tb {D with nx:=z (i+1),ct:=z (i+1),bk:=D.nx} I H2) (hd : ∀σ H,z n σ H->D.nx σ H) :
 ∃W:Nat->Nat->St->Hp->Prop,(∃m,W 0 m σ H)/\∀i m σ H,W i m σ H->
  ((Itr lo n).stop i H/\D.nx σ H)\/((Itr lo n).go i H/\∃N:St->Hp->Prop,(∀O H',N O H'->∃m',m'<m/\W (i+1) m' O H')/\∀x H',(Itr lo n).yld i H x H'->g x σ H' λI H2=>tb {D with nx:=N,ct:=N,bk:=D.nx} I H2):=by
 refine⟨λi m σ H=>m=n - i/\i<=n/\z i σ H,⟨n,by simp,zjj _,U⟩,?_⟩;rintro i m σ H ⟨rfl,hi,p⟩;by_cases S:i<n
 ·refine .inr ⟨S,z (i+1),λO H' p'=>⟨n - (i+1),by omega,rfl,S,p'⟩,λx H' y=>?_⟩
  obtain⟨e,y⟩:=y;subst e y;exact Y i σ _ S p
 ·have e:i=n:=by omega
  subst e;exact .inl ⟨zim _,hd σ H p⟩
abbrev R2:=V->V->Hp->VK->Prop
def OpR(X:Cx)(f:Value->Value->Sem Value)(r:R2):Prop:=
 ∀(pins:List (Addr×Obj)) (s:Shared) (σ:St) (H:Hp) (x y:V) (v u:Value) (Q:VK),Inv X pins σ H s->RelV x v->RelV y u->r x y H Q->
  wpAny (model X.prog X.w) X.A (f v u) (EP X pins σ Q) X.xe s
def UnR(X:Cx)(f:Value->Sem Value)(r:V->Hp->VK->Prop):Prop:=
 ∀(pins:List (Addr×Obj)) (s:Shared) (σ:St) (H:Hp) (x:V) (v:Value) (Q:VK),Inv X pins σ H s->RelV x v->r x H Q->
  wpAny (model X.prog X.w) X.A (f v) (EP X pins σ Q) X.xe s
def vb(X:Cx)(f:Value)(r:List V->Hp->VK->Prop):Prop:=
 ∀(pins:List (Addr×Obj)) (s:Shared) (σ:St) (H:Hp) (xs:List V) (us:List Value) (Q:VK),Inv X pins σ H s->Vals xs us->r xs H Q->
  wpAny (model X.prog X.w) X.A (call f us) (EP X pins σ Q) X.xe s
def zia(X:Cx)(r:V->Hp->(Bool->Hp->Prop)->Prop):Prop:=
 ∀(pins:List (Addr×Obj)) (s:Shared) (σ:St) (H:Hp) (x:V) (v:Value) (Q:Bool->Hp->Prop),Inv X pins σ H s->RelV x v->r x H Q->
  wpAny (model X.prog X.w) X.A (truthy v) (TP X pins σ Q) X.xe s
def tOp(r:R2)(ta tb:TE):TE:=λσ H Q=>ta σ H λx H1=>tb σ H1 λy H2=>r x y H2 Q
def tUn(r:V->Hp->VK->Prop)(ta:TE):TE:=λσ H Q=>ta σ H λx H1=>r x H1 Q
def rI(C:Int->Int->Prop)(g:Int->Int->V):R2:=λx y H Q=>∃i j,x = .int i/\y = .int j/\C i j/\Q (g i j) H
def rI0(g:Int->Int->V):R2:=λx y H Q=>∃i j,x = .int i/\y = .int j/\Q (g i j) H
def rU(g:Int->V):V->Hp->VK->Prop:=λx H Q=>∃i,x = .int i/\Q (g i) H
section
variable{X:Cx}{a b c:Expr}{ta tb tc:TE}{pos:Pos}
theorem zgR(ha:PE X a ta)(O:PE X b tb){pins:List (Addr×Obj)}{s:Shared}{σ:St}{H:Hp}{R:V->V->Hp->Prop}(I:Inv X pins σ H s)
 (h:ta σ H λx H1=>tb σ H1 λy H2=>R x y H2) {Q:Value->Shared->Prop} {f:Value->Value->Sem Value}
 (S : ∀v u s2 x y H2,Inv X pins σ H2 s2->RelV x v->RelV y u->R x y H2->wpAny (model X.prog X.w) X.A (f v u) Q X.xe s2) :
 wpAny (model X.prog X.w) X.A (eval a X.env) (λv U=>wpAny (model X.prog X.w) X.A (eval b X.env) (λu Y=>wpAny (model X.prog X.w) X.A (f v u) Q X.xe Y) X.xe U) X.xe s:=by
 refine thn (ha pins s σ H _ I h) λv s1 z=>?_;obtain⟨x,H1,Z,r1,q1⟩:=z;refine thn (O pins s1 σ H1 _ Z q1) λu s2 z=>?_;obtain⟨y,H2,I2,r2,q2⟩:=z;exact S v u s2 x y H2 I2 r1 r2 q2
theorem zcF{z:Operator}{r:R2}(O:OpR X (binaryOp z) r)(ha:PE X a ta)(S:PE X b tb):PE X (.BinOp a z b pos) (tOp r ta tb):=by
 intro pins s σ H Q I h;exact wpAny_BinOp (zgR ha S I h λv u s2 x y H2 U Y Z q=>O pins s2 σ H2 x y v u Q U Y Z q)
theorem zgs{z:UnaryOp}{r:V->Hp->VK->Prop}(O:UnR X (unaryOp z) r)(ha:PE X a ta):PE X (.UnaryOp z a pos) (tUn r ta):=by
 intro pins s σ H Q I h;exact UnaryOp_ (thn (ha pins s σ H _ I h) λv s1 ⟨x,H1,S,U,Y⟩=>O pins s1 σ H1 x v Q S U Y)
theorem opI{f:Value->Value->Sem Value}{C:Int->Int->Prop}{g:Int->Int->Int}
 (rule : ∀(i j:Int) (t u:Tok) (s:Shared) (Q:Value->Shared->Prop) (E:Value->Shared->Prop),C i j->Q (.int (g i j) s.toks) {s with toks:=s.toks+1}->wpAny (model X.prog X.w) X.A (f (.int i t) (.int j u)) Q E s) :
 OpR X f (rI C λi j=> .int (g i j)):=by
 intro pins s σ H x y v u Q I z O h;obtain⟨i,j,rfl,rfl,S,q⟩:=h;obtain⟨t,rfl⟩:=z;obtain⟨t',rfl⟩:=O;exact rule i j t t' s _ _ S ⟨.int (g i j),H,I.tok _,⟨_,rfl⟩,q⟩
theorem zho{f:Value->Value->Sem Value}{g:Int->Int->Int}
 (rule : ∀(i j:Int) (t u:Tok) (s:Shared) (Q:Value->Shared->Prop) (E:Value->Shared->Prop),Q (.int (g i j) s.toks) {s with toks:=s.toks+1}->wpAny (model X.prog X.w) X.A (f (.int i t) (.int j u)) Q E s) :
 OpR X f (rI0 λi j=> .int (g i j)):=by
 intro pins s σ H x y v u Q I z O h;obtain⟨i,j,rfl,rfl,q⟩:=h;obtain⟨t,rfl⟩:=z;obtain⟨t',rfl⟩:=O;exact rule i j t t' s _ _ ⟨.int (g i j),H,I.tok _,⟨_,rfl⟩,q⟩
theorem zgv{f:Value->Value->Sem Value}{g:Int->Int->Bool}
 (rule : ∀(i j:Int) (t u:Tok) (s:Shared) (Q:Value->Shared->Prop) (E:Value->Shared->Prop),Q (.bool (g i j)) s->wpAny (model X.prog X.w) X.A (f (.int i t) (.int j u)) Q E s) :
 OpR X f (rI0 λi j=> .bl (g i j)):=by
 intro pins s σ H x y v u Q I z O h;obtain⟨i,j,rfl,rfl,q⟩:=h;obtain⟨t,rfl⟩:=z;obtain⟨t',rfl⟩:=O;exact rule i j t t' s _ _ ⟨.bl (g i j),H,I,rfl,q⟩
def zhL(i j:Int):Prop:=0<j/\j<1073741824
def zhK(i j:Int):Prop:=0<=j/\j<=1000000/\i.natAbs<2 ^ 64
def CMul(i j:Int):Prop:=(-(2 ^ 64)<i/\i<2 ^ 64)\/(-(2 ^ 64)<j/\j<2 ^ 64)
theorem CMul.ok{i j:Int}(h:CMul i j):IntMulOk i j:=by
 rcases h with⟨h1,h2⟩ | ⟨h1,h2⟩
 ·exact .of_left (intBits_le_64 h1 h2)
 ·exact .of_right (intBits_le_64 h1 h2)
theorem op_add:OpR X (binaryOp .Add) (rI0 λi j=> .int (i+j)):=zho λ_ _ _ _ _ _ _ q=>add_int q
theorem zeI:OpR X (binaryOp .Sub) (rI0 λi j=> .int (i - j)):=zho λ_ _ _ _ _ _ _ q=>sub_int q
theorem op_mul:OpR X (binaryOp .Mult) (rI CMul λi j=> .int (i*j)):=opI λ_ _ _ _ _ _ _ z q=>mul_int q z.ok
theorem zcM:OpR X (binaryOp .FloorDiv) (rI zhL λi j=> .int (i/j)):=opI λi j _ _ _ _ _ z q=>by
 have h1:(0:Int)<j:=z.1;have h2:j<1073741824:=z.2;exact floordiv_int ⋯ (by rw [Int.fdiv_eq_ediv_of_nonneg i ⋯];exact q) (.inl (PyProof.noPylong_small ⋯))
theorem zeM:OpR X (binaryOp .Mod) (rI (λ_ j=>0<j) λi j=> .int (i%j)):=opI λi j _ _ _ _ _ z q=>by
 have h1:(0:Int)<j:=z;exact mod_int' ⋯ (by rw [Int.fmod_eq_emod_of_nonneg i ⋯];exact q)
theorem zeK:OpR X (binaryOp .Pow) (rI zhK λi j=> .int (i ^ j.toNat)):=opI λ_ _ _ _ _ _ _ z q=>pow_int_small z.1 z.2.1 z.2.2 q
theorem unI{f:Value->Sem Value}{g:Int->Int}
 (rule : ∀(i:Int) (t:Tok) (s:Shared) (Q:Value->Shared->Prop) (E:Value->Shared->Prop),Q (.int (g i) s.toks) {s with toks:=s.toks+1}->wpAny (model X.prog X.w) X.A (f (.int i t)) Q E s) :
 UnR X f (rU λi=> .int (g i)):=by
 intro pins s σ H x v Q I z h;obtain⟨i,rfl,q⟩:=h;obtain⟨t,rfl⟩:=z;exact rule i t s _ _ ⟨.int (g i),H,I.tok _,⟨_,rfl⟩,q⟩
theorem zdI:UnR X (unaryOp .USub) (rU λi=> .int (-i)):=unI λ_ _ _ _ _ q=>neg_int q
end
section
variable{X:Cx}{a b c:Expr}{ta tb tc:TE}{pos:Pos}
theorem zfe{pins:List (Addr×Obj)}{σ:St}{H:Hp}{s:Shared}{Q:VK}{k z:Bool}(I:Inv X pins σ H s)(q:Q (.bl k) H)(e:k=z):EP X pins σ Q (.bool z) s:=by
 subst e;exact⟨.bl k,H,I,rfl,q⟩
theorem zcL:OpR X (compareOp .Lt) (rI0 λi j=> .bl (decide (i<j))):=zgv λ_ _ _ _ _ _ _ q=>lt_int q
theorem K1:OpR X (compareOp .LtE) (rI0 λi j=> .bl (decide (i<=j))):=zgv λ_ _ _ _ _ _ _ q=>le_int q
theorem zgu:OpR X (compareOp .Gt) (rI0 λi j=> .bl (decide (j<i))):=zgv λ_ _ _ _ _ _ _ q=>gt_int q
theorem zeN:OpR X (compareOp .Is) (λx y H Q=>y = .non/\Q (.bl (decide (x = .non))) H):=by
 intro pins s σ H x y v u Q I z O h;obtain⟨rfl,q⟩:=h;cases O;refine is_none_gen (zfe I q ?_);cases x<;>first
  | (cases z;rfl)
  | (obtain⟨t,rfl⟩:=z;rfl)
theorem OpR.or{f:Value->Value->Sem Value}{r r':R2}(h:OpR X f r)(h':OpR X f r'):OpR X f (λx y H Q=>r x y H Q\/r' x y H Q):=by
 intro pins s σ H x y v u Q I z O q;rcases q with q | q
 ·exact h pins s σ H x y v u Q I z O q
 ·exact h' pins s σ H x y v u Q I z O q
theorem JT(b:Expr){z:CmpOp}(h:z ≠ .In:=by decide)(h2:z ≠ .NotIn:=by decide):behindInMarks z b=false:=by
 have e1:(z==CmpOp.In)=false:=by cases z<;>first | rfl | exact absurd rfl h
 have I:(z==CmpOp.NotIn)=false:=by cases z<;>first | rfl | exact absurd rfl h2
 cases b<;>simp [behindInMarks,e1,I]
theorem zcH{z:CmpOp}{r:R2}(O:OpR X (compareOp z) r)(ha:PE X a ta)(S:PE X b tb)(hm:behindInMarks z b=false):PE X (.Compare a [z] [b] pos) (tOp r ta tb):=by
 intro pins s σ H Q I h;exact wpAny_Compare1 (zgR ha S I h λv u s2 x y H2 U Y Z q=>O pins s2 σ H2 x y v u Q U Y Z q) hm
def zb3(t:TE):TT:=λσ H Q=>t σ H λx H'=>∃k,x = .bl k/\Q k H'
theorem Y3{O:CmpOp}{r:R2}(S:OpR X (compareOp O) r)(ha:PE X a ta)(U:PE X b tb)(hm:behindInMarks O b=false):PT X (.Compare a [O] [b] pos) (zb3 (tOp r ta tb)):=by
 intro pins s σ H Q I h;refine wpAny_isTrue_Compare1 (thn (ha pins s σ H _ I h) λv s1 ⟨x,H1,Y,Z,q1⟩=>thn (U pins s1 σ H1 _ Y q1) λu s2 ⟨y,H2,I2,r2,q2⟩=>
  thn (S pins s2 σ H2 x y v u _ I2 Z r2 q2) λc s3 ⟨z,H3,I3,r3,k,e,q3⟩=>?_) hm
 subst e;cases r3;exact zjp ⟨H3,I3,q3⟩
def zbx(r r':R2)(ta tb tc:TE):TE:=λσ H Q=>ta σ H λx H1=>tb σ H1 λy H2=>r x y H2 λz I=>∃k,z = .bl k/\
 (if k=true then tc σ I λw' O=>r' y w' O Q else Q (.bl false) I)
theorem zaA{O S:CmpOp}{r r':R2}(ho:OpR X (compareOp O) r)(a1:OpR X (compareOp S) r')(ha:PE X a ta)(hb:PE X b tb)(hc:PE X c tc)
 (hm:lastMarks [O,S] [b,c]=false:=by with_unfolding_all rfl):PE X (.Compare a [O,S] [b,c] pos) (zbx r r' ta tb tc):=by
 intro pins s σ H Q I h;refine Compare_chain (thn (ha pins s σ H _ I h) λv s1 ⟨x,H1,I1,r1,q1⟩=>chain_link (thn (hb pins s1 σ H1 _ I1 q1) λu s2 ⟨y,H2,I2,r2,q2⟩=>
  thn (ho pins s2 σ H2 x y v u _ I2 r1 r2 q2) λd s3 ⟨z,U,Y,r3,k,e,Z⟩=>?_)) hm
 subst e;cases r3;refine zjp ?_;cases k with
 | false=>exact ite_ff ⟨.bl false,U,Y,rfl,Z⟩
 | true=>exact ite_tt (chain_last (thn (hc pins s3 σ U _ Y Z) λw' s4 ⟨z',H4,I4,r4,q4⟩=>a1 pins s4 σ H4 y z' u w' Q I4 r2 r4 q4))
theorem zaj{O S:CmpOp}{r r':R2}(ho:OpR X (compareOp O) r)(a1:OpR X (compareOp S) r')(ha:PE X a ta)(hb:PE X b tb)(hc:PE X c tc)
 (hm:lastMarks [O,S] [b,c]=false:=by with_unfolding_all rfl):PT X (.Compare a [O,S] [b,c] pos) (zb3 (zbx r r' ta tb tc)):=by
 intro pins s σ H Q I h;refine isTrue_chain (thn (ha pins s σ H _ I h) λv s1 ⟨x,H1,I1,r1,q1⟩=>test_link (thn (hb pins s1 σ H1 _ I1 q1) λu s2 ⟨y,H2,I2,r2,q2⟩=>
  thn (ho pins s2 σ H2 x y v u _ I2 r1 r2 q2) λd s3 ⟨z,U,Y,r3,k,e,Z⟩=>?_)) hm
 subst e;cases r3;refine zjp ?_;cases k with
 | false=>
  obtain⟨k',e',q'⟩:=Z;cases e';exact ite_ff ⟨U,Y,q'⟩
 | true=>
  refine ite_tt (test_last (thn (hc pins s3 σ U _ Y Z) λw' s4 ⟨z',H4,I4,r4,q4⟩=>thn (a1 pins s4 σ H4 y z' u w' _ I4 r2 r4 q4) λd' s5 ⟨z2,H5,I5,r5,k2,e2,q5⟩=>?_));subst e2;cases r5;exact zjp ⟨H5,I5,q5⟩
def zhI(K:PySem.W.Frag)(x:V)(H:Hp)(k:Bool):Prop:=
 match x with
 | .non=>k=false
 | .bl b=>k=b
 | .int i=>k=(i != 0)
 | .str y=>y.length<=sizeLine/\k=((y.length:Int) != 0)
 | .byt y=>y.size<=sizeLine/\k=((y.size:Int) != 0)
 | .ref p=>(∃xs,SqL K H p xs/\k = !xs.isEmpty)\/(∃xs,SqT K H p xs/\k = !xs.isEmpty)\/∃kvs,H p=some (.dK kvs)/\k = !kvs.isEmpty
 | _=>False
theorem Ya{κ:Type}{kvs:List (κ×V)}{vs:List (κ×Value)}(r:KV kvs vs):(!vs.isEmpty) = !kvs.isEmpty:=by
 cases r<;>rfl
theorem Zh{xs:List V}{z:List Value}(r:Vals xs z):(!z.toArray.isEmpty) = !xs.isEmpty:=by
 cases r<;>simp
theorem vX:(sizeLine:Nat)<2 ^ 63:=by rw [zkr];decide
theorem zdK:zia X (λx H Q=>∃k,zhI X.K x H k/\Q k H):=by
 intro pins s σ H x v Q I O h;obtain⟨k,e,q⟩:=h;have hl:=vX;have hs:sizeLine=16777216:=zkr;cases x with
 | non=>
  cases O;have z:k=false:=e;subst z;exact truthy_none ⟨H,I,q⟩
 | bl b=>
  cases O;have z:k=b:=e;subst z;exact zjp ⟨H,I,q⟩
 | int i=>
  obtain⟨t,rfl⟩:=O;have z:k=(i != 0):=e;subst z;exact PySem.P.truthy_int ⟨H,I,q⟩
 | str y=>
  obtain⟨t,rfl⟩:=O;obtain⟨Z,z⟩:y.length<=sizeLine/\k=((y.length:Int) != 0):=e;subst z;exact PySem.P.truthy_str ⋯ ⟨H,I.tok _,q⟩
 | byt y=>
  obtain⟨t,rfl⟩:=O;obtain⟨Z,z⟩:y.size<=sizeLine/\k=((y.size:Int) != 0):=e;subst z;exact PySem.W.truthy_bytes ⋯ ⟨H,I.tok _,q⟩
 | ref p=>
  cases O;have z:(∃xs,SqL X.K H p xs/\k = !xs.isEmpty)\/(∃xs,SqT X.K H p xs/\k = !xs.isEmpty)\/∃kvs,H p=some (.dK kvs)/\k = !kvs.isEmpty:=e;rcases z with⟨xs,hx,z⟩ | ⟨xs,hx,z⟩ | ⟨kvs,hx,z⟩
  ·subst z
   obtain⟨a0,r,S,U⟩:=I.list hx;have Y:=r.length;exact wpAny_truthy_list S.isList (by simp only [zir];omega) ⟨H,I.tok _,by rw [Zh r];exact q⟩
  ·subst z
   obtain⟨a0,r,S,U⟩:=I.tuple hx;have Y:=r.length;exact truthy_tuple S (by simp only [zir];omega) ⟨H,I.tok _,by rw [Zh r];exact q⟩
  ·subst z
   obtain⟨U,hS,vs,r,m⟩:kvs.length<=sizeLine/\(p==sysModules)=false/\∃vs,KV kvs vs/\s.heap.DictOf (qA X.prog X.w) p vs:=I.hok p _ hx;have Y:kvs.length=vs.length:=Paired.length r;exact wpAny_truthy_dict hS m ⋯ ⟨H,I.tok _,by rw [Ya r];exact q⟩
 | _=>exact(show False from e).elim
theorem zai(ha:PE X a ta)(O : ∀z,isTrue a X.env z=(do let v <- z;standAt a.pos;holding [v] (truthy v))) :
 PT X a (λσ H Q=>ta σ H λx H'=>∃k,zhI X.K x H' k/\Q k H'):=by
 intro pins s σ H Q I h;exact isTrue_plain (thn (ha pins s σ H _ I h) λv s1 ⟨x,H1,S,U,Y⟩=>zdK pins s1 σ H1 x v Q S U Y) (O _)
theorem xR{x:V}{us:List Value}(r:Vals [x] us) : ∃u,us=[u]/\RelV x u:=by
 cases r with
 | cons z r2=>cases r2;exact⟨_,rfl,z⟩
theorem zdG{x y:V}{us:List Value}(r:Vals [x,y] us) : ∃u w',us=[u,w']/\RelV x u/\RelV y w':=by
 cases r with
 | cons z r2=>
  cases r2 with
  | cons I O=>cases O;exact⟨_,_,rfl,z,I⟩
theorem Wk(O:X.calm=true):vb X (.builtin "min") (λxs H Q=>∃i j,xs=[.int i,.int j]/\Q (.int (if j<i then j else i)) H):=by
 intro pins s σ H xs us Q I r h;obtain⟨i,j,rfl,q⟩:=h;obtain⟨u,w',rfl,⟨t,rfl⟩,⟨t',rfl⟩⟩:=zdG r;refine min_two_ints (I.ok.hd O) λh' tk k=>⟨_,H,I.kept k,?_,q⟩;by_cases z:j<i
 ·rw [if_pos z,if_pos z];exact⟨_,rfl⟩
 ·rw [if_neg z,if_neg z];exact⟨_,rfl⟩
theorem Wl:vb X (.type "int") (λxs H Q=>(∃i,xs=[.int i]/\Q (.int i) H)\/∃k,xs=[.bl k]/\Q (.int (if k then 1 else 0)) H):=by
 intro pins s σ H xs us Q I r h;rcases h with⟨i,rfl,q⟩ | ⟨k,rfl,q⟩
 ·obtain⟨u,rfl,t,rfl⟩:=xR r
  exact call_int_int ⟨.int i,H,I,⟨_,rfl⟩,q⟩
 ·obtain⟨u,rfl,z⟩:=xR r
  cases z;exact call_int_bool ⟨.int (if k then 1 else 0),H,I.tok _,⟨_,rfl⟩,q⟩
end
structure ObjM(h:Heap)(x dx C:Addr)(mA:Str->Option Value):Prop where
 obj:h.get? x=some (PySem.W.instObj C dx)
 ns:h.Ns1 dx mA
 ne:dx≠x
theorem Vx{h:Heap}{dx:Addr}{mA:Str->Option Value}(n:h.Ns1 dx mA) : ∃od,h.get? dx=some od/\∀name,PySem.W.lookIn name od=some (mA name):=by
 obtain⟨o,es,Z,I,hd,O,_,hm⟩:=n;refine⟨o,I,λname=>?_⟩;have e:=hm name;unfold nsFind findBy at e;rw [<- Array.find?_toList]at e;unfold PySem.W.lookIn;rw [hd];dsimp only;split
 ·rename_i y q
  rw [q]at e;exact congrArg some e
 ·rename_i q
  rw [q]at e;have a:es.toList.any (·.refKey)=false:=by
   rw [zl3];intro y S;obtain⟨z,t,U⟩:=O y (Array.mem_toList_iff.mp S);simp [DictEntry.refKey,U]
  have Y : ¬es.toList.any (·.refKey)=true:=by rw [a];exact ziR
  rw [if_neg Y];exact congrArg some e
theorem ObjM.look{h:Heap}{x dx C:Addr}{mA:Str->Option Value}(I:ObjM h x dx C mA) : ∃od,PySem.W.InstAt h x (PySem.W.instObj C dx) C (some od)/\∀name,PySem.W.lookIn name od=some (mA name):=
 let ⟨od,z,O⟩:=Vx I.ns
 ⟨od,⟨I.obj,rfl,rfl,z⟩,O⟩
theorem RelO.some_of{v:V}{o:Option Value}(r:RelO (some v) o) : ∃u,o=some u/\RelV v u:=by
 cases o with
 | none=>exact(show False from r).elim
 | some u=>exact⟨u,rfl,r⟩
section
variable{P:Program}{w:World}{H H':Hp}{h h':Heap}{a C dx:Addr}{fs fs':List (Str×V)}
theorem zc3(hok:HOk P w H h)(e:H a=some (.ins C dx fs)) : ∃mA,ObjM h a dx C mA/\(∀f,RelO (fs.lookup f) (mA f))/\PySem.Within mA (fs.map (·.1))/\fs.length<=1000/\H dx=some (.own a):=by
 obtain⟨d,z,ne,I,mA,n,r,q⟩:=(show ObjOk P w H h a (.ins C dx fs)from hok a _ e);exact⟨mA,⟨I,n,ne⟩,r,q,z,d⟩
end
structure Cls(K:PySem.W.Frag)(C:Addr):Prop where
 pg:PySem.W.plainGet K C Str.empty=true
 hd:PySem.W.hasDictIn K C=true
 po:PySem.W.plainOver K C=true
 sa:PySem.W.findIn K (.ref C) "__setattr__" = some (some (.builtin "object.__setattr__"))
theorem Cls.get{K:PySem.W.Frag}{C:Addr}(c:Cls K C)(f:Str):PySem.W.plainGet K C f=true:=c.pg
section
variable{X:Cx}{pins:List (Addr×Obj)}{σ:St}{H:Hp}{s:Shared}{A:Around}{E:Value->Shared->Prop}{Q:Value->Shared->Prop}{c:Value}{b:Bool}
inductive TyOf(K:PySem.W.Frag)(H:Hp):V->Value->Prop where
 | non:TyOf K H .non (.type "NoneType")
 | bl (x:Bool):TyOf K H (.bl x) (.type "bool")
 | int (i:Int):TyOf K H (.int i) (.type "int")
 | str (x:Str):TyOf K H (.str x) (.type "str")
 | flt (x:UInt64):TyOf K H (.flt x) (.type "float")
 | lst {a:Addr} {xs:List V} (e:H a=some (.lst xs)):TyOf K H (.ref a) (.type "list")
 | frz {a:Addr} {o:Obj} {xs:List V} (e:H a=some (.frz o (.lst xs))):TyOf K H (.ref a) (.type "list")
 | tup {a:Addr} {xs:List V} (e:H a=some (.tup xs)):TyOf K H (.ref a) (.type "tuple")
 | dK {a:Addr} {kvs:List (Key×V)} (e:H a=some (.dK kvs)):TyOf K H (.ref a) (.type "dict")
 | dT {a:Addr} {kvs:List (List Key×V)} (e:H a=some (.dT kvs)):TyOf K H (.ref a) (.type "dict")
 | ins {a C dx:Addr} {fs:List (Str×V)} (e:H a=some (.ins C dx fs)) (cl:Cls K C) (ha:PySem.W.findIn K (.ref C) "__class__" = some (some (.builtin "object.__class__")))
  (hn:PySem.W.specialIn K (.builtin "object.__class__") "__get__" = some (some (.builtin "getset_descriptor.__get__"))) (htk:PySem.W.takesIn K (.builtin "object.__class__")=some true)
  (hm:PySem.W.mroIn K C (.type "object")=some true):TyOf K H (.ref a) (.ref C)
theorem VJ{x:V}{u t:Value}(I:Inv X pins σ H s)(S:RelV x u)(ty:TyOf X.K H x t)(e:zjS X.K t c=some b)(h : ∀tk,Q (.bool b) {s with toks:=tk}) :
 wpAny (model X.prog X.w) A (call (.builtin "isinstance") [u,c]) Q E s:=by
 cases ty with
 | non=>cases (show u=ziV from S);exact zi3 PySem.W.kitx_none I.kIn zkd e (λz=>nomatch z) h
 | bl y=>cases (show u=Value.bool y from S);exact zi3 PySem.W.kitx_bool I.kIn zkd e (λz=>nomatch z) h
 | int i=>obtain⟨t,q⟩:=(show ∃t,u=zlM i t from S);cases q;exact zi3 PySem.W.kitx_int I.kIn zkd e (λz=>nomatch z) h
 | str y=>obtain⟨t,q⟩:=(show ∃t,u=zlL y t from S);cases q;exact zi3 PySem.W.kitx_str I.kIn zkd e (λz=>nomatch z) h
 | flt y=>obtain⟨t,q⟩:=(show ∃t,u=Value.float y t from S);cases q;exact zi3 PySem.W.kitx_float I.kIn zkd e (λz=>nomatch z) h
 | @lst a xs U=>
  cases (show u=zjz a from S);obtain⟨_,_,n,_,h1⟩:=(show ObjOk X.prog X.w H s.heap a (.lst xs)from I.hok a _ U);exact zi3 zlO I.kIn ⟨_,h1,rfl⟩ e (λz=>nomatch z) h
 | @frz a Y xs U=>
  cases (show u=zjz a from S);obtain⟨_,_,_,n,_,h1⟩:=(show ObjOk X.prog X.w H s.heap a (.frz Y (.lst xs))from I.hok a _ U);exact zi3 zlO I.kIn ⟨_,h1,rfl⟩ e (λz=>nomatch z) h
 | @tup a xs U=>
  cases (show u=zjz a from S);obtain⟨_,_,_,p⟩:=(show ObjOk X.prog X.w H s.heap a (.tup xs)from I.hok a _ U);obtain⟨o,h1,h2,_⟩:=p;exact zi3 PySem.W.kitx_tuple I.kIn ⟨o,h1,(Prod.mk.inj h2).1⟩ e (λz=>nomatch z) h
 | @dK a kvs U=>
  cases (show u=zjz a from S);obtain⟨_,_,vs,_,p⟩:=(show ObjOk X.prog X.w H s.heap a (.dK kvs)from I.hok a _ U);obtain⟨o,es,Z,h1,h2,_⟩:=p;exact zi3 PySem.W.kitx_dict I.kIn ⟨o,h1,h2.1⟩ e (λz=>nomatch z) h
 | @dT a kvs U=>
  cases (show u=zjz a from S);obtain⟨_,_,xs,_,o,es,Z,h1,h2,_⟩:=(show ObjOk X.prog X.w H s.heap a (.dT kvs)from I.hok a _ U);exact zi3 PySem.W.kitx_dict I.kIn ⟨o,h1,h2.1⟩ e (λz=>nomatch z) h
 | @ins a C dx fs U cl ha hn htk hm=>
  cases (show u=zjz a from S);obtain⟨mA,O,_⟩:=zc3 I.hok U;obtain⟨od,J,_⟩:=O.look;exact zi3 (PySem.W.kitx_own (cl.get _) cl.hd ha hn htk hm) I.kIn J e (λz=>nomatch z) h
end
structure Room(k:Nat)(A:Around):Prop where
 hd:A.handled=none
 dp:A.depth+3*k+5<recursionLimit
 un:A.units+16*k+200<cLine
theorem Room.mono{j k:Nat}{A:Around}(r:Room k A)(h:j<=k):Room j A:=⟨r.hd,by have:=r.dp;omega,by have:=r.un;omega⟩
theorem Room.deeper{k:Nat}{A:Around}(r:Room (k+1) A)(env:Env):Room k (A.deeper env):=
 ⟨r.hd,by have:=r.dp;show A.depth+1+3*k+5<_;omega,by have:=r.un;show A.units+3+16*k+200<_;omega⟩
theorem Room.in1{k:Nat}{A:Around}(r:Room (k+1) A):Room k A.in1:=
 ⟨r.hd,by have:=r.dp;show A.depth+3*k+5<_;omega,by have:=r.un;show A.units+1+16*k+200<_;omega⟩
theorem Room.depth{k:Nat}{A:Around}(r:Room k A):A.depth<recursionLimit:=by have:=r.dp;omega
def zhf:TA:=λ_ H Q=>Q [] H
def zdN(ta:TE)(z:TA):TA:=λσ H Q=>ta σ H λx H1=>z σ H1 λxs H2=>Q (x::xs) H2
section
variable{X:Cx}{e:Expr}{es:List Expr}{te:TE}{t:TA}{pos:Pos}
theorem qg:PA X [] zhf:=λ_ _ _ _ H Q I h=>zlZ ⟨[],H,I,.nil,h⟩
theorem jr(ha:PE X e te)(z:PA X es t)(O:starEach (e::es) X.env=(false,eval e X.env)::starEach es X.env:=by rfl):PA X (e::es) (zdN te t):=by
 intro pos pins s σ H Q I h;rw [O];show wpAny _ _ (spliced ((false,eval e X.env)::backTo pos (starEach es X.env))) _ _ s;refine zk2 (thn (ha pins s σ H _ I h) λu s1 S=>?_);obtain⟨x,H1,U,Y,Z⟩:=S;exact thn (z pos pins s1 σ H1 _ U Z) λus s2 ⟨xs,H2,I2,r2,q2⟩=>⟨x::xs,H2,I2,.cons Y r2,q2⟩
def zhM(t:TA):TE:=λσ H Q=>t σ H λxs H1=>xs.length<=sizeLine/\∀p,H1 p=none->Q (.ref p) (upd H1 p (.tup xs))
def zhQ(t:TA):TE:=λσ H Q=>t σ H λxs H1=>xs.length<=sizeLine/\∀p,H1 p=none->Q (.ref p) (upd H1 p (.lst xs))
theorem zew{x1}(h:PA X es t):PE X (.Tuple es x1 pos) (zhM t):=by
 intro pins s σ H Q I S;refine wpAny_Tuple_spliced (thn (h pos pins s σ H _ I S) λus s1 ⟨xs,H1,O,r,z,q⟩=>⟨by rw [<- r.length];exact z,?_⟩);have U:H1 s1.heap.objs.size=none:=O.hok.fresh (zim _);refine⟨.ref s1.heap.objs.size,upd H1 s1.heap.objs.size (.tup xs),O.laid (t':=s1.toks) (λb u e=>zif _ e) (zim _) ?_,rfl,q _ U⟩;exact⟨z,us,r,⟨_,zix _ rfl,rfl,_,rfl⟩⟩
theorem zeB(h:PA X es t):PE X (.List es pos) (zhQ t):=by
 intro pins s σ H Q I S;refine wpAny_List_spliced (thn (h pos pins s σ H _ I S) λus s1 ⟨xs,H1,O,r,z,q⟩=>⟨by rw [<- r.length];exact z,?_⟩);have U:H1 s1.heap.objs.size=none:=O.hok.fresh (zim _);refine⟨.ref s1.heap.objs.size,upd H1 s1.heap.objs.size (.lst xs),O.laid (t':=s1.toks) (λb u e=>zif _ e) (zim _) ?_,rfl,q _ U⟩;exact⟨z,us,0,r,zix _ rfl⟩
end
abbrev Sp:=List V->Hp->VK->XK->Prop
abbrev CXT:=List Env->Hp->Shared->XK->Value->Shared->Prop
structure Env0(P:Program)(w:World)(K:PySem.W.Frag)(mg:Str->Option Value)(base:Heap)(A:Around)(outer:List Env)(s:Shared)(H:Hp):Prop where
 frames:A.frames=some outer
 mod:Mod K mg base
 bs : ∀b o,base.get? b=some o->s.heap.get? b=some o/\H b=none
 bsz:base.objs.size<=s.heap.objs.size
 funs:s.heap.FunFrames base outer
 frf : ∀b∈frs outer,H b=none
 hok:HOk P w H s.heap
 bare:AllBare s.gens
def CE(outer:List Env)(P:Program)(w:World)(H:Hp)(s:Shared)(Q:VK)(u:Value)(s':Shared):Prop:=
 ∃v H',s'.os=s.os/\AllBare s'.gens/\Un (frs outer) [] H H' s.heap s'.heap/\HOk P w H' s'.heap/\RelV v u/\Q v H'
def CR(CX:CXT)(outer:List Env)(P:Program)(w:World)(H:Hp)(s:Shared)(Q:VK)(E:XK)(r:Result)(s':Shared):Prop:=
 match r with
 | .ok (.ret u)=>CE outer P w H s Q u s'
 | .ok _=>False
 | .error e=>CX outer H s E e s'
structure FnOk(P:Program)(w:World)(K:PySem.W.Frag)(mg:Str->Option Value)(base:Heap)(CX:CXT)(k:Nat)(f:Addr)(fd:FuncData)(ps:List Str)(sp:Sp):Prop where
 len : ∀vs H Q E,sp vs H Q E->vs.length=ps.length
 run : ∀(A:Around) (outer:List Env) (s:Shared) (H:Hp) (args:Args) (us:List Value) (vs:List V) (Q:VK) (E:XK),Room k A->Env0 P w K mg base A outer s H->BindsTo s fd args (ps.zip us)->Vals vs us->sp vs H Q E->
  codeAny (model P w) A (.call (.ref f) args) (CR CX outer P w H s Q E) s
theorem Env0.in1{P:Program}{w:World}{K:PySem.W.Frag}{mg:Str->Option Value}{base:Heap}{A:Around}{outer:List Env}{s:Shared}{H:Hp}(e:Env0 P w K mg base A outer s H) :
 Env0 P w K mg base A.in1 outer s H:=⟨e.frames,e.mod,e.bs,e.bsz,e.funs,e.frf,e.hok,e.bare⟩
section
variable{X:Cx}{pins:List (Addr×Obj)}{σ:St}{H:Hp}{s s':Shared}
theorem Inv.env0(I:Inv X pins σ H s):Env0 X.prog X.w X.K X.mg X.base X.A X.stack s H:=
 ⟨I.ok.frames,I.ok.mod,I.bs,zjt I.ok.bsz I.sz,I.stack,I.stkFree,I.hok,I.bare⟩
theorem Inv.after{Q:VK}{u:Value}(I:Inv X pins σ H s)(h:CE X.stack X.prog X.w H s Q u s'):EP X pins σ Q u s':=by
 obtain⟨v,H',os,bare,un,hok,r,q⟩:=h;obtain⟨O,g,d,t,S⟩:=s';obtain rfl:S=s.os:=os;exact⟨v,H',I.call (h':=O) (g':=g) (d':=d) (t':=t) (ch:=[]) un hok bare (λb z=>absurd z ⋯),r,q⟩
end
def zb6(sp:Sp)(dvs:List V)(E:XK)(t:TA):TE:=λσ H Q=>t σ H λvs H1=>sp (vs++dvs) H1 Q E
def Binds(K:PySem.W.Frag)(fd:FuncData)(ps:List Str)(ds:List Value):Prop:=
 ∀(s:Shared) (us:List Value),K.In s.heap->(us++ds).length=ps.length->BindsTo s fd ⟨us,[]⟩ (ps.zip (us++ds))
theorem Binds.all{K:PySem.W.Frag}{fd:FuncData}{ps:List Str}(h : ∀us:List Value,us.length=ps.length->bindArgs fd ⟨us,[]⟩=pure (ps.zip us)):Binds K fd ps []:=λs us _ z=>by
 rw [zkD]at z ⊢;exact .of_eq (h us z)
def WA(CX:CXT)(X:Cx)(E:XK):Prop:=∀(pins:List (Addr×Obj)) (σ:St) (H:Hp) (s:Shared) (e:Value) (s':Shared),Inv X pins σ H s->CX X.stack H s E e s'->X.xe e s'
section
variable{X:Cx}{CX:CXT}{k:Nat}{f C:Addr}{fd:FuncData}{ps:List Str}{sp:Sp}{dvs:List V}{ds:List Value}{E:XK}{x m:Str}{p pos apos:Pos}{e o:Expr}{es:List Expr}{ta:TE}{t:TA}
theorem zd1{pins:List (Addr×Obj)}{σ:St}{H:Hp}{s:Shared}{Q:VK}{us:List Value}{vs:List V}(F:FnOk X.prog X.w X.K X.mg X.base CX k f fd ps sp)(O:Room k X.A)(S:Binds X.K fd ps ds)(hd:Vals dvs ds)(hx:WA CX X E)
 (I:Inv X pins σ H s) (r:Vals vs us) (h:sp (vs++dvs) H Q E):wpAny (model X.prog X.w) X.A (call (.ref f) us) (EP X pins σ Q) X.xe s:=by
 have r2:Vals (vs++dvs) (us++ds):=r.append hd;have U:(us++ds).length=ps.length:=by rw [<- r2.length];exact F.len _ _ _ _ h
 refine wpAny_call (zlK (F.run X.A X.stack s H ⟨us,[]⟩ (us++ds) (vs++dvs) Q E O I.env0 (S s us I.kIn U) r2 h) λr s' z=>?_);cases r with
 | error e=>exact hx pins σ H s e s' I z
 | ok Y=>
  cases Y with
  | ret u=>exact I.after z
  | next=>exact zj2 z
  | brk=>exact zj2 z
  | cont=>exact zj2 z
theorem Vg(F:FnOk X.prog X.w X.K X.mg X.base CX k f fd ps sp)(O:Room k X.A)(S:Gl X x)(hm:X.mg x=some (.ref f))(U:PySem.W.keepIn X.K (.ref f)=true)(Y:Binds X.K fd ps ds)(hd:Vals dvs ds)(hx:WA CX X E)
 (ha:PA X (e::es) t) (Z:(x==("__debug__" : Str))=false:=by decide) (he:starEach (e::es) X.env=(false,eval e X.env)::starEach es X.env:=by rfl) (a1:(backTo pos (starEach es X.env)).any (·.1)=false:=by rfl) :
 PE X (.Call (.Name x p) (e::es) [] pos) (zb6 sp dvs E t):=by
 intro pins s σ H Q I h;refine zkL (VA I S hm ?_ Z);refine PySem.W.callWith_K (h₀:=X.base) I.ok.mod.kin U (thn (ha pos pins s σ H _ I h) λus s1 ⟨vs,H1,z,r,q⟩=>⟨z.kIn,?_⟩) he a1;exact zd1 F O Y hd hx z r q
end
structure FnScope(N P:List Str)(sc:Scope):Prop where
 kind:sc.kind = .function
 co:sc.isCoroutine=false
 gen:sc.isGenerator=false
 nd:N.Nodup
 pre:N.take P.length=P
 par : ∀x∈P,sc.names.lookup x=some .local\/sc.names.lookup x=some .cell
 nofree : ∀y∈sc.names,y.2 ≠ .free
theorem Qk{kindOf:Str->Option NameKind}{x:Str} : ∀{z:List (Str×Value)} {m:Str->Option Value},(∀v,(x,v)∉z)->bindL kindOf z m x=m x
 | [],_,_=>rfl
 | (n,v)::r,m,h=>by
  unfold bindL;rw [Qk λw hw=>h w (ziu _ hw)];split
  ·have:x≠n:=by rintro rfl;exact h v ziv
   simp [this]
  ·rfl
theorem Qo{kindOf:Str->Option NameKind}{x:Str} : ∀{z:List (Str×Value)} {m:Str->Option Value},(∀v,(x,v)∉z)->bindC kindOf z m x=m x
 | [],_,_=>rfl
 | (n,v)::r,m,h=>by
  unfold bindC;rw [Qo λw hw=>h w (ziu _ hw)];split
  ·rfl
  ·have:x≠n:=by rintro rfl;exact h v ziv
   simp [this]
theorem Ql{kindOf:Str->Option NameKind}{x:Str}{v:Value} : ∀{P:List Str} {vs:List Value} {i:Nat} {m:Str->Option Value},P.Nodup->P[i]? = some x->vs[i]? = some v->kindOf x=some .local->
 bindL kindOf (P.zip vs) m x=some v
 | [],_,_,_,_,h,_,_=>by simp at h
 | _::_,[],_,_,_,_,h,_=>by simp at h
 | p::P,w::vs,0,m,nd,h1,h2,hk=>by
  simp at h1 h2;subst h1;subst h2;show bindL kindOf ((p,w)::P.zip vs) m p=_;unfold bindL;rw [Qk λv z=>(zjc.mp nd).1 (List.of_mem_zip z).1,if_pos hk];simp
 | p::P,w::vs,i+1,m,nd,h1,h2,hk=>by
  show bindL kindOf ((p,w)::P.zip vs) m x=_;unfold bindL;exact Ql (i:=i) (zjc.mp nd).2 (by simpa using h1) (by simpa using h2) hk
theorem Qp{kindOf:Str->Option NameKind}{x:Str}{v:Value} : ∀{P:List Str} {vs:List Value} {i:Nat} {m:Str->Option Value},P.Nodup->P[i]? = some x->vs[i]? = some v->kindOf x≠some .local->
 bindC kindOf (P.zip vs) m x=some v
 | [],_,_,_,_,h,_,_=>by simp at h
 | _::_,[],_,_,_,_,h,_=>by simp at h
 | p::P,w::vs,0,m,nd,h1,h2,hk=>by
  simp at h1 h2;subst h1;subst h2;show bindC kindOf ((p,w)::P.zip vs) m p=_;unfold bindC;rw [Qo λv z=>(zjc.mp nd).1 (List.of_mem_zip z).1,if_neg hk];simp
 | p::P,w::vs,i+1,m,nd,h1,h2,hk=>by
  show bindC kindOf ((p,w)::P.zip vs) m x=_;unfold bindC;exact Qp (i:=i) (zjc.mp nd).2 (by simpa using h1) (by simpa using h2) hk
def start(N:List Str)(vs:List V):St:=vs.map some++zii (N.length - vs.length) none
def zdj(CX:CXT)(P:Program)(w:World)(K:PySem.W.Frag)(mg:Str->Option Value)(base:Heap)(N:List Str)(qual:Str)(scope:Scope)(f:Addr)(z:Value)(A:Around)(outer:List Env)(s:Shared)(H:Hp)(E:XK):Cx where
 prog:=P
 w:=w
 K:=K
 mg:=mg
 base:=base
 A:=A.deeper (envOfC qual scope s.heap.objs.size f z)
 N:=N
 s₀:=s
 H₀:=H
 env:=envOfC qual scope s.heap.objs.size f z
 outer:=outer
 stack:=envOfC qual scope s.heap.objs.size f z::outer
 ex:=[]
 calm:=true
 fn:=λ_=>true
 pn:=[]
 xe:=λe s'=>wpAny (model P w) (A.deeper (envOfC qual scope s.heap.objs.size f z)) (leaving (envOfC qual scope s.heap.objs.size f z) e) (λ_ I=>CX outer H s E e I) (λO I=>CX outer H s E O I) s'
theorem Km{sc:Scope}{n:Nat}{x:Str}(h:sc.names.lookup x=some .cell) : ∃c,(cellsFrom n sc.names []).lookup x=some c:=by
 have q:=zky sc.names n [] (.inl h);exact zjx.mp q
theorem VM{CX:CXT}{P:Program}{w:World}{K:PySem.W.Frag}{mg:Str->Option Value}{base:Heap}{N ps:List Str}{qual:Str}{scope:Scope}{f:Addr}{Y:Value}{A:Around}{outer:List Env}{s s1:Shared}{H:Hp}{E:XK}{us:List Value}{vs:List V}
 (S:FnScope N ps scope) (hd:A.handled=none) (I:Env0 P w K mg base A outer s H) (hl:vs.length=ps.length) (r:Vals vs us)
 (x:InCallC s s.heap.objs.size (bindL (envOfC qual scope s.heap.objs.size f Y).kindOf (ps.zip us) λ_=>none) (cellsFrom (s.heap.objs.size+1) scope.names []) (bindC (envOfC qual scope s.heap.objs.size f Y).kindOf (ps.zip us) λ_=>none) s1) :
 Inv (zdj CX P w K mg base N qual scope f Y A outer s H E) [] (start N vs) H s1:=by
 have a5:ps.length<=N.length:=by have:=congrArg List.length S.pre;rw [zkR]at this;omega
 obtain⟨h1,tk,rfl,hk⟩:=x.done;have Z : ∀b:Addr,b∉(zdj CX P w K mg base N qual scope f Y A outer s H E).ex:=λb z=>absurd (show b∈([]:List Addr)from z) ⋯;refine⟨⟨I.mod,S.kind,rfl,rfl,zim _,λy z c h1 h2=>?_,λy O=>?_,λy c _ h=>?_,λ_=>hd,Around.frames_deeper I.frames,.inr ⟨rfl,rfl⟩,λb z=>absurd z (Z b),I.bs,I.bsz,λb _ _=>Z b,λb z=>absurd z (Z b),I.funs,I.frf⟩,
  rfl,I.bare,Un.kept hk,⟨_,x.toInCall.ns,λi y v h1 h2 h3=>?_⟩,λy c h=>⟨_,x.cell y c h⟩,I.hok.fresh (zim _),λy c h=>?_,λp U=>absurd (show p∈([]:List (Addr×Obj))from U) ⋯,I.hok.kept hk,?_⟩
 ·exact name_of_addr x.apart (zkv h1) (zkv h2)
 ·have O:scope.names.lookup y=some .cell\/scope.names.lookup y=some .free:=O
  rcases O with O | O
  ·exact Km O
  ·exact absurd rfl (S.nofree _ (zkv O))
 ·exact zlB (x.above y c (zkv h))
 ·have hi:i<vs.length:=by
   unfold start at h2;by_cases hi:i<vs.length
   ·exact hi
   ·rw [ziW (by simpa using hi)]at h2
    rw [zkC]at h2;split at h2<;>cases h2
  have ha:vs[i]? = some v:=by
   unfold start at h2;rw [zi9 (by simpa using hi),zja]at h2;cases e:vs[i]? with
   | none=>rw [e]at h2;cases h2
   | some a=>rw [e]at h2;cases h2;rfl
  obtain⟨u,hu,rv⟩:=r.get ha;have U:ps[i]? = some y:=by
   rw [<- S.pre,List.getElem?_take_of_lt ⋯];exact h1
  have a2:ps.Nodup:=by rw [<- S.pre];exact S.nd.sublist (List.take_sublist _ _)
  refine⟨u,rv,?_⟩;rcases S.par y (zjs U)with k | k
  ·exact .inl ⟨k,Ql a2 U hu k⟩
  ·obtain⟨c,e⟩:=Km (n:=s.heap.objs.size+1) k
   refine .inr ⟨.inl k,c,e,?_⟩;have q:=x.cell y c e;rw [Qp a2 U hu (by show scope.names.lookup y≠_;rw [k];decide)]at q;exact q
 ·exact I.hok.fresh (zlB (x.above y c (zkv h)))
 ·unfold start
  show _=N.length;rw [zjo,ziD,List.length_replicate];omega
theorem zgI{CX:CXT}{P:Program}{w:World}{K:PySem.W.Frag}{mg:Str->Option Value}{base:Heap}{k:Nat}{f:Addr}{name qual:Str}{a0:Arguments}{body:List Stmt}{scope:Scope}{dV kV doc pm cdv ct oc:Value}{an od:Option Addr}
 {osl:Array (Option Value)} {N ps:List Str} {sp:Sp} (lk:K.lookup f=some ⟨oc,od,.func (PySem.W.fnOf name qual a0 body scope dV kV doc pm an cdv ct),osl⟩) (a5:PySem.W.codeIn K cdv qual=true) (S:FnScope N ps scope)
 (len : ∀vs H Q E,sp vs H Q E->vs.length=ps.length)
 (a6 : ∀(A:Around) (outer:List Env) (s:Shared) (H:Hp) (vs:List V) (Q:VK) (E:XK),Room k (A.deeper (envOfC qual scope s.heap.objs.size f cdv))->sp vs H Q E->
   ∃t,PSs (zdj CX P w K mg base N qual scope f cdv A outer s H E) body t/\t {nx:=λ_ H'=>Q .non H',rt:=Q} (start N vs) H) :
 FnOk P w K mg base CX (k+1) f (PySem.W.fnOf name qual a0 body scope dV kV doc pm an cdv ct) ps sp:=by
 refine⟨len,λA outer s H args us vs Q E Y O hb r a2=>?_⟩;have hl:=len _ _ _ _ a2;have KX:K.In s.heap:=O.mod.kin.keeps λb o e=>(O.bs b o e).1;have lim:s.heap.NoLimit:=O.mod.nolimit.keeps λb o e=>(O.bs b o e).1;have a9 : ∀y∈ps.zip us,scope.names.lookup y.1=some .local\/(scope.names.lookup y.1=some .cell/\((cellsFrom (s.heap.objs.size+1) scope.names []).lookup y.1).isSome=true):=λ⟨n,v⟩ hy=>by
  rcases S.par n (List.of_mem_zip hy).1 with q | q
  ·exact .inl q
  ·exact .inr ⟨q,zky _ _ _ (.inl q)⟩
 refine codeAny_call_function Y.depth (KX _ _ lk) rfl S.co S.gen rfl (PySem.W.codeRec_of KX a5) (hb _ _ _ _ ?_);refine wpAny_newFunctionEnv_cells S.kind a9 λenv he s1 x=>?_;subst he;refine⟨lim.keeps x.toInCall.keep,codeAny_func ?_⟩;obtain⟨t,ht,hq⟩:=a6 A outer s H vs Q E (Y.deeper _) a2;have I:Inv (zdj CX P w K mg base N qual scope f cdv A outer s H E) [] (start N vs) H s1:=VM S Y.hd O hl r x;refine zjW (ht [] s1 (start N vs) H _ I hq) (λfl s' z=>?_) λe s' z=>z;have a4 : ∀{U:St} {H':Hp} {v:V} {u:Value},Inv (zdj CX P w K mg base N qual scope f cdv A outer s H E) [] U H' s'->RelV v u->Q v H'->CE outer P w H s Q u s':=
  λ{U H' v u} J Z q=>⟨v,H',J.os,J.bare,J.base,J.hok,Z,q⟩
 cases fl with
 | ret u=>
  obtain⟨v,U,H',J,Z,q⟩:=z;exact a4 J Z q
 | next=>
  obtain⟨U,H',J,q⟩:=z;exact a4 (v:=V.non) (u:=ziV) J rfl q
 | brk=>
  obtain⟨_,_,_,q⟩:=z;exact zj2 q
 | cont=>
  obtain⟨_,_,_,q⟩:=z;exact zj2 q
section
variable{X:Cx}{x:Str}{p pos:Pos}{e:Expr}{es:List Expr}{t:TA}{id T:String}{r:List V->Hp->VK->Prop}
def tCB(r:List V->Hp->VK->Prop)(t:TA):TE:=λσ H Q=>t σ H λvs H1=>r vs H1 Q
theorem xG(z:vb X (.builtin id) r)(O:Gl X x)(hm:X.mg x=none)(S:bootBuiltins x=some (.builtin id))(ha:PA X (e::es) t)(hn:x ≠ "__name__":=by decide)(U:(x==("__debug__" : Str))=false:=by decide)
 (Y:starEach (e::es) X.env=(false,eval e X.env)::starEach es X.env:=by rfl) (Z:(backTo pos (starEach es X.env)).any (·.1)=false:=by rfl):PE X (.Call (.Name x p) (e::es) [] pos) (tCB r t):=by
 intro pins s σ H Q I h;refine zkL (xt I O hm S ?_ hn U);exact zlz (thn (ha pos pins s σ H _ I h) λus s1 ⟨vs,H1,I1,r1,q1⟩=>z pins s1 σ H1 vs us Q I1 r1 q1) Y Z
theorem vO(z:vb X (.type T) r)(O:Gl X x)(hm:X.mg x=none)(S:bootBuiltins x=some (.type T))(ha:PA X (e::es) t)(hn:x ≠ "__name__":=by decide)(U:(x==("__debug__" : Str))=false:=by decide)
 (Y:starEach (e::es) X.env=(false,eval e X.env)::starEach es X.env:=by rfl) (Z:(backTo pos (starEach es X.env)).any (·.1)=false:=by rfl):PE X (.Call (.Name x p) (e::es) [] pos) (tCB r t):=by
 intro pins s σ H Q I h;refine zkL (xt I O hm S ?_ hn U);exact zi7 (thn (ha pos pins s σ H _ I h) λus s1 ⟨vs,H1,I1,r1,q1⟩=>z pins s1 σ H1 vs us Q I1 r1 q1) Y Z
end
end L2
namespace HT
open PySem PyProof.Rows
section
variable{prog:Program}{w:World}{A:Around}{E:Value->Shared->Prop}{s:Shared}
theorem cat_tup{t b:Addr}{vs z:List Value}{Q:Value->Shared->Prop}(ht:IsTup s.heap t vs.toArray)(hb:IsTup s.heap b z.toArray)(S:vs ≠ [])
 (h1:z=[]->Q (.ref t) s) (h2:z ≠ []->Q (.ref s.heap.objs.size) {s with heap:=s.heap.push {cls:= .type "tuple",data:= .seq (vs++z).toArray}})
 (hsz:vs.length+z.length<=sizeLine):wpAny (model prog w) A (binaryOp .Add (.ref t) (.ref b)) Q E s:=by
 obtain⟨⟨cls,U,data,sl⟩,I,Y,n,hd⟩:=id ht;obtain⟨⟨a6,Z,data2,a0⟩,O,a1,n2,a3⟩:=id hb;simp only at Y hd a1 a3;subst Y hd a1 a3;have e:vs.toArray++z.toArray=(vs++z).toArray:=by simp
 by_cases hw:z=[]
 ·exact zmg ⟨_,I,rfl⟩ ⟨_,O,rfl⟩ zmi seq_tuple_add zlg zld (zk4 _ _)
   (tuple_addW1 t b vs.toArray z.toArray n n2 U Z sl a0 (by simpa using S) (by simp [hw])) ⟨I,O,h1 hw⟩
 ·refine zmg ⟨_,I,rfl⟩ ⟨_,O,rfl⟩ zmi seq_tuple_add zlg zld (zk4 _ _)
   (tuple_addW2 t b vs.toArray z.toArray n n2 U Z sl a0 (by simpa using S) (by simpa using hw) (by rw [zir,zir];exact hsz)) ⟨I,O,?_⟩
  rw [e];exact h2 hw
def sIx(n d:Nat):Option Int->Nat
 | none=>d
 | some v=>if v<0 then (v+(n:Int)).toNat else min v.toNat n
theorem zdZ(n d:Nat)(hd:d<=n)(o:Option Int):sIx n d o<=n:=by
 cases o with
 | none=>exact hd
 | some v=>
  show(if v<0 then (v+(n:Int)).toNat else min v.toNat n)<=n;by_cases z:v<0
  ·rw [if_pos z];omega
  ·rw [if_neg z];exact Nat.min_le_right _ _
theorem Wh(v:Int)(n d:Nat):(if v<0 then max (v+(n:Int)) 0 else min v (n:Int))=((sIx n d (some v):Nat):Int):=by
 show(if v<0 then max (v+(n:Int)) 0 else min v (n:Int))=(((if v<0 then (v+(n:Int)).toNat else min v.toNat n):Nat):Int);by_cases z:v<0
 ·simp only [if_pos z];omega
 ·simp only [if_neg z];omega
theorem Yn(lo hi:Option Int)(n:Nat):zkQ lo hi 1 (n:Int)=(((sIx n 0 lo:Nat):Int),((sIx n n hi:Nat):Int)):=by
 have h1 : ¬((1:Int)<0):=by omega
 unfold zkQ;simp only [h1,if_false];refine Prod.ext ?_ ?_
 ·cases lo with
  | none=>rfl
  | some v=>exact Wh v n 0
 ·cases hi with
  | none=>rfl
  | some v=>exact Wh v n n
theorem KW(i j:Nat):zkh (i:Int) (j:Int) 1=j - i:=by
 unfold zkh;have h1:(1:Int)>0:=by omega
 simp only [h1,if_true,Int.ediv_one];split<;>omega
theorem wY{v:Value}{o:Option Int}{Q:Option Int->Shared->Prop}(p:IsPart v o)(h:Q o s):wpAny (model prog w) A (Builtin.Slice.slicePartIndex v) Q E s:=by
 cases p with
 | none=>exact slicePart_none h
 | int i t=>exact slicePart_int h
theorem sliceApplied_gen{sl:Addr}{z I:Value}{lo hi:Option Int}{n:Nat}{Q:Int×Int×Nat->Shared->Prop}(U:s.heap.IsSliceOf sl z I .none)(Y:IsPart z lo)(Z:IsPart I hi)
 (h:Q (((sIx n 0 lo:Nat):Int),1,sIx n n hi - sIx n 0 lo) s):wpAny (model prog w) A (Builtin.Slice.sliceApplied (.ref sl) (pure (n:Int))) Q E s:=by
 obtain⟨os,O,a0,S⟩:=id U;unfold Builtin.Slice.sliceApplied Builtin.Slice.sliceFields;refine zid (zid (ziX O S (x:=z) rfl (zid (ziX O S (x:=I) rfl (zid (ziX O S (x:= .none) rfl (zik ?_)))))));refine zid (slicePart_none ?_);show wpAny _ _ (if ((1:Int)==0)=true then _ else _) _ _ s;rw [if_neg ⋯];refine zid (wY Y (zid (wY Z (zid (zik ?_)))));show wpAny _ _ (match zkQ lo hi 1 (n:Int)with | (lo,hi)=>pure (lo,(1:Int),zkh lo hi 1)) _ _ s;rw [Yn lo hi n];show wpAny _ _ (pure (((sIx n 0 lo:Nat):Int),(1:Int),zkh ((sIx n 0 lo:Nat):Int) ((sIx n n hi:Nat):Int) 1)) _ _ s;rw [KW];exact zik h
theorem zau(xs:Array Value)(i k:Nat):((zie k).filterMap λ(m:Nat)=>xs[((i:Int)+(m:Int)*1).toNat]?).toArray=((xs.toList.drop i).take k).toArray:=by
 have e:(λ(m:Nat)=>xs[((i:Int)+(m:Int)*1).toNat]?)=λm=>xs[i+m]? :=by
  funext m;have:((i:Int)+(m:Int)*1).toNat=i+m:=by omega
  rw [this]
 rw [e];have:=pick_run xs i k;rw [List.filterMap_map]at this;have z:((λx=>xs[x]?)∘λx=>i+x)=λm=>xs[i+m]? :=rfl;rw [z]at this;rw [this]
theorem getItem_tuple_cut{t sl:Addr}{items:Array Value}{O S:Value}{lo hi:Option Int}{Q:Value->Shared->Prop}(z:IsTup s.heap t items)(U:s.heap.IsSliceOf sl O S .none)(Y:IsPart O lo)(Z:IsPart S hi)
 (hw : ¬(sIx items.size 0 lo=0/\sIx items.size items.size hi=items.size))
 (h:Q (.ref s.heap.objs.size) {s with heap:=s.heap.push {cls:= .type "tuple",data:= .seq ((items.toList.drop (sIx items.size 0 lo)).take (sIx items.size items.size hi - sIx items.size 0 lo)).toArray}})
 (hsz:items.size<=sizeLine):wpAny (model prog w) A (getItem (.ref t) (.ref sl)) Q E s:=by
 have I:sizeOk (.seq ((items.toList.drop (sIx items.size 0 lo)).take (sIx items.size items.size hi - sIx items.size 0 lo)).toArray):=by
  show((items.toList.drop (sIx items.size 0 lo)).take (sIx items.size items.size hi - sIx items.size 0 lo)).toArray.size<=sizeLine;rw [zir,zkR,List.length_drop,zjA];omega
 have hj:sIx items.size items.size hi<=items.size:=zdZ _ _ (zim _) hi;obtain⟨os,a0,a1,a5⟩:=id U;have a2:s.TypeIs (.ref sl) "slice":=⟨os,a0,a1⟩;unfold getItem
 try with_reducible refine zjH ?_
 first | refine zid (zik ?_) | skip
 refine zid (wpAny_sequenceKey z.typeIs ⋯ ?_);refine zid (zjh (name:=zi0 "__getitem__") z.typeIs zjy
  (zjC zjy z.typeIs entry_tuple_getitem ?_ (args_tuple_getitem _ _)))
 show wpAny _ _ (Builtin.Tuple.tupleItemsOf (.ref t) >>= _) _ _ s;refine zid (zly z ?_);refine zid (zlj a2 ?_);rw [if_pos ⋯];refine zid (sliceApplied_gen U Y Z ?_);have a3 : ¬((((sIx items.size 0 lo:Nat):Int)==0 && (1:Int)==1 && (sIx items.size items.size hi - sIx items.size 0 lo)==items.size)=true):=by
  intro q;rw [Bool.and_eq_true,Bool.and_eq_true]at q;have q1:((sIx items.size 0 lo:Nat):Int)=0:=eq_of_beq q.1.1;have q2:sIx items.size items.size hi - sIx items.size 0 lo=items.size:=eq_of_beq q.2;exact hw ⟨by omega,by omega⟩
 show wpAny _ _ (if (((sIx items.size 0 lo:Nat):Int)==0 && (1:Int)==1 && (sIx items.size items.size hi - sIx items.size 0 lo)==items.size)=true then _ else _) _ _ s;rw [if_neg a3,zau]
 first
  | exact zid (m:=zjP _) (zjD (zik ⟨_,rfl,zik h⟩) I)
  | exact zid (m:=zjP _) (zjD (zid (zik (zik ⟨_,rfl,zik h⟩))) I)
  | exact zid (zid (m:=zjP _) (zjD (zik (zik ⟨_,rfl,zik h⟩)) I))
  | exact zid (zid (m:=zjP _) (zjD (zik ⟨_,rfl,zik h⟩) I))
end
end HT
namespace L2
open PySem PySem.Spec PyProof.Rows
abbrev TO:=St->Hp->(Option Int->Hp->Prop)->Prop
def PO(X:Cx)(e:Option Expr)(t:TO):Prop:=
 ∀(pins:List (Addr×Obj)) (s:Shared) (σ:St) (H:Hp) (Q:Option Int->Hp->Prop),Inv X pins σ H s->t σ H Q->
  wpAny (model X.prog X.w) X.A (evalPart e X.env) (λu s'=>∃o H',Inv X pins σ H' s'/\IsPart u o/\Q o H') X.xe s
def zb4:TO:=λ_ H Q=>Q none H
def zgc(t:TE):TO:=λσ H Q=>t σ H λx H1=>∃i,x = .int i/\Q (some i) H1
section
variable{X:Cx}{e:Expr}{te:TE}{lo hi:Option Expr}{tl th:TO}{pos p2:Pos}
theorem zcy:PO X none zb4:=by
 intro pins s σ H Q I h;rw [evalPart_none];exact zik ⟨none,H,I,.none,h⟩
theorem zcx(h:PE X e te):PO X (some e) (zgc te):=by
 intro pins s σ H Q I hw;rw [evalPart_some];refine thn (h pins s σ H _ I hw) λu s1 z=>?_;obtain⟨x,H1,O,S,U⟩:=z;obtain⟨i,rfl,q⟩:=U;obtain⟨t,rfl⟩:=S;exact⟨some i,H1,O,.int i t,q⟩
def SlR(X:Cx)(r:V->Option Int->Option Int->Hp->VK->Prop):Prop:=
 ∀(pins:List (Addr×Obj)) (s:Shared) (σ:St) (H:Hp) (x:V) (v z I:Value) (lo hi:Option Int) (sl:Addr) (Q:VK),Inv X pins σ H s->RelV x v->s.heap.IsSliceOf sl z I .none->IsPart z lo->IsPart I hi->r x lo hi H Q->
  ∃T id,typeLookup (.type T) "__getitem__" = pure (some (.builtin id))/\s.TypeIs v T/\wpAny (model X.prog X.w) X.A (getItem v (.ref sl)) (EP X pins σ Q) X.xe s
def tSl(r:V->Option Int->Option Int->Hp->VK->Prop)(te:TE)(tl th:TO):TE:=λσ H Q=>te σ H λx H1=>tl σ H1 λl H2=>th σ H2 λu z=>r x l u z Q
theorem zax{r:V->Option Int->Option Int->Hp->VK->Prop}(Y:SlR X r)(Z:PE X e te)(hl:PO X lo tl)(hu:PO X hi th):PE X (.Subscript e (.Slice lo hi none p2) pos) (tSl r te tl th):=by
 intro pins s σ H Q I h;refine Subscript_ (thn (Z pins s σ H _ I h) λv s1 hZ=>?_);obtain⟨x,H1,I1,r1,q1⟩:=hZ;refine wpAny_Slice (thn (hl pins s1 σ H1 _ I1 q1) λO s2 ⟨l,H2,I2,pl,q2⟩=>thn (hu pins s2 σ H2 _ I2 q2) λS z ⟨u,U,I3,pu,q3⟩=>?_);rw [evalPart_none];refine zik ?_;have I4:Inv X pins σ U {z with heap:=z.heap.push {cls:= .type "slice",data:= .fields #[O,S,.none]}}:=I3.kept (t':=z.toks) λb ob q=>zif _ q;obtain⟨T,id,hT,ht,hg⟩:=Y pins {z with heap:=z.heap.push {cls:= .type "slice",data:= .fields #[O,S,.none]}} σ U x v O S l u z.heap.objs.size Q I4 r1 (Heap.IsSliceOf.new ..) pl pu q3;show wpAny (model X.prog X.w) X.A (subscriptTail e (.Slice lo hi none p2) v (.ref z.heap.objs.size)) (EP X pins σ Q) X.xe {z with heap:=z.heap.push {cls:= .type "slice",data:= .fields #[O,S,.none]}};exact tail_any (ops:=[.ref z.heap.objs.size,v]) ht hT hg (by with_unfolding_all rfl)
def zdk(xs:List V)(lo hi:Option Int):List V:=(xs.drop (HT.sIx xs.length 0 lo)).take (HT.sIx xs.length xs.length hi - HT.sIx xs.length 0 lo)
theorem Xg(xs:List V)(lo hi:Option Int):(zdk xs lo hi).length<=xs.length:=by
 unfold zdk;rw [zkR,List.length_drop];omega
def zhV(K:PySem.W.Frag):V->Option Int->Option Int->Hp->VK->Prop:=λx lo hi H Q=>∃a xs,x = .ref a/\SqT K H a xs/\
 ¬(HT.sIx xs.length 0 lo=0/\HT.sIx xs.length xs.length hi=xs.length)/\∀p,H p=none->Q (.ref p) (upd H p (.tup (zdk xs lo hi)))
theorem zdT:SlR X (zhV X.K):=by
 intro pins s σ H x v vl vu lo hi sl Q I U Y Z pu h;obtain⟨a,xs,rfl,hx,hw,q⟩:=h;cases U;obtain⟨a1,r,O,S⟩:=I.tuple hx;have z:a1.toArray.size=xs.length:=by rw [zir];exact r.length.symm
 refine⟨"tuple",_,zjy.lookup,O.typeIs,?_⟩;refine HT.getItem_tuple_cut O Y Z pu (by rw [z];exact hw) ?_ (by rw [z];exact S);rw [z];refine⟨.ref s.heap.objs.size,_,I.laid (t':=s.toks) (o:= .tup (zdk xs lo hi)) (λb ob q=>zif _ q) (zim _) ?_,rfl,q _ (I.hok.fresh (zim _))⟩;exact⟨zjt (Xg xs lo hi) S,_,(r.drop (HT.sIx xs.length 0 lo)).take (HT.sIx xs.length xs.length hi - HT.sIx xs.length 0 lo),IsTupD.new _ _⟩
theorem Vals.nil_iff{xs:List V}{us:List Value}(r:Vals xs us):us=[]↔xs=[]:=by
 cases r with
 | nil=>simp
 | cons _ _=>simp
end
def ixN(n:Nat)(i:Int):Option Nat:=if 0<=i then (if i<n then some i.toNat else none)else if -(n:Int)<=i then some (i+n).toNat else none
def atI{α:Type}(xs:List α)(i:Int):Option α:=(ixN xs.length i).bind λj=>xs[j]?
theorem VI{n:Nat}{i:Int}{j:Nat}(h:ixN n i=some j):seqIndex? i n=some j/\j<n/\ -(n:Int)<=i/\i<n:=by
 unfold ixN at h;by_cases z:0<=i
 ·rw [if_pos z]at h
  by_cases h1:i<n
  ·rw [if_pos h1]at h
   have e:i.toNat=j:=zji h;exact⟨by rw [seqIndex_of z h1,e],by omega,by omega,h1⟩
  ·rw [if_neg h1]at h;cases h
 ·rw [if_neg z]at h
  by_cases h1 : -(n:Int)<=i
  ·rw [if_pos h1]at h
   have e:(i+n).toNat=j:=zji h;exact⟨by rw [seqIndex_neg ⋯ h1,e],by omega,h1,by omega⟩
  ·rw [if_neg h1]at h;cases h
theorem Xk{α:Type}{xs:List α}{i:Int}{v:α}(h:atI xs i=some v) : ∃j,seqIndex? i xs.length=some j/\xs[j]? = some v/\j<xs.length/\ -(xs.length:Int)<=i/\i<xs.length:=by
 unfold atI at h;cases e:ixN xs.length i with
 | none=>rw [e]at h;cases h
 | some j=>
  rw [e]at h;obtain⟨h1,h2,z,I⟩:=VI e;exact⟨j,h1,h,h2,z,I⟩
def yL(b:Expr):Prop:=∀o i,subscripted b false o i=operate [o,i] (getItem o i)
def IxR(X:Cx)(r:R2):Prop:=
 ∀(value z:Expr) (pins:List (Addr×Obj)) (s:Shared) (σ:St) (H:Hp) (x y:V) (v u:Value) (Q:VK),Inv X pins σ H s->RelV x v->RelV y u->r x y H Q->
  subscripted z false v u=operate [v,u] (getItem v u)->wpAny (model X.prog X.w) X.A (subscriptTail value z v u) (EP X pins σ Q) X.xe s
def MtR(X:Cx)(id:String)(r:V->List V->Hp->VK->Prop):Prop:=
 ∀(pins:List (Addr×Obj)) (s:Shared) (σ:St) (H:Hp) (x:V) (xs:List V) (v:Value) (us:List Value) (Q:VK),Inv X pins σ H s->RelV x v->Vals xs us->r x xs H Q->
  wpAny (model X.prog X.w) X.A (call (.builtin id) (v::us)) (EP X pins σ Q) X.xe s
section
variable{X:Cx}{a b:Expr}{ta tb:TE}{pos:Pos}
theorem IxR.or{r r':R2}(h:IxR X r)(h':IxR X r'):IxR X (λx y H Q=>r x y H Q\/r' x y H Q):=by
 intro value z pins s σ H x y v u Q I O S q U;rcases q with q | q
 ·exact h value z pins s σ H x y v u Q I O S q U
 ·exact h' value z pins s σ H x y v u Q I O S q U
theorem zay{r:R2}(z:IxR X r)(ha:PE X a ta)(O:PE X b tb)(S:yL b):PE X (.Subscript a b pos) (tOp r ta tb):=by
 intro pins s σ H Q I h;exact Subscript_ (zgR ha O I h λv u s2 x y H2 U Y Z q=>z a b pins s2 σ H2 x y v u Q U Y Z q (S _ _))
def zhZ(K:PySem.W.Frag):R2:=λx y H Q=>∃p xs i v,x = .ref p/\y = .int i/\SqL K H p xs/\atI xs i=some v/\Q v H
def zhX(K:PySem.W.Frag):R2:=λx y H Q=>∃p xs i v,x = .ref p/\y = .int i/\SqT K H p xs/\atI xs i=some v/\Q v H
def zhY:R2:=λx y H Q=>∃z i c,x = .str z/\y = .int i/\z.length<=sizeLine/\atI z.cps.toList i=some c/\Q (.str ⟨#[c]⟩) H
theorem ix_list:IxR X (zhZ X.K):=by
 intro value aa pins s σ H x y v u Q I rx ry h U;obtain⟨p,xs,i,z,rfl,rfl,hq,he,q⟩:=h;cases rx;obtain⟨t,rfl⟩:=ry;obtain⟨a5,r,O,hz⟩:=I.list hq;obtain⟨j,h1,h2,h3,h4,h5⟩:=Xk he;obtain⟨w,Y,a8⟩:=r.get h2;have hl:=r.length;have hn:=vX;have Z:EP X pins σ Q w s:=⟨z,H,I,a8,q⟩;by_cases h0:0<=i
 ·have S:i.toNat=j:=by
   rw [seqIndex_of h0 h5]at h1;exact zji h1
  exact item_listR O.isList h0 ⋯ (by rw [S];simpa using Y) Z U
 ·have S:(i+(a5.toArray.size:Int)).toNat=j:=by
   rw [seqIndex_neg ⋯ h4]at h1;rw [zir,<- hl];exact zji h1
  exact subscriptTail_builtinR (x:=w) O.isList.typeIs slot_list_getitem.lookup
   (wpAny_getItem_list_neg (Q:=λr s'=>r=w/\EP X pins σ Q r s') O.isList ⋯ (by rw [zir]<;>omega) ⋯ (by rw [S];simpa using Y) ⟨rfl,Z⟩) U
theorem ze2:IxR X (zhX X.K):=by
 intro value a5 pins s σ H x y v u Q I S U h Y;obtain⟨p,xs,i,z,rfl,rfl,Z,he,q⟩:=h;cases S;obtain⟨t,rfl⟩:=U;obtain⟨a6,r,O,hz⟩:=I.tuple Z;obtain⟨j,h1,h2,h3,h4,h5⟩:=Xk he;obtain⟨w,ew,a2⟩:=r.get h2;have hl:=r.length;have hn:=vX;have a4:EP X pins σ Q w s:=⟨z,H,I,a2,q⟩;exact subscriptTail_builtinR (x:=w) O.typeIs slot_tuple_getitem.lookup
  (getItem_tuple (j:=j) (Q:=λr s'=>r=w/\EP X pins σ Q r s') O ⋯ ⋯ (by rw [zir,<- hl];exact h1) (by simpa using ew) ⟨rfl,a4⟩) Y
theorem ze3:IxR X zhY:=by
 intro value a3 pins s σ H x y v u Q I O S h U;obtain⟨z,i,c,rfl,rfl,hz,Y,q⟩:=h;obtain⟨t,rfl⟩:=O;obtain⟨t',rfl⟩:=S;obtain⟨j,h1,h2,h3,Z,h5⟩:=Xk Y;have hl:z.cps.toList.length=z.length:=by simp [Str.length]
 rw [hl]at h1 Z h5;have hn:=vX;exact tail_any (typeIs_str s z t) slot_str_getitem.lookup (getItem_str (c:=c) (by
  have e1:decide (i < -(2 ^ 63:Int))=false:=decide_eq_false ⋯;have e2:decide (i>=2 ^ 63)=false:=decide_eq_false ⋯;rw [e1,e2,Bool.or_false]) (by rw [h1];simpa using h2) ⟨.str ⟨#[c]⟩,H,I.tok _,⟨_,rfl⟩,q⟩) U
theorem K4(z:List Value)(n j:Nat)(u:Value):ziT (·.setIfInBounds j u) {cls:= .type "list",data:= .seq z.toArray n} = {cls:= .type "list",data:= .seq (z.set j u).toArray n}:=by
 simp [ziT]
theorem Inv.lst{pins:List (Addr×Obj)}{σ:St}{H:Hp}{s:Shared}{p:Addr}{xs:List V}(I:Inv X pins σ H s)(h:H p=some (.lst xs)) :
 ∃(O:List Value) (n:Nat),Vals xs O/\s.heap.get? p=some {cls:= .type "list",data:= .seq O.toArray n}/\xs.length<=sizeLine:=by
 obtain⟨z,O,n,r,e⟩:=I.hok p _ h;exact⟨O,n,r,e,z⟩
theorem Inv.lstUpd{pins:List (Addr×Obj)}{σ:St}{H:Hp}{s:Shared}{p:Addr}{xs ys:List V}{z its':List Value}{n n':Nat}{f:Obj->Obj}(I:Inv X pins σ H s)(h:H p=some (.lst xs))
 (S:s.heap.get? p=some {cls:= .type "list",data:= .seq z.toArray n}) (O:f {cls:= .type "list",data:= .seq z.toArray n} = {cls:= .type "list",data:= .seq its'.toArray n'}) (r:Vals ys its') (U:ys.length<=sizeLine) (t:Nat) :
 Inv X pins σ (upd H p (.lst ys)) {s with heap:=s.heap.update p f,toks:=t}:=by
 have e:(s.heap.update p f).get? p=some {cls:= .type "list",data:= .seq its'.toArray n'}:=by
  rw [zkP f S (by rw [O]<;>rfl),O]
 refine I.write (x:=p) (e:=p) (by rw [h];trivial) (.inl rfl) (λb u Y q=>(zju _ _ (zi6 Y)).trans q) ⟨_,e⟩ ?_;exact⟨U,its',n',r,e⟩
def zgn:V->V->V->Hp->(Hp->Prop)->Prop:=λo i v H Q=>∃p xs k j,o = .ref p/\i = .int k/\H p=some (.lst xs)/\ixN xs.length k=some j/\Q (upd H p (.lst (xs.set j v)))
theorem ZE:zhJ X zgn:=by
 intro pins s σ H o i v ov iv u Q I ro ri rv h;obtain⟨p,xs,k,j,rfl,rfl,U,hj,q⟩:=h;cases ro;obtain⟨t,rfl⟩:=ri;obtain⟨Y,n,r,z,hz⟩:=I.lst U;obtain⟨h1,h2,Z,h4⟩:=VI hj;have O:=r.length;have hn:=vX;have I':Inv X pins σ (upd H p (.lst (xs.set j v))) {s with heap:=s.heap.update p (ziT (·.setIfInBounds j u))}:=
  I.lstUpd U z (K4 Y n j u) (r.set rv j) (by rw [List.length_set];exact hz) s.toks
 by_cases h0:0<=k
 ·have S:k.toNat=j:=by
   rw [seqIndex_of h0 h4]at h1;exact zji h1
  exact PySem.W.ki_setAt z h0 ⋯ (by rw [zir,<- O];exact h4) (by rw [S];exact⟨_,I',q⟩)
 ·have S:(k+(Y.toArray.size:Int)).toNat=j:=by
   rw [seqIndex_neg ⋯ Z]at h1;rw [zir,<- O];exact zji h1
  exact PySem.W.ki_setBack z ⋯ (by rw [zir,<- O];exact Z) ⋯ (by rw [S];exact⟨_,I',q⟩)
def ZY:V->Bool
 | .non=>true
 | .bl _=>true
 | .int _=>true
 | .str _=>true
 | _=>false
def eqV:V->V->Bool
 | .non,.non=>true
 | .bl a,.bl b=>a==b
 | .bl a,.int b=>(if a then 1 else 0)==b
 | .int a,.bl b=>a==(if b then 1 else 0)
 | .int a,.int b=>a==b
 | .str a,.str b=>a==b
 | _,_=>false
theorem zfg{A:Around}{s:Shared}{y x:V}{u v:Value}(I:RelV y u)(z:RelV x v)(S:ZY y=true)(O:ZY x=true):zjq A s u v (eqV y x):=by
 cases y with
 | non=>
  cases I;cases x with
  | non=>cases z;exact zjq.same _
  | bl b=>cases z;exact zjq.none_bool b
  | int b=>obtain⟨t,rfl⟩:=z;exact zjq.none_int b t
  | str b=>obtain⟨t,rfl⟩:=z;exact zjq.none_str b t
  | _=>exact absurd (show false=true from O) ziR
 | bl a=>
  cases I;cases x with
  | non=>cases z;exact zjq.bool_none a
  | bl b=>cases z;exact zjq.bool_bool a b
  | int b=>obtain⟨t,rfl⟩:=z;exact zjq.bool_int a b t
  | str b=>obtain⟨t,rfl⟩:=z;exact zjq.bool_str a b t
  | _=>exact absurd (show false=true from O) ziR
 | int a=>
  obtain⟨t',rfl⟩:=I;cases x with
  | non=>cases z;exact zjq.int_none a t'
  | bl b=>cases z;exact zjq.int_bool a t' b
  | int b=>obtain⟨t,rfl⟩:=z;exact zks a t' b t
  | str b=>obtain⟨t,rfl⟩:=z;exact zjq.int_str a t' b t
  | _=>exact absurd (show false=true from O) ziR
 | str a=>
  obtain⟨t',rfl⟩:=I;cases x with
  | non=>cases z;exact zjq.str_none a t'
  | bl b=>cases z;exact zjq.str_bool a t' b
  | int b=>obtain⟨t,rfl⟩:=z;exact zjq.str_int a t' b t
  | str b=>obtain⟨t,rfl⟩:=z;exact zjq.str_str a t' b t
  | _=>exact absurd (show false=true from O) ziR
 | _=>exact absurd (show false=true from S) ziR
def eqU(x:V)(u:Value):Bool:=match u with
 | .none=>eqV .non x
 | .bool b=>eqV (.bl b) x
 | .int i _=>eqV (.int i) x
 | .str z _=>eqV (.str z) x
 | _=>false
theorem zbR{x y:V}{u:Value}(r:RelV y u)(f:ZY y=true):eqU x u=eqV y x:=by
 cases y with
 | non=>cases r;rfl
 | bl b=>cases r;rfl
 | int i=>obtain⟨t,rfl⟩:=r;rfl
 | str z=>obtain⟨t,rfl⟩:=r;rfl
 | _=>exact absurd (show false=true from f) ziR
theorem Xm{x:V} : ∀{xs:List V} {us:List Value},Vals xs us->xs.all ZY=true->us.any (eqU x)=xs.any λy=>eqV y x
 | _,_,.nil,_=>rfl
 | y::xs,u::us,.cons r t,f=>by
  rw [zkV,Bool.and_eq_true]at f;rw [zkU,zkU,zbR r f.1,Xm t f.2]
theorem ZS{A:Around}{s:Shared}{x:V}{v:Value}(I:RelV x v)(O:ZY x=true) : ∀{xs:List V} {us:List Value},Vals xs us->xs.all ZY=true->∀u∈us,zjq A s u v (eqU x u)
 | _,_,.nil,_=>λu z=>by cases z
 | y::xs,u::us,.cons r t,f=>λS z=>by
  rw [zkV,Bool.and_eq_true]at f;rcases ziq.mp z with rfl | z
  ·rw [zbR r f.1];exact zfg r I f.1 O
  ·exact ZS I O t f.2 S z
def inV(x:V)(xs:List V):Bool:=xs.any λy=>eqV y x
def rIn(K:PySem.W.Frag)(z:Bool):R2:=λx y H Q=>∃p xs,y = .ref p/\(SqL K H p xs\/SqT K H p xs)/\ZY x=true/\xs.all ZY=true/\Q (.bl (if z then !inV x xs else inV x xs)) H
theorem JS:OpR X (compareOp .NotIn) (rIn X.K true):=by
 intro pins s σ H x y v u Q I U Z h;obtain⟨p,xs,rfl,z,Y,fs,q⟩:=h;cases Z;rcases z with z | z
 ·obtain⟨O,r,S,hz⟩:=I.list z
  refine SeqAt.notIn_listAt (eqU x) S.isList (λw hw=>ZS U Y r fs w (by simpa using hw)) ⟨.bl _,H,I,rfl,?_⟩;rw [show O.toArray.any (eqU x)=O.any (eqU x)by simp,Xm r fs];exact q
 ·obtain⟨O,r,S,hz⟩:=I.tuple z
  refine SeqAt.notIn_tupleAt (eqU x) S (λw hw=>ZS U Y r fs w (by simpa using hw)) ⟨.bl _,H,I,rfl,?_⟩;rw [show O.toArray.any (eqU x)=O.any (eqU x)by simp,Xm r fs];exact q
theorem Qj:vb X (.builtin "len") (λxs H Q=>∃p ys,xs=[.ref p]/\(SqL X.K H p ys\/SqT X.K H p ys)/\Q (.int ys.length) H):=by
 intro pins s σ H xs us Q I r h;obtain⟨p,ys,rfl,z,q⟩:=h;obtain⟨u,rfl,U⟩:=xR r;cases U;have hn:=vX;rcases z with z | z
 ·obtain⟨Y,r',O,Z⟩:=I.list z
  have S:=r'.length;exact Calls.call_len_list O.isList (by simp only [zir]<;>omega) ⟨.int ys.length,H,I.tok _,⟨s.toks+1,by rw [zir,S]⟩,q⟩
 ·obtain⟨Y,r',O,Z⟩:=I.tuple z
  have S:=r'.length;exact len_tuple O (by simp only [zir]<;>omega) ⟨.int ys.length,H,I.tok _,⟨s.toks+1,by rw [zir,S]⟩,q⟩
theorem Qi:vb X (.builtin "len") (λxs H Q=>∃z,xs=[.str z]/\z.length<=sizeLine/\Q (.int z.length) H):=by
 intro pins s σ H xs us Q I r h;obtain⟨z,rfl,O,q⟩:=h;obtain⟨u,rfl,t,rfl⟩:=xR r;have hn:=vX;exact len_str ⋯ ⟨.int z.length,H,I.tok _,⟨_,rfl⟩,q⟩
theorem Qh:vb X (.type "list") (λxs H Q=>∃p ys,xs=[.ref p]/\(SqL X.K H p ys\/SqT X.K H p ys)/\∀l,H l=none->Q (.ref l) (upd H l (.lst ys))):=by
 intro pins s σ H xs us Q I r h;obtain⟨p,ys,rfl,S,q⟩:=h;obtain⟨u,rfl,rx⟩:=xR r;cases rx;have a1 : ∀(z:List Value),Vals ys z->ys.length<=sizeLine->∀(h':Heap) (O:Nat),(∀b o',s.heap.get? b=some o'->h'.get? b=some o')->
  h'.get? s.heap.objs.size=some {cls:= .type "list",dict:=none,data:= .seq z.toArray O,slots:=#[]}->EP X pins σ Q (.ref s.heap.objs.size) {s with heap:=h'}:=λz r' U h' O kp e=>
  ⟨.ref s.heap.objs.size,_,I.laid (t':=s.toks) kp (zim _) (show ObjOk X.prog X.w _ h' _ (.lst ys)from⟨U,z,O,r',e⟩),rfl,q _ (I.hok.fresh (zim _))⟩
 rcases S with S | S
 ·obtain⟨z,r',Y,U⟩:=I.list S
  have a3:=r'.length;obtain⟨o,Z,hc,n,hd⟩:=Y.isList;exact call_list_seq p (.inl rfl) Z hc hd (λh' O kp e=>a1 z r' U h' O kp e) (by simp only [zir]<;>omega)
 ·obtain⟨z,r',Y,U⟩:=I.tuple S
  have a3:=r'.length;obtain⟨o,Z,hc,n,hd⟩:=Y;exact call_list_seq p (.inr rfl) Z hc hd (λh' O kp e=>a1 z r' U h' O kp e) (by simp only [zir]<;>omega)
theorem Z9:vb X (.type "tuple") (λxs H Q=>∃p ys,xs=[.ref p]/\((SqL X.K H p ys/\∀l,H l=none->Q (.ref l) (upd H l (.tup ys)))\/(SqT X.K H p ys/\Q (.ref p) H))):=by
 intro pins s σ H xs us Q I r h;obtain⟨p,ys,rfl,h⟩:=h;obtain⟨u,rfl,Z⟩:=xR r;cases Z;rcases h with⟨z,q⟩ | ⟨z,q⟩
 ·obtain⟨O,r',S,U⟩:=I.list z
  have a1:=r'.length;refine call_tuple_list S.isList (λh' kp=>?_) (by simp only [zir]<;>omega);have Y:Inv X pins σ H {s with heap:=h'}:=I.kept (t':=s.toks) kp;have I2:Inv X pins σ (upd H h'.objs.size (.tup ys)) {s with heap:=h'.push {cls:= .type "tuple",data:= .seq O.toArray}}:=
   Y.laid (t':=s.toks) (λb o e=>zif _ e) (zim _) (show ObjOk X.prog X.w _ _ _ (.tup ys)from⟨U,O,r',IsTupD.new _ _⟩)
  exact⟨.ref h'.objs.size,_,I2,rfl,q _ (Y.hok.fresh (zim _))⟩
 ·obtain⟨O,r',S,U⟩:=I.tuple z
  exact call_tuple_same S ⟨.ref p,H,I,rfl,q⟩
def tyV(K:PySem.W.Frag)(T:String)(x:V)(H:Hp):Prop:=match x with
 | .str _=>T = "str"
 | .int _=>T = "int"
 | .ref p=>(T = "list"/\∃xs,SqL K H p xs)\/(T = "tuple"/\∃o,K.lookup p=some o/\o.cls = .type "tuple"/\o.dict=none)\/
  (T = "dict"/\((∃kvs,H p=some (.dK kvs))\/∃kvs,H p=some (.dT kvs)))\/(T = "set"/\∃S n,H p=some (.set S n))
 | _=>False
theorem zdJ{pins:List (Addr×Obj)}{σ:St}{H:Hp}{s:Shared}{T:String}{x:V}{v:Value}(I:Inv X pins σ H s)(r:RelV x v)(ty:tyV X.K T x H) :
 s.TypeIs v T/\∀a,v = .ref a->∃Y,s.heap.get? a=some Y/\Y.dict=none:=by
 cases x with
 | str z=>
  obtain⟨t,rfl⟩:=r;cases (show T = "str" from ty);exact⟨typeIs_str s z t,λ_ e=>nomatch e⟩
 | int i=>
  obtain⟨t,rfl⟩:=r;cases (show T = "int" from ty);exact⟨zme s i t,λ_ e=>nomatch e⟩
 | ref p=>
  cases r;rcases ty with⟨rfl,xs,hq⟩ | ⟨rfl,o,O,hc,hd⟩ | ⟨rfl,O⟩ | ⟨rfl,S,n,O⟩
  ·obtain⟨a2,_,Z,_⟩:=I.list hq
   refine⟨Z.isList.typeIs,λa e=>?_⟩;cases e;obtain⟨o,n,e,c,hd,_⟩:=Z;exact⟨o,e,hd⟩
  ·refine⟨⟨o,I.kIn p o O,hc⟩,λa e=>?_⟩
   cases e;exact⟨o,I.kIn _ o O,hd⟩
  ·have z : ∃o,s.heap.get? p=some o/\o.ExactDict:=by
    rcases O with⟨kvs,O⟩ | ⟨kvs,O⟩
    ·obtain⟨_,_,_,_,o,_,_,e,ex,_⟩:=I.hok p _ O
     exact⟨o,e,ex⟩
    ·obtain⟨_,_,_,_,o,_,_,e,ex,_⟩:=I.hok p _ O
     exact⟨o,e,ex⟩
   obtain⟨o,e,ex⟩:=z;refine⟨⟨o,e,ex.1⟩,λa U=>?_⟩;cases U;exact⟨o,e,ex.2.1⟩
  ·obtain⟨o,_,_,_,e,ex,_⟩:=I.hok p _ O
   refine⟨⟨o,e,ex.1⟩,λa U=>?_⟩;cases U;exact⟨o,e,ex.2.1⟩
 | _=>exact zj2 ty
def tBM(K:PySem.W.Frag)(T:String)(r:V->List V->Hp->VK->Prop)(to:TE)(t:TA):TE:=λσ H Q=>to σ H λx H1=>tyV K T x H1/\t σ H1 λxs H2=>r x xs H2 Q
variable{o e:Expr}{es:List Expr}{to:TE}{t:TA}{name:Str}{apos cpos:Pos}{T id:String}{r:V->List V->Hp->VK->Prop}
theorem zeD(U:PlainAttrs T)(slot:Slot T name id)(Y:typeOf (.builtin id)=pure (.type "method_descriptor"))(hm:MtR X id r)(Z:PE X o to)(ha:PA X (e::es) t)
 (a0:attributeBase o name X.env (eval o X.env)=eval o X.env:=by rfl)
 (a1:((backTo cpos (starEach (e::es) X.env)).all (λx=> !x.1) && (backToKw cpos (keywordEach [] X.env)).all (λx=>x.1.isSome)
   && decide ((e::es).length+([]:List Keyword).length+(if ([]:List Keyword).isEmpty then 0 else 1)<30))=true:=by rfl)
 (a2:(apos.endLine==cpos.line)=true:=by rfl) (hs:starEach (e::es) X.env=(false,eval e X.env)::starEach es X.env:=by rfl) (a4:(backTo cpos (starEach es X.env)).any (·.1)=false:=by rfl) :
 PE X (.Call (.Attribute o name apos) (e::es) [] cpos) (tBM X.K T r to t):=by
 intro pins s σ H Q I h;refine wpAny_Call_method_late a0 a1 a2 rfl (thn (Z pins s σ H _ I h) λv s1 hZ=>?_);obtain⟨x,H1,z,O,ty,q1⟩:=hZ;obtain⟨h1,h2⟩:=zdJ z O ty;refine⟨T,id,U,slot,Y,h1,h2,?_⟩;have S:=ha cpos pins s1 σ H1 _ z q1;rw [hs]at S ⊢;refine Calls.callWith_builtin (by show(false || (backTo cpos (starEach es X.env)).any (·.1))=false;rw [a4]<;>rfl) (Calls.evalArgs_plain ?_);exact thn S λus s2 ⟨vs,H2,I2,r2,q2⟩=>hm pins s2 σ H2 x vs v us Q I2 O r2 q2
end
def MtM(X:Cx)(id:String)(r:V->List V->Hp->VK->Prop):Prop:=
 ∀(pins:List (Addr×Obj)) (s:Shared) (σ:St) (H:Hp) (x:V) (xs:List V) (v:Value) (us:List Value) (Q:VK),Inv X pins σ H s->RelV x v->Vals xs us->r x xs H Q->
  wpAny (model X.prog X.w) X.A (call (.builtin id) (v::us)) (EP X pins σ Q) X.xe s
theorem Vals.one : ∀{x:V} {us:List Value},Vals [x] us->∃u,us=[u]/\RelV x u
 | _,_,.cons r .nil=>⟨_,rfl,r⟩
theorem Vals.dropLast{xs:List V}{us:List Value}(h:Vals xs us):Vals xs.dropLast us.dropLast:=by
 induction h with
 | nil=>exact .nil
 | cons r t z=>
  cases t with
  | nil=>exact .nil
  | cons q t'=>exact .cons r z
theorem Vals.rep{xs:List V}{us:List Value}(h:Vals xs us) : ∀k:Nat,Vals (zii k xs).flatten (zii k us).flatten
 | 0=> .nil
 | k+1=>by
  rw [zjQ,zjQ,zj4,zj4];exact Vals.append h (Vals.rep h k)
theorem wg(z:List Value) : ∀(k:Nat) (acc:List Value),
 zl1 (λx1 I=>x1++I) acc.toArray (zii k z.toArray)=(acc++(zii k z).flatten).toArray
 | 0,acc=>by simp
 | k+1,acc=>by
  have e:acc.toArray++z.toArray=(acc++z).toArray:=by simp
  have O:(acc++z)++(zii k z).flatten=acc++(zii (k+1) z).flatten:=by
   rw [zjQ,zj4,List.append_assoc]
  rw [<- O,<- wg z k (acc++z),<- e,zjQ,List.foldl_cons]
section
variable{X:Cx}{pins:List (Addr×Obj)}{σ:St}{H:Hp}{s:Shared}{l b:Addr}{xs ys zs:List V}
theorem Inv.lset{z its':List Value}{n:Nat}{f:Array Value->Array Value}{t':Nat}(I:Inv X pins σ H s)(O:H l=some (.lst xs))
 (e:s.heap.get? l=some {cls:= .type "list",data:= .seq z.toArray n}) (S:f z.toArray=its'.toArray) (U:Vals ys its') (Y:ys.length<=sizeLine) :
 Inv X pins σ (upd H l (.lst ys)) {s with heap:=s.heap.update l (ziT f),toks:=t'}:=by
 have q:=PySem.IsL.update e f;rw [S]at q;refine I.write (x:=l) (e:=l) (by rw [O];exact trivial) (.inl rfl) (λb' u Z hu=>(zju s.heap (ziT f) (zi6 Z)).trans hu) ⟨_,q⟩ ?_;exact⟨Y,its',_,U,q⟩
theorem Inv.lnew{z:List Value}{t':Nat}(I:Inv X pins σ H s)(O:Vals ys z)(S:ys.length<=sizeLine) :
 Inv X pins σ (upd H s.heap.objs.size (.lst ys)) {s with heap:=s.heap.push {cls:= .type "list",data:= .seq z.toArray},toks:=t'}:=
 I.laid (λ_ _ q=>zif _ q) (zim _) ⟨S,z,0,O,zix _ rfl⟩
theorem Inv.fresh(I:Inv X pins σ H s):H s.heap.objs.size=none:=I.hok.fresh (zim _)
theorem Inv.lstM(I:Inv X pins σ H s)(S:H l=some (.lst xs)):xs.length<=sizeLine/\∃(O:List Value) (n:Nat),Vals xs O/\xs.length=O.length/\s.heap.get? l=some {cls:= .type "list",data:= .seq O.toArray n}:=by
 obtain⟨z,O,n,r,e⟩:=I.hok l _ S;exact⟨z,O,n,r,r.length,e⟩
theorem zaK{n:Nat}(h:n<=sizeLine):zkW n=false:=by
 unfold zkW;exact decide_eq_false ⋯
end
section
variable{X:Cx}
def YY:V->List V->Hp->VK->Prop:=λx vs H Q=>∃l xs y,x = .ref l/\vs=[y]/\H l=some (.lst xs)/\xs.length<sizeLine/\Q .non (upd H l (.lst (xs++[y])))
theorem Vp:MtM X "list.append" YY:=by
 intro pins s σ H x vs v us Q I U Y h;obtain⟨l,xs,y,rfl,rfl,O,hz,q⟩:=h;cases U;obtain⟨u,rfl,Z⟩:=Y.one;obtain⟨z,S,n,r,hl,e⟩:=I.lstM O;refine zkS F.slot_list_append ⟨_,e,rfl⟩ F.entry_list_append (F.args_list_append_2 _ _) (PySem.list_append l S.toArray n u (by rw [zir];omega)) ⟨e,?_⟩;refine⟨.non,_,I.lset (its':=S++[u]) O e ⋯ (r.append (.cons Z .nil)) ?_,rfl,q⟩;rw [zjo,zkk];omega
def zhW:R2:=λx y H Q=>∃l k xs,x = .ref l/\y = .int k/\H l=some (.lst xs)/\ -(2 ^ 63)<=k/\k<2 ^ 63/\xs.length*k.toNat<=sizeLine/\
 ∀p,H p=none->Q (.ref p) (upd H p (.lst (zii k.toNat xs).flatten))
theorem Q1{α:Type}(xs:List α)(k:Nat):(zii k xs).flatten.length=k*xs.length:=by
 induction k with
 | zero=>simp
 | succ k z=>rw [zjQ,zj4,zjo,z,Nat.succ_mul,Nat.add_comm]
theorem zeJ:OpR X (binaryOp .Mult) zhW:=by
 intro pins s σ H x y v u Q I Z ry h;obtain⟨l,k,xs,rfl,rfl,hH,h1,h2,Y,q⟩:=h;cases Z;obtain⟨t,rfl⟩:=ry;obtain⟨z,O,n,r,hl,e⟩:=I.lstM hH;have a3:O.toArray.size*k.toNat<=sizeLine:=by rw [zir,<- hl];exact Y
 have a4 : ¬O.toArray.size*k.toNat>(2 ^ 63 - 1)/8:=by
  have:(sizeLine:Nat)<=(2 ^ 63 - 1)/8:=by decide
  omega
 have a5 : ¬(!Builtin.List.listFitsIndex k)=true:=by
  rw [fitsIndex_both h1 h2];exact ziR
 have a6 : ¬zkW (O.toArray.size*k.toNat)=true:=by
  rw [zaK a3];exact ziR
 have a7:zl1 (λx1 S=>x1++S) #[] (zii (if O.toArray.isEmpty=true then 0 else k.toNat) O.toArray)=(zii k.toNat O).flatten.toArray:=by
  have f0 : ∀m:Nat,zl1 (λx1 S=>x1++S) #[] (zii m O.toArray)=(zii m O).flatten.toArray:=λm=>by
   have:=wg O m [];rw [zkA]at this;exact this
  rw [f0];cases O with
  | nil=>simp
  | cons a r'=>rw [if_neg ⋯]
 refine wpAny_binaryOp_repeat_ref (T:="list") (U:="int") ⋯ ⟨_,e,rfl⟩ (λs'=>zme s' k t) noFill_list_mul F.fills_int_mul zlF repeat_list F.slot_int_index.lookup
  (zkS zlF (zme s k t) F.entry_int_rmul (F.args_int_rmul_2 _ _) (int___rmul___int_list k t l O.toArray n)
    ⟨e,rfl,⟨_,e,rfl⟩,zkS F.slot_list_mul ⟨_,e,rfl⟩ F.entry_list_mul (F.args_list_mul_2 _ _) (AutoListH.list___mul___list_int_3 l O.toArray n k t a5 a4 a6) ⟨e,?_⟩⟩)
 rw [a7];exact⟨.ref _,_,I.lnew (t':=s.toks) (r.rep k.toNat) (by rw [Q1,zlA];exact Y),rfl,q _ I.fresh⟩
end
end L2
namespace Att
open PySem PySem.W PySem.Calls PyProof.Rows
theorem wa{P:Params}{h:Heap} : ∀(ns:List Int) (vs:List Value),WellAll P h vs (ns.map WData.int)->IntsAre vs ns:=by
 intro ns
 induction ns with
 | nil=>
  intro vs w;rw [zlu]at w;cases w;exact .nil
 | cons n ns z=>
  intro vs w;rw [ziK]at w;cases w with
  | cons a b=>
   cases a;exact .cons _ _ (z _ b)
theorem YQ{l:OpenLaw}{n:Nat}(hn:l.most=some n){P:Params}{h:Heap}{args:List WData}{O:List Value}
 (S:l.row.toRowW.claim.pre args=true) (Y:WellAll P h O args) :
 ∃a vs ns,O=[zjz a]/\args=[WData.list (ns.map WData.int)]/\h.get? a=some {cls:= .type "list",data:= .seq vs.toArray}/\IntsAre vs ns/\ns.length<=n:=by
 have Z:WShape.hasAll [] args [.list .int]=true:=(pre_splitW S).1;have U:l.pre.holds [] {args:=args}=true:=(pre_splitW S).2;obtain⟨d,r,rfl,h1,h2⟩:=hasAllW_cons Z;obtain rfl:=hasAllW_nil h2;obtain⟨xs,rfl,h3⟩:=hasW_list h1;obtain⟨ns,rfl⟩:=items_int h3;have a1:ns.length<=n:=by
  unfold OpenLaw.pre at U;have z:(WTm.not (.lt (.lit (.int (n:Int))) (.len (.arg 0)))).holds [] {args:=[.list (ns.map .int)]}=true:=by
   have z:=(holds_andW U).1;rw [hn]at z;exact z
  have I:=condW_of z (w_not (w_lt w_lit (w_len_list (w_arg rfl))));rw [ziD]at I;refine Nat.le_of_not_lt λq=>?_;have q':(n:Int)<((ns.length:Nat):Int):=by omega
  first
   | (rw [decide_eq_true q']at I;exact absurd I ⋯)
   | (simp at I;omega)
 cases Y with
 | cons w1 w2=>
  cases w2;cases w1 with
  | list ho a6=>exact⟨_,_,ns,rfl,rfl,ho,wa ns _ a6,a1⟩
theorem Y8(l:OpenLaw)(args:List WData):l.row.toRowW.claim.post args (.bool true) args=true:=
 postW_of (r:=l.row.toRowW) (X:=(true==true))
  (show WShape.has [] (.bool true) .bool=true by first | rfl | decide | simp [WShape.has,WShape.arms,WShape.armsAll])
  (show(WTm.eq .res (.lit (.bool true))).value [] {args:=args,res:=some (.bool true),after:=args}=some (.bool (true==true))from w_eq_bool (w_res rfl) w_lit) rfl
theorem attach_call{l:OpenLaw}{n:Nat}{q:Program}{O:List Str}{S:(Str->Option Value)->Heap->Prop}{U:World->Heap->Prop}{d:DefRec}
 (hn:l.most=some n) (a0:d.params.defaults=[])
 (call : ∀(w:World) (s₀ z:Shared) (mg mb:Str->Option Value) (fa:Addr) (o:Obj) (pm I doc:Value) (a:Addr) (vs:List Value) (ns:List Int),
   Ground q O [] S w s₀ mg mb z.heap->U w z.heap->
   z.heap.get? fa=some o->o.data = .func (docDef d.name d.params d.body d.scope pm I doc)->z.heap.CodeRec I d.name->mg d.name=some (.ref fa)->
   z.heap.get? a=some {cls:= .type "list",data:= .seq vs.toArray}->IntsAre vs ns->ns.length<=n->z.gens = #[]->
   codeAny (model l.prog w) callerA (.call (.ref fa) ⟨[.ref a],[]⟩) (λr s'=>r = .ok (.ret (.bool true))/\OldK z.heap s'.heap/\s'.os=z.os/\AllBare s'.gens) z) :
 WalkO q O S U l.row.toRowW d [] (λf vs=>PySem.call f vs):=by
 intro w s₀ z mg mb G Y fa o pm I doc dV kV ho hd a3 Z a4 hg args ae as a6 ag ah a7 ai;obtain rfl:dV = .none:=Dflts.none Z a0;obtain rfl:kV = .none:=Dflts.noKw Z;obtain⟨a,vs,ns,rfl,rfl,a8,a9,aa⟩:=YQ hn a6 a7;refine enter_call (zlK (call w s₀ z mg mb fa o pm I doc a vs ns G Y ho (fd_plain hd) a3 a4 a8 a9 aa hg) λr s' hq=>?_);obtain⟨rfl,h2,h3,h4⟩:=hq;exact⟨.inl ⟨.bool true,.bool true,[],rfl,λ_=>rfl,.bool true,Y8 l _,λ_=>⟨zkn.nil,λ_ hm=>(nomatch hm)⟩⟩,h2,h3,h4⟩
end Att
namespace L2
open PySem PySem.Spec PyProof.Rows
theorem kP : ∀{vs:List Value} {ns:List Int},IntsAre vs ns->Vals (ns.map V.int) vs
 | _,_,.nil=> .nil
 | _,_,.cons n t h=> .cons ⟨t,rfl⟩ (kP h)
def zf8(H:Hp):Prop:=∀b,H b=none\/∃o xs,H b=some (.frz o (.lst xs))
theorem zaS{P:Program}{w:World}{K:PySem.W.Frag}{mg mb:Str->Option Value}{CX:CXT}{k:Nat}{fa a:Addr}{fd:FuncData}{x:Str}{sp:Sp}{I:Shared}{vs:List Value}{ns:List Int}
 (KX:K.In I.heap) (a1:I.heap.Ns mainGlobals mg) (O:I.heap.Ns builtinsNs mb) (a9 : ∀x:Str,x ≠ "__name__"->mb x=bootBuiltins x) (aa:I.heap.NoLimit) (hg:I.gens = #[])
 (ha:I.heap.get? a=some {cls:= .type "list",data:= .seq vs.toArray}) (hi:IntsAre vs ns) (hl:ns.length<=sizeLine) (hr:Room k callerA)
 (F : ∀base:Heap,K.In base->base.Ns mainGlobals mg->FnOk P w K mg base CX k fa fd [x] sp) (ad : ∀(s:Shared) (u:Value),BindsTo s fd ⟨[u],[]⟩ [(x,u)])
 (ae : ∀H:Hp,zf8 H->SqL K H a (ns.map V.int)->sp [.ref a] H (λv _=>v = .bl true) λ_ _ _=>False)
 (af : ∀H e s',CX [] H I (λ_ _ _=>False) e s'->False) :
 codeAny (model P w) callerA (.call (.ref fa) ⟨[.ref a],[]⟩) (λr s'=>r = .ok (.ret (.bool true))/\OldK I.heap s'.heap/\s'.os=I.os/\AllBare s'.gens) I:=by
 have rv:=kP hi;have ag:=hi.length;have a4 : ∀H:Hp,zf8 H->SqL K H a (ns.map V.int)->HOk P w H I.heap->(∀b,H b≠none->b=a)->(H a≠none->K.lookup a=none)->
  codeAny (model P w) callerA (.call (.ref fa) ⟨[.ref a],[]⟩) (λr s'=>r = .ok (.ret (.bool true))/\OldK I.heap s'.heap/\s'.os=I.os/\AllBare s'.gens) I:=by
  intro H hO hS hok hA hK;have a7 : ∀{b:Addr} {o:Obj},I.heap.get? b=some o->H b=none->(za3 I.heap H).get? b=some o:=λe n=>za2 e n;have aj : ∀{b:Addr} {o:Obj} {es:Array DictEntry} {S:Nat},I.heap.get? b=some o->o.data = .dict es S->H b=none:=λ{b o es S} e d=>by
   cases q:H b with
   | none=>rfl
   | some u=>
    have Z:b=a:=hA b (by rw [q];simp);subst Z;rw [ha]at e;cases e;have d':Data.seq vs.toArray _=Data.dict es S:=d;cases d'
  have Y : ∀{b:Addr} {m:Str->Option Value},I.heap.Ns b m->(za3 I.heap H).Ns b m:=λ{b m} ⟨o,es,S,e,d,r⟩=>⟨o,es,S,a7 e (aj e d),d,r⟩;have a8:K.In (za3 I.heap H):=λb o e=>a7 (KX b o e) (by
   cases q:H b with
   | none=>rfl
   | some u=>
    have Z:b=a:=hA b (by rw [q];simp);subst Z;rw [hK (by rw [q];simp)]at e;cases e)
  have hM:Mod K mg (za3 I.heap H):=⟨a8,Y a1,⟨mb,Y O,a9⟩,let ⟨mc,h1,h2⟩:=aa;⟨mc,Y h1,h2⟩⟩;have e0:Env0 P w K mg (za3 I.heap H) callerA [] I H:=⟨rfl,hM,λb o e=>zcQ e,Nat.le_of_eq (VQ _ _),trivial,λb O=>absurd (show b∈([]:List Addr)from O) ⋯,hok,.of_eq hg⟩;refine zlK ((F _ a8 (Y a1)).run callerA [] I H ⟨[.ref a],[]⟩ [.ref a] [.ref a] _ _ hr e0 (ad I (.ref a)) (.cons rfl .nil) (ae H hO hS)) λr s' h=>?_;cases r with
  | error e=>exact(af H e s' h).elim
  | ok fl=>
   cases fl with
   | next=>exact zj2 h
   | brk=>exact zj2 h
   | cont=>exact zj2 h
   | ret u=>
    obtain⟨v,H',os,bare,un,ao,r',q⟩:=h;have q':v = .bl true:=q;subst q';obtain rfl:u=Value.bool true:=r';refine⟨rfl,OldK.of_keep λb o e=>?_,os,bare⟩;cases q:H b with
    | none=>exact un.keep b o e q (by intro z;exact absurd (show b∈([]:List Addr)from z) ⋯) ⋯
    | some u=>
     rcases hO b with z | ⟨ob,xs,z⟩
     ·rw [q]at z;cases z
     ·have z2:=un.frzs b ob _ z
      obtain⟨e1,_⟩:=hok b _ z;obtain⟨e2,_⟩:=ao b _ z2;rw [e]at e1;cases e1;exact e2
 cases hk:K.lookup a with
 | some o=>
  have e:=KX a o hk;rw [ha]at e;cases e;refine a4 (λ_=>none) (λ_=> .inl rfl) (.inr ⟨_,vs.toArray,_,hk,rfl,rfl,rfl,by rw [zir,ag];exact hl,by simpa using rv⟩) (λb u z=>by have U:(none:Option HO)=some u:=z;cases U) (λb z=>absurd rfl z) λz=>absurd rfl z
 | none=>
  refine a4 (λb=>if b=a then some (.frz {cls:= .type "list",data:= .seq vs.toArray} (.lst (ns.map V.int)))else none) (λb=>?_) (.inl (.inr ⟨{cls:= .type "list",data:= .seq vs.toArray},if_pos rfl⟩)) (λb u z=>?_) (λb z=>?_) λ_=>hk
  ·by_cases O:b=a
   ·exact .inr ⟨_,_,if_pos O⟩
   ·exact .inl (if_neg O)
  ·by_cases O:b=a
   ·have U:=(if_pos O).symm.trans z
    cases U;subst O;exact⟨ha,by rw [ziD];exact hl,vs,_,rv,ha⟩
   ·have U:=(if_neg O).symm.trans z
    cases U
  ·by_cases O:b=a
   ·exact O
   ·exact absurd (if_neg O) z
abbrev KOf{K:PySem.W.Frag}{h:Heap}(_:K.In h):PySem.W.Frag:=K
theorem zbZ{l:PySem.W.OpenLaw}{n k:Nat}{q:Program}{S:List Str}{U:(Str->Option Value)->Heap->Prop}{z:World->Heap->Prop}{d:DefRec}{K:Params->PySem.W.Frag}{CX:World->CXT}{sp:World->Sp}{x:Str}
 (hn:l.most=some n) (Z:n<=sizeLine) (a0:d.params.defaults=[]) (hr:Room k callerA)
 (hY : ∀(w:World) (h:Heap),z w h->(K w.params).In h)
 (F : ∀(w:World) (mg:Str->Option Value) (fa:Addr) (h:Heap),(K w.params).In h->h.Ns mainGlobals mg->mg d.name=some (.ref fa)->
   ∃fd:FuncData,(∀(s:Shared) (u:Value),BindsTo s fd ⟨[u],[]⟩ [(x,u)])/\
    ∀base:Heap,(K w.params).In base->base.Ns mainGlobals mg->FnOk l.prog w (K w.params) mg base (CX w) k fa fd [x] (sp w))
 (a3 : ∀(w:World) (H:Hp) (a:Addr) (ns:List Int),ns.length<=n->zf8 H->SqL (K w.params) H a (ns.map V.int)->sp w [.ref a] H (λv _=>v = .bl true) λ_ _ _=>False)
 (a4 : ∀(w:World) (H:Hp) (s:Shared) (e:Value) (s':Shared),CX w [] H s (λ_ _ _=>False) e s'->False) :
 PySem.W.WalkO q S U z l.row.toRowW d [] (λf vs=>PySem.call f vs):=by
 refine Att.attach_call hn a0 λw s₀ s₁ mg mb fa o pm cd doc a vs ns G Y ho hd ag a6 a7 a8 I hg=>?_;have O:=hY w _ Y;obtain⟨fd,hb,hF⟩:=F w mg fa _ O G.T.g a6;exact zaS O G.T.g G.T.b G.T.builtins G.T.nolimit hg a7 a8 (zjt I Z) hr hF hb (λH hO hS=>a3 w H a ns I hO hS) λH e s'=>a4 w H s₁ e s'
theorem walk_ofK{l:PySem.W.OpenLaw}{n k:Nat}{q:Program}{I:List Str}{O:(Str->Option Value)->Heap->Prop}{z:World->Heap->Prop}{d:DefRec}{K:Params->PySem.W.Frag}{CX:CXT}{sp:PySem.W.Frag->Sp}{x:Str}
 (hn:l.most=some n) (S:n<=sizeLine) (U:d.params.defaults=[]) (Y:Room k callerA)
 (Z : ∀(w:World) (h:Heap),z w h->(K w.params).In h)
 (F : ∀(w:World) (mg:Str->Option Value) (fa:Addr) (h:Heap),(K w.params).In h->h.Ns mainGlobals mg->mg d.name=some (.ref fa)->
   ∃fd:FuncData,(∀(s:Shared) (u:Value),BindsTo s fd ⟨[u],[]⟩ [(x,u)])/\
    ∀base:Heap,(K w.params).In base->base.Ns mainGlobals mg->FnOk l.prog w (K w.params) mg base CX k fa fd [x] (sp (K w.params)))
 (a0 : ∀(K:PySem.W.Frag) (H:Hp) (a:Addr) (ns:List Int),ns.length<=n->zf8 H->SqL K H a (ns.map V.int)->sp K [.ref a] H (λv _=>v = .bl true) λ_ _ _=>False)
 (a1 : ∀(H:Hp) (s:Shared) (e:Value) (s':Shared),CX [] H s (λ_ _ _=>False) e s'->False) :
 PySem.W.WalkO q I O z l.row.toRowW d [] (λf vs=>PySem.call f vs):=
 zbZ (K:=K) (CX:=λ_=>CX) (sp:=λw=>sp (K w.params)) hn S U Y Z F (λw H a ns h1 h2 h3=>a0 (K w.params) H a ns h1 h2 h3) λ_ H s e s'=>a1 H s e s'
def defArgs(s:Stmt):Arguments:=match s with
 | .FunctionDef _ a _ _ _ _ _ _ _ _=>a
 | _=>{posonlyargs:=[],args:=[],vararg:=none,kwonlyargs:=[],kw_defaults:=[],kwarg:=none,defaults:=[]}
def defBody(s:Stmt):List Stmt:=match s with
 | .FunctionDef _ _ b _ _ _ _ _ _ _=>b
 | _=>[]
def defScope(s:Stmt):Scope:=match s with
 | .FunctionDef _ _ _ _ _ _ sc _ _ _=>sc
 | _=>{kind:= .function,names:=[],isGenerator:=false,isCoroutine:=false}
abbrev CX0:CXT:=λ_ _ _ _ _ _=>False
abbrev E0:XK:=λ_ _ _=>False
theorem zeG{X:Cx}:WA CX0 X E0:=λ_ _ _ _ _ _ _ h=>h.elim
structure Fun(K:PySem.W.Frag)(x qual:Str)(st:Stmt)(f:Addr)(fd:FuncData):Prop where
 ex : ∃(oc:Value) (od:Option Addr) (kV doc pm:Value) (an:Option Addr) (cdv ct:Value) (osl:Array (Option Value)),
  fd=PySem.W.fnOf x qual (defArgs st) (defBody st) (defScope st) .none kV doc pm an cdv ct/\K.lookup f=some ⟨oc,od,.func fd,osl⟩/\PySem.W.codeIn K cdv qual=true
 kp:PySem.W.keepIn K (.ref f)=true
section
variable{P:Program}{w:World}{K:PySem.W.Frag}{mg:Str->Option Value}{base:Heap}
theorem Fun.ok{x qual:Str}{st:Stmt}{f:Addr}{fd:FuncData}{N ps:List Str}{k:Nat}{sp:Sp}(F:Fun K x qual st f fd)(S:FnScope N ps (defScope st))(len : ∀vs H Q E,sp vs H Q E->vs.length=ps.length)
 (z : ∀(cdv:Value) (A:Around) (outer:List Env) (s:Shared) (H:Hp) (vs:List V) (Q:VK) (E:XK),Room k (A.deeper (envOfC qual (defScope st) s.heap.objs.size f cdv))->sp vs H Q E->
   ∃t,PSs (zdj CX0 P w K mg base N qual (defScope st) f cdv A outer s H E).nox (defBody st) t/\t {nx:=λ_ H'=>Q .non H',rt:=Q} (start N vs) H):FnOk P w K mg base CX0 (k+1) f fd ps sp:=by
 obtain⟨oc,od,kV,doc,pm,an,cdv,ct,osl,rfl,lk,I⟩:=F.ex;refine zgI lk I S len λA outer s H vs Q E O U=>?_;obtain⟨t,h,q⟩:=z cdv A outer s H vs Q E O U;exact⟨t,h.nox,q⟩
theorem zfc{x qual:Str}{st:Stmt}{f:Addr}{oc:Value}{od an:Option Addr}{osl:Array (Option Value)}{kV doc pm cdv ct:Value}(l:K.lookup f=some ⟨oc,od,.func (PySem.W.fnOf x qual (defArgs st) (defBody st) (defScope st) .none kV doc pm an cdv ct),osl⟩)
 (c:PySem.W.codeIn K cdv qual=true) (k:PySem.W.keepIn K (.ref f)=true):Fun K x qual st f (PySem.W.fnOf x qual (defArgs st) (defBody st) (defScope st) .none kV doc pm an cdv ct):=⟨⟨oc,od,kV,doc,pm,an,cdv,ct,osl,rfl,l,c⟩,k⟩
end
def Same(H H':Hp):Prop:=∀b o,H b=some o->H' b=some o
theorem Same.refl(H:Hp):Same H H:=λ_ _ h=>h
theorem Same.trans{H H1 H2:Hp}(a:Same H H1)(b:Same H1 H2):Same H H2:=λc o h=>b c o (a c o h)
theorem Same.free{H H':Hp}(e:Same H H'){l:Addr}(h:H' l=Option.none):H l=Option.none:=by
 cases q:H l with
 | none=>rfl
 | some o=>
  rw [e l o q]at h;cases h
theorem Same.seq{K:PySem.W.Frag}{H H':Hp}{a:Addr}{xs:List V}(e:Same H H')(h:SqL K H a xs):SqL K H' a xs:=by
 rcases h with(h | ⟨o,h⟩) | h
 ·exact .inl (.inl (e _ _ h))
 ·exact .inl (.inr ⟨o,e _ _ h⟩)
 ·exact .inr h
def Jk(cells:List (Str×Addr)):List (Str×NameKind)->List (Str×Addr)->List (Str×Addr)
 | [],acc=>acc
 | (n,k)::r,acc=>Jk cells r (if k==NameKind.free then (match cells.lookup n with | some c=>(n,c)::acc | none=>acc)else acc)
theorem kg{env:Env}(f:Str×NameKind->List (Str×Addr)->Sem (ForInStep (List (Str×Addr))))
 (I : ∀name kind O,f (name,kind) O=if kind==NameKind.free then (do let a <- cellOf env name;pure (.yield ((name,a)::O)))else pure (.yield O)) :
 ∀(names:List (Str×NameKind)) (acc:List (Str×Addr)),(∀n,(n,NameKind.free)∈names->∃c,env.cells.lookup n=some c)->
  forIn names acc f=(pure (Jk env.cells names acc):Sem _)
 | [],acc,_=>by rw [zk9];rfl
 | (n,k)::r,acc,h=>by
  rw [zk0,I];have S : ∀n,(n,NameKind.free)∈r->∃c,env.cells.lookup n=some c:=λm hm=>h m (ziu _ hm);unfold Jk;by_cases z:(k==NameKind.free)=true
  ·rw [if_pos z,if_pos z]
   have Y:k=NameKind.free:=by simpa using z
   subst Y;obtain⟨c,U⟩:=h n ziv;have e:cellOf env n=pure c:=by unfold cellOf;rw [U]
   rw [e,U];exact kg f I r _ S
  ·rw [if_neg z,if_neg z]
   exact kg f I r acc S
theorem Z7{scope:Scope}{env:Env}(h : ∀n,(n,NameKind.free)∈scope.names->∃c,env.cells.lookup n=some c) :
 closureFor scope env=pure (Jk env.cells scope.names []):=by
 simp only [closureFor];rw [kg (env:=env) _ (λname kind z=>by cases hk:kind==NameKind.free<;>simp [hk]) scope.names [] h];rfl
theorem xj{M:Model}{A:Around}{E:Value->Shared->Prop}{s:Shared}{scope:Scope}{globals:Addr}{cl:List (Str×Addr)}{qual:Str}{env:Env}{Q:Env->Shared->Prop}
 (z:Q {scope:=scope,locals:=s.heap.objs.size,globals:=globals,cells:=cellsFrom (s.heap.objs.size+1) scope.names cl,qual:=qual,func:=none,code:=env.code,frame:=env.frame,builtins:=env.builtins}
   {s with heap:=pushCells (s.heap.push {cls:= .type "dict",data:= .dict #[]}) scope.names}) :
 wpAny M A (newFunctionEnv scope globals cl [] qual none .none (some env)) Q E s:=by
 simp only [newFunctionEnv,Option.isSome_some,if_true];refine zid (wpAny_alloc ?_);refine zid (wpAny_layCells _ (λname kind cells=>by cases hkc:kind==zj3<;>simp [hkc]) _ _ _ _ ?_);rw [show({s with heap:=s.heap.push {cls:= .type "dict",data:= .dict #[]}}:Shared).heap.objs.size=s.heap.objs.size+1 from ziP ..];exact zid (zik (zik z))
theorem XY{cells:List (Str×Addr)}{n:Str}{c:Addr} : ∀{names:List (Str×NameKind)} {acc:List (Str×Addr)},(n,c)∈Jk cells names acc->(n,c)∈acc\/((n,NameKind.free)∈names/\cells.lookup n=some c)
 | [],acc,h=> .inl h
 | (m,k)::r,acc,h=>by
  unfold Jk at h;rcases XY h with g | ⟨h1,h2⟩
  ·clear h
   by_cases z:(k==NameKind.free)=true
   ·rw [if_pos z]at g
    have I:k=NameKind.free:=by simpa using z
    subst I;cases e:cells.lookup m with
    | none=>rw [e]at g;exact .inl g
    | some O=>
     rw [e]at g;rcases ziq.mp g with g | g
     ·cases g;exact .inr ⟨ziv,e⟩
     ·exact .inl g
   ·rw [if_neg z]at g;exact .inl g
  ·exact .inr ⟨ziu _ h1,h2⟩
theorem vU{cells:List (Str×Addr)}{n:Str} : ∀{names:List (Str×NameKind)} {acc:List (Str×Addr)},((acc.lookup n).isSome=true\/((n,NameKind.free)∈names/\(cells.lookup n).isSome=true))->((Jk cells names acc).lookup n).isSome=true
 | [],acc,h=>by
  rcases h with h | ⟨h,_⟩
  ·exact h
  ·cases h
 | (m,k)::r,acc,h=>by
  unfold Jk;apply vU;by_cases z:(k==NameKind.free)=true
  ·rw [if_pos z]
   have O:k=NameKind.free:=by simpa using z
   subst O;cases e:cells.lookup m with
   | none=>
    rcases h with h | ⟨h1,h2⟩
    ·exact .inl h
    ·rcases ziq.mp h1 with h1 | h1
     ·cases h1;rw [e]at h2;cases h2
     ·exact .inr ⟨h1,h2⟩
   | some S=>
    dsimp only;by_cases I:n=m
    ·subst I;left;simp
    ·rcases h with h | ⟨h1,h2⟩
     ·left;rw [zjl];split<;>simp_all
     ·rcases ziq.mp h1 with h1 | h1
      ·cases h1;exact absurd rfl I
      ·exact .inr ⟨h1,h2⟩
  ·rw [if_neg z]
   rcases h with h | ⟨h1,h2⟩
   ·exact .inl h
   ·rcases ziq.mp h1 with h1 | h1
    ·cases h1;exact absurd rfl z
    ·exact .inr ⟨h1,h2⟩
theorem qP{n:Str}{c:Addr} : ∀{names:List (Str×NameKind)} {k:Nat} {acc:List (Str×Addr)},(n,c)∈cellsFrom k names acc->(n,c)∈acc\/(k<=c/\(n,zj3)∈names)
 | [],_,_,h=> .inl h
 | (m,kd)::r,k,acc,h=>by
  unfold cellsFrom at h;split at h
  ·rename_i z
   have I:kd=zj3:=by simpa using z
   subst I;rcases qP h with h | ⟨h1,h2⟩
   ·rcases ziq.mp h with h | h
    ·cases h;exact .inr ⟨zim _,ziv⟩
    ·exact .inl h
   ·exact .inr ⟨by omega,ziu _ h2⟩
  ·rcases qP h with h | ⟨h1,h2⟩
   ·exact .inl h
   ·exact .inr ⟨h1,ziu _ h2⟩
theorem xJ : ∀{names:List (Str×NameKind)} {k:Nat} {acc:List (Str×Addr)},(∀p∈acc,∀q∈acc,p.2=q.2->p.1=q.1)->(∀p∈acc,p.2<k)->
 ∀p∈cellsFrom k names acc,∀q∈cellsFrom k names acc,p.2=q.2->p.1=q.1
 | [],_,_,h,_=>h
 | (m,kd)::r,k,acc,h,hl=>by
  unfold cellsFrom;split
  ·refine xJ (λp z q I e=>?_) (λp z=>?_)
   ·rcases ziq.mp z with rfl | z<;>rcases ziq.mp I with rfl | I
    ·rfl
    ·have O:k=q.2:=e
     exact absurd (O ▸ hl q I) (zi8 _)
    ·have O:p.2=k:=e
     exact absurd (O ▸ hl p z) (zi8 _)
    ·exact h p z q I e
   ·rcases ziq.mp z with rfl | z
    ·exact zjM _
    ·exact zjb (hl p z)
  ·exact xJ h hl
theorem wp : ∀{names:List (Str×NameKind)} {h:Heap} {acc:List (Str×Addr)} {n:Str} {c:Addr},(n,c)∈cellsFrom h.objs.size names acc->(n,c)∈acc\/(pushCells h names).IsCell c none
 | [],_,_,_,_,hm=> .inl hm
 | (m,kd)::r,h,acc,n,c,hm=>by
  unfold cellsFrom at hm;unfold pushCells;split at hm
  ·rename_i z
   rw [if_pos z];have e:h.objs.size+1=(h.push {cls:= .type "cell",data:= .cell none}).objs.size:=(ziP ..).symm;rw [e]at hm;rcases wp hm with hm | hm
   ·rcases ziq.mp hm with hm | hm
    ·cases hm
     have I:(h.push {cls:= .type "cell",data:= .cell none}).IsCell h.objs.size none:=⟨{cls:= .type "cell",data:= .cell none},zix _ rfl,rfl⟩;exact .inr (I.keeps λb o q=>zlc _ _ b o q)
    ·exact .inl hm
   ·exact .inr hm
  ·rename_i z
   rw [if_neg z];exact wp hm
theorem kw{α:Type}{l:List (Str×α)}(nd:(l.map (·.1)).Nodup) : ∀{n:Str} {a:α},(n,a)∈l->l.lookup n=some a:=by
 induction l with
 | nil=>intro n a h;cases h
 | cons p r z=>
  intro n a h;obtain⟨m,b⟩:=p;rw [ziK,zjc]at nd;rw [zjl];rcases ziq.mp h with h | h
  ·cases h;simp
  ·have I:(n==m)=false:=by
    have:n≠m:=λe=>nd.1 (by rw [<- e];exact ziB.mpr ⟨(n,a),h,rfl⟩);simpa using this
   rw [I];exact z nd.2 h
theorem kF(scope:Scope)(env:Env)(x:Str):(relabel scope env).names.lookup x =
 (scope.names.lookup x).map λk=>if (k==NameKind.free && env.scope.kind == .function && env.kindOf x==some .cell)then zj3 else k:=by
 unfold relabel;dsimp only;generalize scope.names=l
 induction l with
 | nil=>rfl
 | cons p r I=>
  obtain⟨n,k⟩:=p;rw [ziK];cases hx:x==n with
  | true=>
   have e:x=n:=by simpa using hx
   subst e;rw [zjl,zjl];dsimp only;by_cases z:(k==NameKind.free && env.scope.kind == .function && env.kindOf x==some .cell)=true
   ·rw [if_pos z,beq_self_eq_true];dsimp only [zlR];rw [if_pos z]
   ·rw [if_neg z,beq_self_eq_true];dsimp only [zlR];rw [if_neg z]
  | false=>
   have : ∀O,List.lookup x ((n,O)::(r.map λx=>match x with | (n,k)=>if (k==NameKind.free && env.scope.kind == .function && env.kindOf n==some .cell)=true then (n,zj3)else (n,k)))=List.lookup x (r.map λx=>match x with | (n,k)=>if (k==NameKind.free && env.scope.kind == .function && env.kindOf n==some .cell)=true then (n,zj3)else (n,k)):=λO=>by
    rw [zjl,hx]
   rw [zjl (k:=n),hx];dsimp only;split
   ·rw [this];exact I
   ·rw [this];exact I
def yc(scope:Scope)(env:Env)(L:Addr):Env:=
 {scope:=relabel scope env,locals:=L,globals:=env.globals,cells:=cellsFrom (L+1) scope.names (Jk env.cells scope.names []),qual:=env.qual,func:=none,code:=env.code,frame:=env.frame,builtins:=env.builtins}
def jp(X:Cx)(scope:Scope)(z:List Str)(fp:List Addr)(s2:Shared)(H2:Hp):Cx:=
 {X with N:=z,s₀:=s2,H₀:=H2,env:=yc scope X.env (s2.heap.objs.size+1),outer:=X.stack,stack:=X.stack,ex:=fp,fn:=λx=>scope.names.lookup x==some .cell,pn:=[],xe:=λ_ _=>False}
structure CompOk(X:Cx)(scope:Scope)(fr:List (Str×Nat)):Prop where
 kind:scope.kind = .function
 nd:(scope.names.map (·.1)).Nodup
 free : ∀p∈scope.names,p.2=NameKind.free->X.env.kindOf p.1=some .cell\/X.env.kindOf p.1=some .free
 fr : ∀p∈fr,scope.names.lookup p.1=some .free/\X.N[p.2]? = some p.1
def pull(own:List Str)(fr:List (Str×Nat))(σ:St):St:=own.map (λ_=>none)++fr.map λp=>(σ[p.2]?).join
abbrev Q0:Obj:={cls:= .type "list",data:= .seq #[]}
abbrev zbS:Obj:={cls:= .type "dict",data:= .dict #[]}
theorem zaZ{X:Cx}{pins:List (Addr×Obj)}{σ:St}{H2:Hp}{s2:Shared}{scope:Scope}{own:List Str}{fr:List (Str×Nat)}{fp:List Addr}(I:Inv X pins σ H2 s2)(ok:CompOk X scope fr)
 (a2 : ∀b∈fp,FpOk X pins H2 b) (ag : ∀b∈fp,∃o,s2.heap.get? b=some o) :
 Inv (jp X scope (own++fr.map (·.1)) fp s2 H2) [] (pull own fr σ) (upd H2 s2.heap.objs.size (.lst [])) {s2 with heap:=pushCells ((s2.heap.push Q0).push zbS) scope.names}:=by
 have z1:(s2.heap.push Q0).objs.size=s2.heap.objs.size+1:=ziP ..;have z2:((s2.heap.push Q0).push zbS).objs.size=s2.heap.objs.size+2:=by rw [ziP,z1]
 have Y : ∀n c,(n,c)∈Jk X.env.cells scope.names []->(n,NameKind.free)∈scope.names/\X.env.cells.lookup n=some c:=λn c h=>(XY h).resolve_left ⋯;have a9 : ∀n c,X.env.cells.lookup n=some c->c<s2.heap.objs.size:=λn c h=>by obtain⟨v,q⟩:=I.cell n c h;exact q.lt
 have ai : ∀p∈Jk X.env.cells scope.names [],p.2<s2.heap.objs.size+1+1:=λp S=>by
  exact zjb (zjb (a9 p.1 p.2 (Y p.1 p.2 S).2))
 have hC:(yc scope X.env (s2.heap.objs.size+1)).cells=cellsFrom (s2.heap.objs.size+2) scope.names (Jk X.env.cells scope.names []):=rfl;have cells : ∀x c,(yc scope X.env (s2.heap.objs.size+1)).cells.lookup x=some c->((x,NameKind.free)∈scope.names/\X.env.cells.lookup x=some c)\/(s2.heap.objs.size+2<=c/\(x,zj3)∈scope.names):=λx c h=>by
  rcases qP (mem_of_lookup h)with h | h
  ·exact .inl (Y x c h)
  ·exact .inr h
 have aa : ∀x,(x,NameKind.free)∈scope.names->∃c,X.env.cells.lookup x=some c/\(yc scope X.env (s2.heap.objs.size+1)).cells.lookup x=some c:=λx hx=>by
  obtain⟨c,Z⟩:=I.ok.has x (ok.free (x,.free) hx rfl);have h1:((Jk X.env.cells scope.names []).lookup x).isSome=true:=vU (.inr ⟨hx,by rw [Z];rfl⟩);have h2:=zky scope.names (s2.heap.objs.size+2) (Jk X.env.cells scope.names []) (.inr h1);obtain⟨c',ac⟩:=zjx.mp h2;refine⟨c,Z,?_⟩;rcases cells x c' ac with⟨_,q⟩ | ⟨_,q⟩
  ·rw [Z]at q;cases q;exact ac
  ·exact absurd ((kw ok.nd q).symm.trans (kw ok.nd hx)) ⋯
 have keep : ∀b o,s2.heap.get? b=some o->(pushCells ((s2.heap.push Q0).push zbS) scope.names).get? b=some o:=λb o e=>
  zlc _ _ b o (zif _ (zif _ e))
 have ad : ∀b∈fp,b<s2.heap.objs.size:=λb O=>by obtain⟨o,e⟩:=ag b O;exact ziw e
 have fresh:H2 s2.heap.objs.size=none:=I.hok.fresh (zim _);have ae : ∀c,s2.heap.objs.size<c->(upd H2 s2.heap.objs.size (.lst [])) c=none:=λc Z=>by
  rw [zG (zjI Z)];exact I.hok.fresh (zlB Z)
 obtain⟨m0,ak⟩ : ∃m,(pushCells ((s2.heap.push Q0).push zbS) scope.names).Ns (s2.heap.objs.size+1) m:=by
  have q:=(Heap.Ns.new (s2.heap.push Q0) (.type "dict")).keeps (λb o e=>zlc scope.names _ b o e);rw [z1]at q;exact⟨_,q⟩
 refine⟨⟨I.ok.mod,ok.kind,I.ok.glob,I.ok.blt,zk1 _,λx y c h1 h2=>?_,λx hx=>?_,λx c hf h=>?_,I.ok.hd,I.ok.frames,.inl rfl,λb O=>⟨?_,λx c h z=>?_⟩,λb o e=>I.bs b o e,?_,λb o e O=>?_,λb O hs=>?_,I.stack,I.stkFree⟩,
  rfl,I.bare,Un.laid keep (zim _) fresh,⟨m0,ak,λi x v e1 U e3=>?_⟩,λx c h=>?_,?_,λx c h=>?_,λp S=>?_,?_,?_⟩
 ·have q:=xJ (names:=scope.names) (k:=s2.heap.objs.size+2) (acc:=Jk X.env.cells scope.names []) (λp S q hq e=>I.ok.inj p.1 q.1 p.2 (Y _ _ S).2 (by rw [e];exact(Y _ _ hq).2)) ai
  exact q (x,c) (mem_of_lookup h1) (y,c) (mem_of_lookup h2) rfl
 ·have a0:(relabel scope X.env).names.lookup x=some .cell\/(relabel scope X.env).names.lookup x=some .free:=hx
  have:scope.names.lookup x=some .cell\/scope.names.lookup x=some .free:=by
   rw [kF]at a0;cases e:scope.names.lookup x with
   | none=>rw [e]at a0;simp at a0
   | some k=>
    rw [e]at a0;cases k<;>simp at a0 ⊢
  rcases this with h | h
  ·exact zjx.mp (zky scope.names _ _ (.inl h))
  ·obtain⟨c,_,h2⟩:=aa x (mem_of_lookup h);exact⟨c,h2⟩
 ·have ao:(scope.names.lookup x==some .cell)=true:=hf
  have ap:scope.names.lookup x=some .cell:=by simpa using ao
  rcases cells x c h with⟨q,_⟩ | ⟨q,_⟩
  ·exact absurd ((kw ok.nd q).symm.trans ap) ⋯
  ·exact zjt (ziL _ 2) q
 ·exact ziI (zjb (ad b O))
 ·rcases cells x c h with⟨_,q⟩ | ⟨q,_⟩
  ·exact(a2 b O).2.2.2.2.1 x c q z
  ·exact absurd (ziF (ad b O) (zjt (ziL _ 2) (z ▸ q))) (zi8 _)
 ·exact zjt I.ok.bsz I.sz
 ·rcases (a2 b O).2.2.2.1 with q | q
  ·exact I.ok.noex b o e q
  ·exact absurd (ziF (ziw e) (zjt I.ok.bsz q)) (zi8 _)
 ·rcases ziq.mp (I.stkSub b hs)with q | q
  ·exact(a2 b O).2.1 q
  ·exact(a2 b O).2.2.1 q
 ·have hi:i<(own++fr.map (·.1)).length:=(zit.mp e1).1
  by_cases a5:i<own.length
  ·unfold pull at U
   rw [zi9 (by simpa using a5)]at U;simp [zja,a5]at U
  ·have hj : ∃p,fr[i - own.length]? = some p/\p.1=x/\(σ[p.2]?).join=some v:=by
    unfold pull at U;have a1:(own++fr.map (·.1))[i]? = some x:=e1;rw [ziW ⋯,zja]at a1;rw [ziW (by simpa using a5),zja,ziD]at U;cases q:fr[i - own.length]? with
    | none=>rw [q]at a1;cases a1
    | some p=>
     rw [q]at a1 U;exact⟨p,rfl,by simpa using a1,by simpa using U⟩
   obtain⟨p,S,ar,a3⟩:=hj;obtain⟨g1,g2⟩:=ok.fr p (zjs S);rw [ar]at g1 g2;have hσ:σ[p.2]? = some (some v):=by
    cases q:σ[p.2]? with
    | none=>rw [q]at a3;cases a3
    | some o=>rw [q]at a3;simpa using a3
   have af:=ok.free (x,.free) (mem_of_lookup g1) rfl;obtain⟨m,hn,hl⟩:=I.loc;obtain⟨u,ru,lk⟩:=hl p.2 x v g2 hσ (by rcases af with k | k;exact .inr (.inl k);exact .inr (.inr k));refine⟨u,ru,.inr ?_⟩;obtain⟨c,aw,ax⟩:=aa x (mem_of_lookup g1);have ay:s2.heap.IsCell c (some u):=by
    rcases lk with⟨k,_⟩ | ⟨_,c',e,z⟩
    ·rcases af with k' | k'<;>rw [k]at k'<;>cases k'
    ·rw [aw]at e;cases e;exact z
   refine⟨?_,c,ax,ay.keeps keep⟩;show(relabel scope X.env).names.lookup x=some .cell\/(relabel scope X.env).names.lookup x=some .free;rw [kF,g1];dsimp only [zlR];split
   ·exact .inl rfl
   ·exact .inr rfl
 ·rcases qP (mem_of_lookup h)with q | q
  ·obtain⟨v,w'⟩:=I.cell x c (Y x c q).2
   exact⟨v,w'.keeps keep⟩
  ·have q2:=mem_of_lookup h
   have q3:(x,c)∈cellsFrom ((s2.heap.push Q0).push zbS).objs.size scope.names (Jk X.env.cells scope.names []):=by rw [z2];exact q2
   rcases wp q3 with q4 | q4
   ·obtain⟨v,w'⟩:=I.cell x c (Y x c q4).2
    exact⟨v,w'.keeps keep⟩
   ·exact⟨none,q4⟩
 ·exact ae _ (zjM _)
 ·rcases cells x c h with⟨_,q⟩ | ⟨q,_⟩
  ·rw [zG (ziI (a9 x c q))];exact I.freeC x c q
  ·exact ae c (ziF (zjb (zjM _)) q)
 ·exact absurd (show p∈([]:List (Addr×Obj))from S) ⋯
 ·refine I.hok.laid keep (zim _) ⟨zjj _,[],0,.nil,?_⟩
  exact zlc _ _ _ _ (zif _ (zix _ rfl))
 ·show(pull own fr σ).length=(own++fr.map (·.1)).length
  simp [pull]
theorem kC{prog:Program}{w:World}{A:Around}{R:Result->Shared->Prop}{s:Shared}{elt O iter:Expr}{ifs:List Expr}{scope:Scope}{pos:Pos}{it acc:Value}{env:Env}(I:Nat->Shared->Prop)
 (a2 : ∀n s,I n s->wpAny (model prog w) A (pyNext it) (λr z=>match r with
   | none=>R (.ok .next) z
   | some v=>wpAny (model prog w) A (letOwnedTupleGo O it v) (λ_ z=>wpAny (model prog w) A (assign O env v) (λ_ U=>
    wpAny (model prog w) A (forIn ifs true λc r=>if r=true then do let ok <- isTrue c env (eval c env);pure (zli ok)else pure (zli r)) (λok S=>
     if ok=true then wpAny (model prog w) A (eval elt env) (λx Y=>
      wpAny (model prog w) A (call (.builtin "list.append") [acc,x]) (λ_ Z=>∃m,m<n/\I m Z) (λ_ _=>False) Y) (λ_ _=>False) S
     else ∃m,m<n/\I m S) (λ_ _=>False) U) (λ_ _=>False) z) (λ_ _=>False) z) (λ_ _=>False) s)
 (n:Nat) (h:I n s) :
 codeAny (model prog w) A (.compLoop (.ListComp elt [⟨O,iter,ifs,0⟩] scope pos) 0 it acc env) R s:=by
 refine codeAny_loop rfl I (λn s hI=>?_) n h;show wpAny _ A ((compTurn (.ListComp elt [⟨O,iter,ifs,0⟩] scope pos) 0 it acc env).onRaise (λx=>do noteFrame x env;theTreesLotGoes x)) _ _ s;refine wpAny_noted ?_;rw [compTurn_list];refine zid (zma (zid (zjW (a2 n s hI) (λr z h₁=>?_) λ_ _ h'=>h'.elim)));cases r with
 | none=>exact zik h₁
 | some v=>
  refine zid (zjW h₁ (λ_ a8 a4=>?_) λ_ _ h'=>h'.elim);refine zid (zjW a4 (λ_ U h₂=>zid (zjW h₂ (λok S h₃=>?_) λ_ _ h'=>h'.elim)) λ_ _ h'=>h'.elim);cases ok with
  | false=>exact zik ⟨rfl,h₃⟩
  | true=>
   exact zid (zid (zjW h₃ (λx Y h₄=>zid (zjW h₄ (λ_ Z h₅=>zik (zik ⟨rfl,h₅⟩)) λ_ _ h'=>h'.elim)) λ_ _ h'=>h'.elim))
def zdF(X:Cx)(ifs:List Expr)(t:TT):Prop:=
 ∀(pins:List (Addr×Obj)) (s:Shared) (σ:St) (H:Hp) (Q:Bool->Hp->Prop),Inv X pins σ H s->t σ H Q->
  wpAny (model X.prog X.w) X.A (forIn ifs true λc r=>if r=true then do let ok <- isTrue c X.env (eval c X.env);pure (zli ok)else pure (zli r)) (TP X pins σ Q) X.xe s
def zge:TT:=λ_ H Q=>Q true H
theorem ZP{X:Cx}:zdF X [] zge:=λ_ _ _ H _ I h=>wpAny_tests_nil ⟨H,I,h⟩
theorem XS{X:Cx}{c:Expr}{t:TT}(h:PT X c t):zdF X [c] t:=λpins s σ H Q I z=>wpAny_tests_one (h pins s σ H Q I z)
def CW(J:It)(g:TG)(tt:TT)(te:TE)(D:Addr)(Q:VK)(W:Nat->Nat->List V->St->Hp->Prop):Prop:=
 ∀i m ys σ H,W i m ys σ H->H D=some (.lst ys)/\((J.stop i H/\Q (.ref D) H)\/(J.go i H/\ys.length<sizeLine/\∀x H',J.yld i H x H'->g x σ H' λz H2=>tt z H2 λb I=>
  if b=true then te z I λv O=>O D=some (.lst ys)/\∃m',m'<m/\W (i+1) m' (ys++[v]) z (upd O D (.lst (ys++[v])))else ∃m',m'<m/\W (i+1) m' ys z I))
def zbt(X:Cx)(pins:List (Addr×Obj))(H:Hp)(L:Addr):Prop:=
 H L=none/\L≠X.env.locals/\X.s₀.heap.objs.size<=L/\(∀x c,X.env.cells.lookup x=some c->c≠L)/\∀p∈X.pn++pins,p.1≠L
theorem zbe{X:Cx}{pins:List (Addr×Obj)}{σ:St}{H2:Hp}{s2:Shared}{scope:Scope}{own:List Str}{fr:List (Str×Nat)}{fp:List Addr}{it:Addr}{tn:Nat->Heap->Prop}{J:It}{elt tg iter:Expr}{ifs:List Expr}{pos:Pos}{g:TG}{tt:TT}{te:TE}{Q:VK}{E:Value->Shared->Prop}
 (hc:X.calm=true) (I:Inv X pins σ H2 s2) (ok:CompOk X scope fr) (T:Turn X.prog X.w X.K tg J fp it tn) (st:tn 0 s2.heap) (U : ∀b∈fp,FpOk X pins H2 b)
 (hg:PG (jp X scope (own++fr.map (·.1)) fp s2 H2) tg g) (ht:zdF (jp X scope (own++fr.map (·.1)) fp s2 H2) ifs tt) (he:PE (jp X scope (own++fr.map (·.1)) fp s2 H2) elt te)
 (hW : ∀D,H2 D=none->∃W:Nat->Nat->List V->St->Hp->Prop,(∃m,W 0 m [] (pull own fr σ) (upd H2 D (.lst [])))/\CW J g tt te D Q W) :
 wpAny (model X.prog X.w) X.A (newList []) (λacc s₃=>wpAny (model X.prog X.w) X.A (newFunctionEnv scope X.env.globals (Jk X.env.cells scope.names []) [] X.env.qual none .none (some X.env)) (λa8 s₄=>
  codeAny (model X.prog X.w) X.A (.compStart (.ListComp elt [⟨tg,iter,ifs,0⟩] scope pos) 0 (.ref it) acc {a8 with scope:=relabel scope X.env})
   (λr s'=>(∃f,r = .ok f)/\∃D H',acc = .ref D/\Inv X pins σ H' s'/\Q (.ref D) H'/\(∃m,s'.heap.Ns a8.locals m)/\zbt X pins H' a8.locals) s₄) E s₃) E s2:=by
 have ah : ∀b∈fp,∃o,s2.heap.get? b=some o:=λb O=>by obtain⟨o,e,_⟩:=T.obj 0 _ st b O;exact⟨o,e⟩
 have I0:=zaZ (own:=own) I ok U ah;obtain⟨W,⟨m0,w0⟩,cw⟩:=hW _ I.fresh;refine zjD (xj ?_);have z1:(s2.heap.push Q0).objs.size=s2.heap.objs.size+1:=ziP ..;show codeAny _ _ (.compStart _ 0 (.ref it) (.ref s2.heap.objs.size) {scope:=relabel scope X.env,locals:=(s2.heap.push Q0).objs.size,globals:=X.env.globals,cells:=cellsFrom ((s2.heap.push Q0).objs.size+1) scope.names (Jk X.env.cells scope.names []),qual:=X.env.qual,func:=none,code:=X.env.code,frame:=X.env.frame,builtins:=X.env.builtins})
  (λr s'=>(∃f,r = .ok f)/\∃D H',zjz s2.heap.objs.size = .ref D/\Inv X pins σ H' s'/\Q (.ref D) H'/\(∃m,s'.heap.Ns (s2.heap.push Q0).objs.size m)/\zbt X pins H' (s2.heap.push Q0).objs.size) {s2 with heap:=pushCells ((s2.heap.push Q0).push zbS) scope.names}
 rw [z1];have ai:tn 0 (pushCells ((s2.heap.push Q0).push zbS) scope.names):=T.keep 0 _ _ st λb _ o e=>zlc _ _ b o (zif _ (zif _ e));have ba : ∀b∈fp,b<s2.heap.objs.size:=λb O=>by obtain⟨o,e⟩:=ah b O;exact ziw e
 have a9 : ∀{H':Hp},(∀b∈fp,H' b=none)->∀b∈fp,FpOk (jp X scope (own++fr.map (·.1)) fp s2 H2) [] H' b:=λhn b O=>
  ⟨hn b O,(I0.ok.exf b O).1,I0.ok.exfs b O,.inl O,(I0.ok.exf b O).2,λp hp=>absurd (show p∈([]:List (Addr×Obj))from hp) ⋯⟩
 have aj:codeAny (model X.prog X.w) X.A (.compLoop (.ListComp elt [⟨tg,iter,ifs,0⟩] scope pos) 0 (.ref it) (.ref s2.heap.objs.size) (yc scope X.env (s2.heap.objs.size+1)))
  (λr s'=>(∃f,r = .ok f)/\∃D H',zjz s2.heap.objs.size = .ref D/\Inv X pins σ H' s'/\Q (.ref D) H'/\(∃m,s'.heap.Ns (s2.heap.objs.size+1) m)/\zbt X pins H' (s2.heap.objs.size+1)) {s2 with heap:=pushCells ((s2.heap.push Q0).push zbS) scope.names}:=by
  refine kC (λn s'=>∃i ys σ' H',Inv (jp X scope (own++fr.map (·.1)) fp s2 H2) [] σ' H' s'/\tn i s'.heap/\(∀b∈fp,H' b=none)/\W i n ys σ' H') ?_ m0
   ⟨0,[],_,_,I0,ai,λb O=>by rw [zG (ziI (ba b O))];exact(U b O).1,w0⟩
  rintro n s3 ⟨i,ys,σ3,H3,I3,an,ao,w3⟩;obtain⟨hD,bc⟩:=cw i n ys σ3 H3 w3;rcases bc with⟨stop,qn⟩ | ⟨go,hz,step⟩
  ·refine thn (T.done (jp X scope (own++fr.map (·.1)) fp s2 H2) rfl rfl rfl hc i [] s3 σ3 H3 _ I3 (a9 ao) an stop) λr s4 S=>?_
   obtain⟨hr,Y⟩:=S;subst hr;refine⟨⟨_,rfl⟩,_,H3,rfl,I.call' (ch:=fp) Y.os Y.base Y.hok Y.bare (λb O=>⟨(U b O).2.2.2.1,(U b O).2.1,(U b O).2.2.2.2.1,(U b O).2.2.2.2.2⟩),qn,?_,Y.free,?_,?_,?_,?_⟩
   ·obtain⟨m,hn,_⟩:=Y.loc
    exact⟨m,hn⟩
   ·exact zjI (zjb I.lt)
   ·exact zlh I.sz
   ·intro x c e z
    obtain⟨v,q⟩:=I.cell x c e;exact absurd (zjb q.lt) (by rw [z];exact zi8 _)
   ·intro p hp z
    exact absurd (zjb (ziw (I.pin p hp).1)) (by rw [z];exact zi8 _)
  ·refine thn (T.item (jp X scope (own++fr.map (·.1)) fp s2 H2) rfl rfl rfl hc i [] s3 σ3 H3 _ I3 (a9 ao) an go) λr s4 S=>?_
   obtain⟨u,hr,h4⟩:=S;subst hr;refine thn h4 λ_ s5 S=>?_;obtain⟨x,H5,I5,r5,y5,ac,bj⟩:=S;have bl:=I5.pinned (a9 bj) (T.obj _ _ ac);refine thn (hg _ s5 σ3 H5 x u _ bl r5 (step x H5 y5)) λ_ s6 S=>?_;obtain⟨σ6,H6,I6,q6⟩:=S;refine thn (ht _ s6 σ6 H6 _ I6 q6) λb s7 S=>?_;obtain⟨H7,I7,q7⟩:=S;have after : ∀{σ8:St} {H8:Hp} {Z:Shared},Inv (jp X scope (own++fr.map (·.1)) fp s2 H2) ([]++JP fp s5.heap) σ8 H8 Z->tn (i+1) Z.heap/\∀b∈fp,H8 b=none:=λ{σ8 H8 Z} I8=>by
    refine⟨T.keep _ _ _ ac λb O o e=>(I8.pin (b,o) (ziG _ (ziG _ (ku O e)))).1,λb O=>?_⟩;obtain⟨o,e,d⟩:=T.obj _ _ ac b O;exact(I8.pin (b,o) (ziG _ (ziG _ (ku O e)))).2.1
   cases b with
   | false=>
    rw [if_neg ziR]at q7 ⊢;obtain⟨m',hm,w7⟩:=q7;exact⟨m',hm,i+1,ys,σ6,H7,I7.unpinned,(after I7).1,(after I7).2,w7⟩
   | true=>
    rw [if_pos rfl]at q7 ⊢;refine thn (he _ s7 σ6 H7 _ I7 q7) λv8 Z S=>?_;obtain⟨x8,H8,I8,r8,au,m',hm,w8⟩:=S;obtain⟨z8,av,n8,rv,c2,e8⟩:=I8.lstM au;refine zkS F.slot_list_append ⟨_,e8,rfl⟩ F.entry_list_append (F.args_list_append_2 _ _) (PySem.list_append _ av.toArray n8 v8 (by rw [zir];omega)) ⟨e8,?_⟩;have I9:=I8.lset (its':=av++[v8]) (f:=(·.push v8)) (t':=Z.toks) au e8 ⋯ (rv.append (.cons r8 .nil)) (by rw [zjo,zkk];omega);exact⟨m',hm,i+1,ys++[x8],σ6,_,I9.unpinned,(after I9).1,(after I9).2,w8⟩
 exact codeAny_compStart_list aj (T.self _ 0 _ _ _ ai aj)
def YG(wi:TI)(own:List Str)(fr:List (Str×Nat))(g:TG)(tt:TT)(te:TE):TE:=λσ H Q=>wi σ H λJ H1=>∀D,H1 D=none->
 ∃W:Nat->Nat->List V->St->Hp->Prop,(∃m,W 0 m [] (pull own fr σ) (upd H1 D (.lst [])))/\CW J g tt te D Q W
section
variable{X:Cx}{scope:Scope}{own:List Str}{fr:List (Str×Nat)}{elt tg iter:Expr}{ifs:List Expr}{pos:Pos}{wi:TI}{g:TG}{tt:TT}{te:TE}
theorem Kk{use:Option (Value->Sem Unit)}{R:Value->Shared->Prop}{pins:List (Addr×Obj)}{s:Shared}{σ:St}{H:Hp}{Q:VK}
 (z:X.calm=true) (ok:CompOk X scope fr) (hi:PI X tg iter wi) (O : ∀fp s2 H2,PG (jp X scope (own++fr.map (·.1)) fp s2 H2) tg g)
 (S : ∀fp s2 H2,zdF (jp X scope (own++fr.map (·.1)) fp s2 H2) ifs tt) (U : ∀fp s2 H2,PE (jp X scope (own++fr.map (·.1)) fp s2 H2) elt te)
 (I:Inv X pins σ H s) (h:YG wi own fr g tt te σ H Q)
 (Y : ∀D H' s' L,Inv X pins σ H' s'->Q (.ref D) H'->(∃m,s'.heap.Ns L m)->zbt X pins H' L->
   compPost (model X.prog X.w) X.A X.xe use R (.ref D) L (.ok .next) s')
 (Z : ∀x,foldedSetIterable iter X.env x=pure x:=by intro _;rfl) :
 wpAny (model X.prog X.w) X.A (comprehension (.ListComp elt [⟨tg,iter,ifs,0⟩] scope pos) scope X.env (firstIterPos [⟨tg,iter,ifs,0⟩] pos) (newList []) false (eval iter X.env) use) R X.xe s:=by
 refine wpAny_comprehension_free rfl Z (Z7 λn hn=>I.ok.has n (ok.free (n,.free) hn rfl)) ok.kind (λx hx e=>by rw [<- e];exact kw ok.nd (show(x.1,x.2)∈scope.names from hx)) ?_;refine thn (hi pins s σ H _ I h) λv s1 h1=>thn h1 λac s2 h2=>?_;obtain⟨it,fp,tn,J,H2,e,I2,T,a1,f2,hW⟩:=h2;subst e;refine thn (zbe (own:=own) (Q:=Q) (E:=X.xe) z I2 ok T a1 f2 (O fp s2 H2) (S fp s2 H2) (U fp s2 H2) hW) λacc s3 h3=>thn h3 λa5 s4 h4=>zlK h4 λr s' h5=>?_;obtain⟨⟨f,hr⟩,D,H',ea,I',q,hn,y⟩:=h5;subst hr;subst ea;have q2:=Y D H' s' a5.locals I' q hn y;cases use<;>exact q2
theorem QT(z:X.calm=true)(ok:CompOk X scope fr)(hi:PI X tg iter wi)(O : ∀fp s2 H2,PG (jp X scope (own++fr.map (·.1)) fp s2 H2) tg g)
 (S : ∀fp s2 H2,zdF (jp X scope (own++fr.map (·.1)) fp s2 H2) ifs tt) (U : ∀fp s2 H2,PE (jp X scope (own++fr.map (·.1)) fp s2 H2) elt te)
 (Y : ∀x,foldedSetIterable iter X.env x=pure x:=by intro _;rfl) :
 PE X (.ListComp elt [⟨tg,iter,ifs,0⟩] scope pos) (YG wi own fr g tt te):=by
 intro pins s σ H Q I h;rw [eval_ListComp];refine Kk (use:=none) z ok hi O S U I h (λD H' s' L Z q hn y=>?_) Y;obtain⟨m,hm⟩:=hn;obtain⟨y1,y2,y3,y4,y5⟩:=y;refine⟨m,hm,λh' sb=>⟨.ref D,H',Z.turned (t':=s'.toks) (it:=L) (λb o hb e=>sb.extBut b o hb e) y1 y2 (.inr y3) y4 y5,rfl,q⟩⟩
theorem yw{y:Str}{z S:Pos}{i:Nat}(U:X.N.Nodup)(Y:X.N[i]? = some y)(Z:Loc X.env.scope y)(hf:X.fn y=true\/X.env.scope.names.lookup y=some .local)
 (hc:X.calm=true) (ok:CompOk X scope fr) (hi:PI X tg iter wi) (hg : ∀fp s2 H2,PG (jp X scope (own++fr.map (·.1)) fp s2 H2) tg g)
 (ht : ∀fp s2 H2,zdF (jp X scope (own++fr.map (·.1)) fp s2 H2) ifs tt) (he : ∀fp s2 H2,PE (jp X scope (own++fr.map (·.1)) fp s2 H2) elt te)
 (hs : ∀x,foldedSetIterable iter X.env x=pure x:=by intro _;rfl) :
 PS X (.Assign [.Name y z] (.ListComp elt [⟨tg,iter,ifs,0⟩] scope pos) S) (YH (YG wi own fr g tt te) (ya i)):=by
 have O : ∃b:Bool,swapsWith (.ListComp elt [⟨tg,iter,ifs,0⟩] scope pos) (some (.Name y z)) S.line X.env=pure b:=⟨_,rfl⟩;obtain⟨b,O⟩:=O;cases b with
 | false=>
  have e1:swapsWithSole [.Name y z] (.ListComp elt [⟨tg,iter,ifs,0⟩] scope pos) S.line X.env=swapsWith (.ListComp elt [⟨tg,iter,ifs,0⟩] scope pos) (some (.Name y z)) S.line X.env:=rfl;exact JM (QT hc ok hi hg ht he hs) (Vf U Y Z hf) (by rw [e1];exact O)
 | true=>
  intro pins s σ H D I h;rw [exec_Assign_Name_used _ _ _ _ O];refine zid (zma (zid ?_));show wpAny _ X.A (do let _ <- comprehension (.ListComp elt [⟨tg,iter,ifs,0⟩] scope pos) scope X.env _ (newList []) false (eval iter X.env) (some (assign (.Name y z) X.env))) _ _ s;refine zid (thn (Kk (R:=λ_ s'=>SP X pins D .next s') (use:=some (assign (.Name y z) X.env)) hc ok hi hg ht he I h (λDa H' s' L I' q hn yg=>?_) hs) λ_ s' q=>zik (zik q));obtain⟨y1,y2,y3,y4,y5⟩:=yg;obtain⟨m,hm⟩:=hn;show wpAny _ _ (assign (.Name y z) X.env (.ref Da)) _ _ _;refine wpAny_assign_Name (Jw I' U Y Z (v:= .ref Da) rfl (λae af ag=>?_) hf);obtain⟨a,sb,ha⟩:=ag;have ai:L≠a:=by
   rcases ha with e | e
   ·rw [e];exact y2
   ·exact zi6 (y4 _ _ e)
  refine⟨m,hm.sameBut sb ai,λh' aj=>⟨_,_,af.turned (t':=ae.toks) (it:=L) (λb o O e=>aj.extBut b o O e) y1 y2 (.inr y3) y4 y5,q⟩⟩
end
inductive Sk where
 | L | T
 deriving DecidableEq
end L2
namespace DL
open PySem L2
inductive D where
 | non | bl (b:Bool) | int (i:Int) | str (x:Str) | tup (xs:List D) | lst (xs:List D)
 | exc (c:Str) (n:Option Int)
 | dic (ks vs:List D)
inductive Cell where
 | no | val (d:D) | own (ds:List D) | nest (rows:List (List D))
abbrev Ctx:=List Cell
abbrev CO (a : Type) := Ctx -> Option a
def lim:Nat:=2500
def jE:D->Option (Sk×List D)
 | .tup ds=>some (.T,ds)
 | .lst ds=>some (.L,ds)
 | _=>none
def zH(f:CO D):CO (Sk×List D):=λγ=>(f γ).bind jE
def jq(f:CO (List D)):CO D:=λγ=>(f γ).map D.lst
def zX(f:CO (List D)):CO (Sk×List D):=λγ=>(f γ).map λds=>(Sk.L,ds)
def Xh:Option Cell->Option D
 | some (.val d)=>some d
 | _=>none
def kh:Option Cell->Option (Sk×List D)
 | some (.val d)=>jE d
 | some (.own ds)=>some (.L,ds)
 | _=>none
def ze(i:Nat):CO D:=λγ=>Xh γ[i]?
def zf(i:Nat):CO (Sk×List D):=λγ=>kh γ[i]?
def zk(d:D):CO D:=λ_=>some d
def zq(F:D->D->Option D)(fa fb:CO D):CO D:=λγ=>(fa γ).bind λx=>(fb γ).bind λy=>F x y
def asB:D->Option Bool
 | .bl b=>some b
 | _=>none
def asI:D->Option Int
 | .int i=>some i
 | _=>none
def sB(f:CO D):CO Bool:=λγ=>(f γ).bind asB
def JD(f g:CO Bool):CO Bool:=λγ=>(f γ).bind λb=>if b=true then g γ else some false
def qX(f g:CO Bool):CO Bool:=λγ=>(f γ).bind λb=>if b=true then some true else g γ
def jc(f:CO Bool):CO Bool:=λγ=>(f γ).map λb=> !b
def YU(f g:CO D):CO D:=λγ=>((f γ).bind asB).bind λb=>if b=true then g γ else some (.bl false)
def zdX(f:CO D):CO D:=λγ=>((f γ).bind asB).map λb=> .bl (!b)
def XJ(c:CO Bool)(f g:CO D):CO D:=λγ=>(c γ).bind λb=>if b=true then f γ else g γ
def zC:CO (List D):=λ_=>some []
def zb(f:CO D)(g:CO (List D)):CO (List D):=λγ=>(f γ).bind λx=>(g γ).map λr=>x::r
def qj(f:CO (List D)):CO D:=λγ=>(f γ).bind λds=>if ds.length<=lim then some (.tup ds)else none
def qF(f:CO (List D)):CO (List D):=λγ=>(f γ).bind λds=>if ds.length<=lim then some ds else none
inductive Res where
 | val (d:D) | own (ds:List D)
inductive Fl where
 | next (γ:Ctx) | brk (γ:Ctx) | cont (γ:Ctx) | ret (r:Res)
def jh:CO Fl:=λγ=>some (.next γ)
def zJ(F G:CO Fl):CO Fl:=λγ=>(F γ).bind λz=>match z with
 | .next γ'=>G γ'
 | f=>some f
def jK(f:CO D):CO Fl:=λγ=>(f γ).map λd=> .ret (.val d)
def xC(f:CO (List D)):CO Fl:=λγ=>(f γ).map λd=> .ret (.own d)
def Z8:Option Cell->Option Fl
 | some (.val d)=>some (.ret (.val d))
 | some (.own ds)=>some (.ret (.own ds))
 | _=>none
def QM(i:Nat):CO Fl:=λγ=>Z8 γ[i]?
def W7:CO Fl:=λγ=>some (.cont γ)
def XI:CO Fl:=λ_=>none
def sIf(k:CO Bool)(F G:CO Fl):CO Fl:=λγ=>(k γ).bind λb=>if b=true then F γ else G γ
def z5(i:Nat)(f:CO D):CO Fl:=λγ=>(f γ).map λd=> .next (γ.set i (.val d))
def xS(i:Nat)(f:CO (List D)):CO Fl:=λγ=>(f γ).map λds=> .next (γ.set i (.own ds))
def xM:Option Cell->Option (List D)
 | some (.own ds)=>some ds
 | _=>none
def jY(i:Nat)(f:CO D):CO Fl:=λγ=>(xM γ[i]?).bind λds=>(f γ).bind λd=>if ds.length<lim then some (.next (γ.set i (.own (ds++[d]))))else none
def je(n:Nat)(ds:List D):Ctx:=ds.map Cell.val++zii (n - ds.length) Cell.no
def jC(n:Nat)(F:CO Fl)(ds:List D):Option Res:=(F (je n ds)).bind λz=>match z with
 | .ret r=>some r
 | .next _=>some (.val .non)
 | _=>none
def zbC:Res->D
 | .val d=>d
 | .own ds=> .lst ds
def zA(F:List D->Option Res)(g:CO (List D)):CO D:=λγ=>(g γ).bind λds=>(F ds).map zbC
def zgl:Res->Option (List D)
 | .own ds=>some ds
 | _=>none
def zY(F:List D->Option Res)(g:CO (List D)):CO (List D):=λγ=>(g γ).bind λds=>(F ds).bind zgl
def q8(lo:Int)(n:Nat):List D:=(zie n).map λ(i:Nat)=>D.int (lo+(i:Int))
def Jg(ds es:List D):List D:=(ds.zip es).map λp=>D.tup [p.1,p.2]
def zD(f:CO (Sk×List D)):CO (List D):=λγ=>(f γ).map (·.2)
def inR(i:Int):Bool:=decide (i.natAbs<2 ^ 62)
def zR(f:CO D):CO (List D):=λγ=>((f γ).bind asI).bind λn=>if inR n=true then some (q8 0 n.toNat)else none
def yn(f g:CO D):CO (List D):=λγ=>((f γ).bind asI).bind λm=>((g γ).bind asI).bind λn=>if inR m=true/\inR n=true then some (q8 m (n - m).toNat)else none
def Jh(f g:CO D):CO (List D):=λγ=>((f γ).bind jE).bind λm=>((g γ).bind jE).map λn=>Jg m.2 n.2
inductive Tg where
 | nm (i:Nat) | tp (is:List Nat)
def qx:List Nat->List D->Ctx->Ctx
 | i::is,d::ds,γ=>qx is ds (γ.set i (.val d))
 | _,_,γ=>γ
def qB:Tg->D->CO Ctx
 | .nm i,d,γ=>some (γ.set i (.val d))
 | .tp is,.tup ds,γ=>if ds.length=is.length then some (qx is ds γ)else none
 | _,_,_=>none
def qh(T:Tg)(F:CO Fl):List D->CO Fl
 | [],γ=>some (.next γ)
 | d::ds,γ=>(qB T d γ).bind λI=>(F I).bind λO=>match O with
  | .next z=>qh T F ds z
  | .cont z=>qh T F ds z
  | .brk z=>some (.next z)
  | .ret r=>some (.ret r)
def xT(src:CO (List D))(T:Tg)(F:CO Fl):CO Fl:=λγ=>(src γ).bind λds=>qh T F ds γ
def qG:Cell->Cell
 | .own _=> .no
 | .nest _=> .no
 | c=>c
def zT(n:Nat)(fr:List Nat)(γ:Ctx):Ctx:=zii n Cell.no++fr.map λj=>qG (γ[j]?.getD .no)
def zO(T:Tg)(k:CO Bool)(f:CO D)(γ:Ctx):List D->Option (List D)
 | []=>some []
 | d::ds=>(qB T d γ).bind λz=>(k z).bind λb=>if b=true then (f z).bind λe=>(zO T k f γ ds).map λr=>e::r else zO T k f γ ds
def zE(src:CO (List D))(T:Tg)(n:Nat)(fr:List Nat)(k:CO Bool)(f:CO D):CO (List D):=λγ=>(src γ).bind λds=>if ds.length<=lim then zO T k f (zT n fr γ) ds else none
def zV:CO Bool:=λ_=>some true
def Tg.idx:Tg->List Nat
 | .nm i=>[i]
 | .tp is=>is
def dI(g:Int->Int->D):D->D->Option D
 | .int i,.int j=>some (g i j)
 | _,_=>none
def dIc(c:Int->Int->Bool)(g:Int->Int->D):D->D->Option D
 | .int i,.int j=>if c i j=true then some (g i j)else none
 | _,_=>none
def wo:D->D->Option D:=dI λi j=> .int (i - j)
def wB(i j:Int):Bool:=decide (i.natAbs<2 ^ 64) || decide (j.natAbs<2 ^ 64)
def zfl(_ j:Int):Bool:=decide (0<j) && decide (j.natAbs<1073741824)
def kB:D->D->Option D:=dIc zfl λi j=> .int (i/j)
def zfk(_ j:Int):Bool:=decide (0<j)
def jW:D->D->Option D:=dIc zfk λi j=> .int (i%j)
def zfj(i j:Int):Bool:=decide (0<=j) && decide (j.natAbs<=1000000) && decide (i.natAbs<2 ^ 64)
def zdg:D->D->Option D:=dIc zfj λi j=> .int (i ^ j.toNat)
def dLt:D->D->Option D:=dI λi j=> .bl (decide (i<j))
def dLe:D->D->Option D:=dI λi j=> .bl (decide (i<=j))
def dGt:D->D->Option D:=dI λi j=> .bl (decide (j<i))
def dGe:D->D->Option D:=dI λi j=> .bl (decide (j<=i))
def jx:D->D->Option D
 | .int i,.int j=>some (.int (i+j))
 | .tup xs,.tup ys=>if xs.length+ys.length<=lim then some (.tup (xs++ys))else none
 | _,_=>none
def qH:D->D->Option D
 | .int i,.int j=>if wB i j=true then some (.int (i*j))else none
 | .tup xs,.int j=>if xs.length*j.toNat<=lim/\inR j=true then some (.tup (zii j.toNat xs).flatten)else none
 | _,_=>none
def yp(f g:CO (Sk×List D)):CO (List D):=λγ=>(f γ).bind λa=>(g γ).bind λb=>
 match a.1,b.1 with
 | .L,.L=>if a.2.length+b.2.length<=lim then some (a.2++b.2)else none
 | _,_=>none
def W6(f:CO (Sk×List D))(g:CO D):CO (List D):=λγ=>(f γ).bind λa=>((g γ).bind asI).bind λj=>
 match a.1 with
 | .L=>if a.2.length*j.toNat<=lim/\inR j=true then some (zii j.toNat a.2).flatten else none
 | _=>none
def ixD(n:Nat)(i:Int):Option Nat:=if 0<=i/\i<n then some i.toNat else if i<0/\0<=i+n then some (i+n).toNat else none
def sIx(f:CO (Sk×List D))(g:CO D):CO D:=λγ=>(f γ).bind λa=>((g γ).bind asI).bind λi=>(ixD a.2.length i).bind λk=>a.2[k]?
def XH(i:Nat)(g f:CO D):CO Fl:=λγ=>(f γ).bind λd=>(xM γ[i]?).bind λds=>((g γ).bind asI).bind λk=>(ixD ds.length k).map λj=> .next (γ.set i (.own (ds.set j d)))
def Yh(n dflt:Nat):Option Int->Nat
 | none=>dflt
 | some i=>if i<0 then (i+n).toNat else min i.toNat n
def WK(xs:List D)(lo hi:Option Int):List D:=(xs.drop (Yh xs.length 0 lo)).take (Yh xs.length xs.length hi - Yh xs.length 0 lo)
def KK:CO (Option Int):=λ_=>some none
def sBd(f:CO D):CO (Option Int):=λγ=>((f γ).bind asI).map some
def KI(f:CO D)(l h:CO (Option Int)):CO D:=λγ=>(f γ).bind λd=>(l γ).bind λlo=>(h γ).bind λhi=>match d with
 | .tup xs=>some (.tup (WK xs lo hi))
 | _=>none
def qw(f:CO (Sk×List D)):CO D:=λγ=>(f γ).map λa=> .int a.2.length
inductive Ty where
 | int | bool | str | tuple | list
 deriving DecidableEq
@[simp] def ze7:D->Bool
 | .int _=>true
 | .bl _=>true
 | _=>false
@[simp] def zgD:D->Bool
 | .bl _=>true
 | _=>false
@[simp] def ze5:D->Bool
 | .str _=>true
 | _=>false
@[simp] def ze4:D->Bool
 | .tup _=>true
 | _=>false
@[simp] def ze6:D->Bool
 | .lst _=>true
 | _=>false
def zaY:Ty->D->Bool
 | .int=>ze7
 | .bool=>zgD
 | .str=>ze5
 | .tuple=>ze4
 | .list=>ze6
def sIs(T:Ty)(f:CO D):CO D:=λγ=>(f γ).map λd=> .bl (zaY T d)
@[simp] def eqN:D->Bool
 | .non=>true
 | _=>false
@[simp] def eqB(a:Bool):D->Bool
 | .bl b=>a==b
 | .int b=>(if a then 1 else 0)==b
 | _=>false
@[simp] def eqI(a:Int):D->Bool
 | .bl b=>a==(if b then 1 else 0)
 | .int b=>a==b
 | _=>false
@[simp] def eqS(a:Str):D->Bool
 | .str b=>a==b
 | _=>false
@[simp] def eqX(a:Str)(i:Option Int):D->Bool
 | .exc b j=>a==b && i==j
 | _=>false
mutual
def eqD:D->D->Bool
 | .non,y=>eqN y
 | .bl a,y=>eqB a y
 | .int a,y=>eqI a y
 | .str a,y=>eqS a y
 | .tup xs,y=>match y with
  | .tup ys=>eqDs xs ys
  | _=>false
 | .lst xs,y=>match y with
  | .lst ys=>eqDs xs ys
  | _=>false
 | .exc a i,y=>eqX a i y
 | .dic a b,y=>match y with
  | .dic c d=>eqDs a c && eqDs b d
  | _=>false
def eqDs:List D->List D->Bool
 | [],[]=>true
 | x::xs,y::ys=>eqD x y && eqDs xs ys
 | _,_=>false
end
mutual
def deep:D->Nat
 | .tup xs=>deeps xs+1
 | .lst xs=>deeps xs+1
 | _=>0
def deeps:List D->Nat
 | []=>0
 | x::xs=>max (deep x) (deeps xs)
end
mutual
def okS:D->Bool
 | .str x=>x.cps.all (· < 0x110000)
 | .exc _ _=>false
 | .dic _ _=>false
 | .tup xs=>okSs xs
 | .lst xs=>okSs xs
 | _=>true
def okSs:List D->Bool
 | []=>true
 | x::xs=>okS x && okSs xs
end
def okD(d:D):Bool:=decide (deep d<=20) && okS d
def dEq(x y:D):Option D:=if okD x=true/\okD y=true then some (.bl (eqD x y))else none
def dNe(x y:D):Option D:=if okD x=true/\okD y=true then some (.bl (!eqD x y))else none
def zdE:D->D->Option D
 | x,.non=>some (.bl (match x with | .non=>true | _=>false))
 | _,_=>none
def zF(f:CO (Sk×List D)):CO D:=λγ=>(f γ).map λa=> .tup a.2
def kJ(f:CO (Sk×List D)):CO (List D):=λγ=>(f γ).map λa=>a.2
def WG:List D->Option Int
 | []=>some 0
 | .int i::r=>(WG r).map λs=>i+s
 | _::_=>none
def zbz(f:CO (Sk×List D)):CO D:=λγ=>(f γ).bind λa=>(WG a.2).map D.int
def zfB:D->Option Bool
 | .non=>some false
 | .bl b=>some b
 | .int i=>some (i != 0)
 | _=>none
def yl:List D->Option (List Bool)
 | []=>some []
 | d::r=>(zfB d).bind λb=>(yl r).map λs=>b::s
def WH(f:CO (Sk×List D)):CO D:=λγ=>(f γ).bind λa=>(yl a.2).map λs=> .bl (s.all id)
def zbB(f:CO (Sk×List D)):CO D:=λγ=>(f γ).bind λa=>(yl a.2).map λs=> .bl (s.any id)
def qJ(f:CO D):CO D:=λγ=>(f γ).bind λd=>match d with
 | .int i=>some (.int i)
 | .bl b=>some (.int (if b then 1 else 0))
 | _=>none
def W5(f:CO (Sk×List D)):CO Bool:=λγ=>(f γ).map λa=> !a.2.isEmpty
def zdY(f:CO D):CO D:=λγ=>((f γ).bind asI).map λi=> .int (-i)
def xP(F G:D->D->Option D)(fa fb fc:CO D):CO D:=λγ=>(fa γ).bind λx=>(fb γ).bind λy=>((F x y).bind asB).bind λb=>if b=true then (fc γ).bind λz=>G y z else some (.bl false)
def JB(T:Tg)(f:CO D):CO Fl:=λγ=>(f γ).bind λd=>(qB T d γ).map .next
def zfW:D->Option Int
 | .tup (.int k::_)=>some k
 | _=>none
def wL:List D->Option (List Int)
 | []=>some []
 | d::r=>(zfW d).bind λk=>(wL r).map λl=>k::l
def zfn:List Int->Bool
 | a::b::r=>decide (a<b) && zfn (b::r)
 | _=>true
def zgr(ks:List Int):Nat:=(ks.dropLast.filter λk=>decide (k<ks.getLast?.getD 0)).length
def zhw(q:Nat)(ds:List D):List D:=ds.dropLast.take q++(ds.drop (ds.length - 1)++ds.dropLast.drop q)
def WZ(ds:List D):Option (List D):=(wL ds).bind λks=>if (1<=ds.length/\ds.length<=8)/\zfn ks.dropLast=true/\decide (ks.getLast?.getD 0∈ks.dropLast)=false then some (zhw (zgr ks) ds)else none
def QK(f:CO (Sk×List D)):CO (List D):=λγ=>(f γ).bind λa=>match a.1 with
 | .L=>WZ a.2
 | _=>none
end DL
namespace L2
open PySem PySem.Spec PyProof.Rows
def ItAt(k:Sk)(h:Heap)(i l:Addr)(n:Nat):Prop:=match k with
 | .L=>h.IsListIter i l n
 | .T=>h.IsTupleIter i l n
def SqAt(k:Sk)(h:Heap)(l:Addr)(xs:Array Value):Prop:=match k with
 | .L=>h.IsList l xs
 | .T=>h.IsTuple l xs
def itO(k:Sk)(l:Addr):Obj:=match k with
 | .L=>{cls:= .type "list_iterator",data:= .fields #[.ref l,.int 0 0]}
 | .T=>{cls:= .type "tuple_iterator",data:= .fields #[.ref l,.int 0 0]}
theorem ItAt.at{k:Sk}{h h':Heap}{i l:Addr}{n:Nat}(x:ItAt k h i l n)(e : ∀o,h.get? i=some o->h'.get? i=some o):ItAt k h' i l n:=by
 cases k<;>exact let ⟨o,z,r⟩:=x;⟨o,e _ z,r⟩
theorem SqAt.at{k:Sk}{h h':Heap}{l:Addr}{xs:Array Value}(x:SqAt k h l xs)(e : ∀o,h.get? l=some o->h'.get? l=some o):SqAt k h' l xs:=by
 cases k<;>exact let ⟨o,z,r⟩:=x;⟨o,e _ z,r⟩
theorem ItAt.obj{k:Sk}{h:Heap}{i l:Addr}{n:Nat}(x:ItAt k h i l n) : ∃o,h.get? i=some o/\∀v,o.data ≠ .cell v:=by
 cases k<;>exact let ⟨o,I,_,d⟩:=x;⟨o,I,λv z=>by rw [d]at z;cases z⟩
theorem SqAt.lt{k:Sk}{h:Heap}{l:Addr}{xs:Array Value}(x:SqAt k h l xs):l<h.objs.size:=by
 cases k<;>exact let ⟨o,z,_⟩:=x;ziw z
theorem k8(k:Sk)(h:Heap)(l:Addr):ItAt k (h.push (itO k l)) h.objs.size l 0:=by
 cases k<;>exact⟨_,zix _ rfl,rfl,rfl⟩
section
variable{prog:Program}{w:World}{A:Around}{E:Value->Shared->Prop}{s:Shared}
theorem yS{k:Sk}{l:Addr}{xs:Array Value}{Q:Value->Shared->Prop}(z:SqAt k s.heap l xs)(I:Q (.ref s.heap.objs.size) {s with heap:=s.heap.push (itO k l)}):wpAny (model prog w) A (pyIter (.ref l)) Q E s:=by
 cases k
 ·exact zmd z I
 ·exact zlk z I
theorem qm{k:Sk}{it l:Addr}{i:Nat}{items:Array Value}{x:Value}{Q:Value->Shared->Prop}(O:ItAt k s.heap it l i)(S:SqAt k s.heap l items)(hx:items[i]? = some x)
 (U : ∀h',ItAt k h' it l (i+1)->zkl it s.heap h'->Q x {s with heap:=h'}):wpAny (model prog w) A (ziz (.ref it)) Q E s:=by
 cases k with
 | L=>exact wpAny_nextOf_list_item O S hx U
 | T=>
  have I:s.heap.IsTupleIter it l i:=O;obtain⟨o,z,Y,hd⟩:=id I;obtain⟨ol,Z,_,nl,a0⟩:=(show s.heap.IsTuple l items from S);unfold ziz;refine zid (zjh (name:=zi0 "__next__") I.typeIs zlb (zjC zlb I.typeIs entry_tupleiter_next ?_ (args_tupleiter_next _)));refine zid (m:=field (.ref it) 0) (ziX z hd (x:= .ref l) rfl ?_);show wpAny _ _ (if (zjz l==ziV)=true then _ else _) _ _ s;rw [if_neg (show ¬((zjz l==ziV)=true)from ziR)];refine zid (m:=field (.ref it) 1) (ziX z hd (x:= .int i 0) rfl ?_);refine zid (m:=seqItems? (.ref l)) (zjk Z a0 ?_);simp only [zjK,hx];refine zid (wpAny_setField z hd ⋯ (zik ⟨x,rfl,zik (U _ ?_ (zll ..))⟩));show Heap.IsTupleIter _ it l (i+1);exact⟨_,zkP _ z (Obj.isFreed_of_fields (zlW hd _)),(Obj.cls_mapFields ..).trans Y,by rw [zlW hd];simp [rawInt]⟩
theorem kt{k:Sk}{it l:Addr}{i:Nat}{items:Array Value}{Q:Value->Shared->Prop}(z:A.handled=none)(S:ItAt k s.heap it l i)(U:SqAt k s.heap l items)(hx:items[i]? = none)
 (Y : ∀h' e,Heap.ExtBut it s.heap h'->(∃o,h'.get? e=some o/\o.cls = .type "StopIteration")->E (.ref e) {s with heap:=h'}):wpAny (model prog w) A (ziz (.ref it)) Q E s:=by
 cases k with
 | L=>exact wpAny_nextOf_list_end z S U hx Y
 | T=>
  have I:s.heap.IsTupleIter it l i:=S;obtain⟨o,O,hc,hd⟩:=id I;obtain⟨ol,Z,_,nl,a0⟩:=(show s.heap.IsTuple l items from U);unfold ziz;refine zid (zjh (name:=zi0 "__next__") I.typeIs zlb (zjC zlb I.typeIs entry_tupleiter_next ?_ (args_tupleiter_next _)));refine zid (m:=field (.ref it) 0) (ziX O hd (x:= .ref l) rfl ?_);show wpAny _ _ (if (zjz l==ziV)=true then _ else _) _ _ s;rw [if_neg (show ¬((zjz l==ziV)=true)from ziR)];refine zid (m:=field (.ref it) 1) (ziX O hd (x:= .int i 0) rfl ?_);refine zid (m:=seqItems? (.ref l)) (zjk Z a0 ?_);simp only [zjK,hx];refine zid (zkG (zid (wpAny_setField O hd ⋯ ?_)));refine zid (m:=newExc (.type "StopIteration") []) ?_;simp only [newExc,newTuple];refine zid (zjD ?_ (by size_fits));refine zid (m:=firstArgMember _ _) (wpAny_of_eq (a:=ziV) (by first | rfl | (simp only [firstArgMember];rfl)) ?_);refine zjD ?_ (by size_fits);simp only [raiseNew];refine zid (wpAny_handled ?_)
  first | rw [show A.in1.handled=none from z] | rw [z]
  exact zid (zik (wpAny_throw (Y _ _ (((zll ..).extBut.push _).push _) ⟨_,zix _ rfl,rfl⟩)))
theorem Yq{k1 k2:Sk}{z TI TO i1 i2 l1 l2:Addr}{n1 n2:Nat}{xs ys:Array Value}{x y a b:Value}{Q:Value->Shared->Prop}(D:ZipApart z TI TO i1 i2 l1 l2)
 (Z:IsZip s.heap z TI TO .none) (an:IsPair s.heap TI (.ref i1) (.ref i2)) (ao:IsPair s.heap TO a b)
 (h1:ItAt k1 s.heap i1 l1 n1) (h2:ItAt k2 s.heap i2 l2 n2) (ap:SqAt k1 s.heap l1 xs) (aq:SqAt k2 s.heap l2 ys) (hx:xs[n1]? = some x) (hy:ys[n2]? = some y)
 (hQ : ∀h',IsZip h' z TI TO (rawInt s.heap.objs.size)->IsPair h' TO x y->ItAt k1 h' i1 l1 (n1+1)->ItAt k2 h' i2 l2 (n2+1)->IsPair h' s.heap.objs.size x y->h'.objs.size=s.heap.objs.size+1->
   (∀c o,c≠z->c≠TO->c≠i1->c≠i2->s.heap.get? c=some o->h'.get? c=some o)->Q (.ref s.heap.objs.size) {s with heap:=h'}) :
 wpAny (model prog w) A (Builtin.«zip.__next__» ⟨[.ref z],[]⟩) (λau s'=>∃v,au = .done (.ret v)/\Q v s') E s:=by
 refine zid (m:=field (.ref z) 2) (ziX Z rfl (x:= .bool false) rfl ?_);refine zid (m:=field (.ref z) 3) (ziX Z rfl (x:= .ref TI) rfl ?_);refine zid (zjk an rfl ?_);refine zid (m:=ziJ (.ref z)) ?_;unfold ziJ;refine zid (ziX Z rfl (x:= .none) rfl (zik ?_));simp only [if_true];refine zid (zkG (zid (ziX Z rfl (x:= .ref TO) rfl ?_)));refine zid (zi4 Z ⋯ λg1 aa O=>?_);replace aa:IsZip g1 z TI TO .ellipsis:=aa;refine zid ?_;simp only [zlo,zlt,zk0,zk9];refine zid (zid (zj1 ?_));refine zid (m:=ziz (.ref i1)) (qm (h1.at λo e=>O.extBut _ _ D.i1z e) (ap.at λo e=>O.extBut _ _ D.l1z e) hx λg2 aw U=>zik ?_);have ah:IsPair g2 TO a b:=U.extBut _ _ D.TOi1 (O.extBut _ _ D.TOz ao);refine zid (zjk ah rfl (zid (zlT ah λg3 ab Y=>?_)));replace ab:IsPair g3 TO x b:=ab;refine zid (zkq (zik (zid (zid (zj1 ?_)))));refine zid (m:=ziz (.ref i2)) (qm (h2.at λo e=>Y.extBut _ _ D.TOi2.symm (U.extBut _ _ D.i12.symm (O.extBut _ _ D.i2z e))) (aq.at λo e=>Y.extBut _ _ D.l2TO (U.extBut _ _ D.l2i1 (O.extBut _ _ D.l2z e))) hy λg4 az a0=>zik ?_);have ai:IsPair g4 TO x b:=a0.extBut _ _ D.TOi2 ab;refine zid (zjk ai rfl (zid (zlT ai λI a6 a1=>?_)));replace a6:IsPair I TO x y:=a6;refine zid (zkq (zik (zik (zid (zjk a6 rfl (zid (zln ?_)))))));have hsz:I.objs.size=s.heap.objs.size:=by rw [a1.1,a0.1,Y.1,U.1,O.1]
 have aj:IsZip I z TI TO .ellipsis:=a1.extBut _ _ D.TOz.symm (a0.extBut _ _ D.i2z.symm (Y.extBut _ _ D.TOz.symm (U.extBut _ _ D.i1z.symm aa)));have b0 : ∀c o,c≠z->c≠TO->c≠i1->c≠i2->s.heap.get? c=some o->I.get? c=some o:=λc o S c2 c3 c4 e=>a1.extBut _ _ c2 (a0.extBut _ _ c4 (Y.extBut _ _ c2 (U.extBut _ _ c3 (O.extBut _ _ S e))));have b5:ItAt k1 I i1 l1 (n1+1):=aw.at λo e=>a1.extBut _ _ D.TOi1.symm (a0.extBut _ _ D.i12 (Y.extBut _ _ D.TOi1.symm e));have b6:ItAt k2 I i2 l2 (n2+1):=az.at λo e=>a1.extBut _ _ D.TOi2.symm e;have ak:z<I.objs.size:=ziw aj;refine zid (m:=zjg (.ref z) (.ref I.objs.size)) ?_;unfold zjg;have b7:IsZip (I.push {cls:= .type "tuple",data:= .seq #[x,y]}) z TI TO .ellipsis:=zif _ aj;refine zid (zi4 b7 ⋯ λg7 ae af=>?_);replace ae:IsZip g7 z TI TO (rawInt I.objs.size):=ae;refine zi4 ae ⋯ λg8 a8 ag=>?_;replace a8:IsZip g8 z TI TO (rawInt I.objs.size):=a8;have up : ∀c o,c≠z->I.get? c=some o->g8.get? c=some o:=λc o S e=>ag.extBut _ _ S (af.extBut _ _ S (zif _ e));have al:IsPair g8 I.objs.size x y:=ag.extBut _ _ (zjI ak) (af.extBut _ _ (zjI ak) (zix _ rfl));have am:g8.objs.size=I.objs.size+1:=by rw [ag.1,af.1,ziP]
 rw [hsz]at a8 al am;refine zik ⟨_,rfl,?_⟩;show Q (.ref I.objs.size) _;rw [hsz];exact hQ g8 a8 (up _ _ D.TOz a6) (b5.at λo e=>up _ o D.i1z e) (b6.at λo e=>up _ o D.i2z e) al am λc o S c2 c3 c4 e=>up c o S (b0 c o S c2 c3 c4 e)
theorem WQ{k1 k2:Sk}{z TI TO i1 i2 l1 l2:Addr}{n1 n2:Nat}{xs ys:Array Value}{a b:Value}{Q:Fin->Shared->Prop}(hh:A.handled=none)(D:ZipApart z TI TO i1 i2 l1 l2)
 (hz:IsZip s.heap z TI TO .none) (ah:IsPair s.heap TI (.ref i1) (.ref i2)) (ai:IsPair s.heap TO a b)
 (h1:ItAt k1 s.heap i1 l1 n1) (h2:ItAt k2 s.heap i2 l2 n2) (ab:SqAt k1 s.heap l1 xs) (aj:SqAt k2 s.heap l2 ys) (ak:xs[n1]? = none\/ys[n2]? = none)
 (hE : ∀h' e,(∀c o,c≠z->c≠TO->c≠i1->c≠i2->s.heap.get? c=some o->h'.get? c=some o)->(∃o,h'.get? e=some o/\o.cls = .type "StopIteration")->E (.ref e) {s with heap:=h'}) :
 wpAny (model prog w) A (Builtin.«zip.__next__» ⟨[.ref z],[]⟩) Q E s:=by
 refine zid (m:=field (.ref z) 2) (ziX hz rfl (x:= .bool false) rfl ?_);refine zid (m:=field (.ref z) 3) (ziX hz rfl (x:= .ref TI) rfl ?_);refine zid (zjk ah rfl ?_);refine zid (m:=ziJ (.ref z)) ?_;unfold ziJ;refine zid (ziX hz rfl (x:= .none) rfl (zik ?_));simp only [if_true];refine zid (zkG (zid (ziX hz rfl (x:= .ref TO) rfl ?_)));refine zid (zi4 hz ⋯ λg1 a3 I=>?_);replace a3:IsZip g1 z TI TO .ellipsis:=a3;refine zid ?_;simp only [zlo,zlt,zk0,zk9];refine zid (zid (zj1 ?_));have ac : ∀{g e:_} {Y:Obj},IsZip g z TI TO .ellipsis->(∀c o,c≠z->c≠TO->c≠i1->c≠i2->s.heap.get? c=some o->g.get? c=some o)->g.get? e=some Y->Y.cls = .type "StopIteration"->
  wpAny (model prog w) A (setField (.ref z) 0 .none) (λ_ s'=>E (.ref e) s') E {s with heap:=g}:=λ{g e Y} ad hk S Z=>by
  have ao:e≠z:=λq=>by subst q;rw [ad]at S;cases S;simp at Z
  exact zi4 ad ⋯ λg3 _ U=>hE g3 e (λc o c1 c2 c3 c4 q=>U.extBut _ _ c1 (hk c o c1 c2 c3 c4 q)) ⟨Y,U.extBut _ _ ao S,Z⟩
 cases hx:xs[n1]? with
 | none=>
  refine zid (m:=ziz (.ref i1)) (kt hh (h1.at λo e=>I.extBut _ _ D.i1z e) (ab.at λo e=>I.extBut _ _ D.l1z e) hx λg2 e O he=>?_);obtain⟨Y,S,Z⟩:=he;exact ac (O _ _ D.i1z.symm a3) (λc o c1 _ c3 _ q=>O _ _ c3 (I.extBut _ _ c1 q)) S Z
 | some x=>
  have hy:ys[n2]? = none:=by rcases ak with h | h;rw [hx]at h;cases h;exact h
  refine zid (m:=ziz (.ref i1)) (qm (h1.at λo e=>I.extBut _ _ D.i1z e) (ab.at λo e=>I.extBut _ _ D.l1z e) hx λg2 aq O=>zik ?_);have af:IsPair g2 TO a b:=O.extBut _ _ D.TOi1 (I.extBut _ _ D.TOz ai);refine zid (zjk af rfl (zid (zlT af λg3 ar U=>?_)));refine zid (zkq (zik (zid (zid (zj1 ?_)))));refine zid (m:=ziz (.ref i2)) (kt hh (h2.at λo e=>U.extBut _ _ D.TOi2.symm (O.extBut _ _ D.i12.symm (I.extBut _ _ D.i2z e))) (aj.at λo e=>U.extBut _ _ D.l2TO (O.extBut _ _ D.l2i1 (I.extBut _ _ D.l2z e))) hy λg4 e ag he=>?_);obtain⟨Y,S,Z⟩:=he;exact ac (ag _ _ D.i2z.symm (U.extBut _ _ D.TOz.symm (O.extBut _ _ D.i1z.symm a3))) (λc o c1 c2 c3 c4 q=>ag _ _ c4 (U.extBut _ _ c2 (O.extBut _ _ c3 (I.extBut _ _ c1 q)))) S Z
end
def yx(a b:Value):Obj:={cls:= .type "tuple",data:= .seq #[a,b]}
def zdy(TI TO:Addr):Obj:={cls:= .type "zip",data:= .fields #[.none,.bool false,.bool false,.ref TI,.ref TO]}
def wC(z I:Sk)(h:Heap)(l1 l2:Addr):Heap:=
 ziA (ziA (ziA (ziA (ziA h (itO z l1)) (itO I l2)) (yx (.ref h.objs.size) (.ref (h.objs.size+1)))) (yx .none .none)) (zdy (h.objs.size+2) (h.objs.size+3))
theorem WP(z I:Sk)(l1 l2:Addr)(xs ys:Array Value) :
 Meets (Builtin.«zip.__new__» ⟨[.type "zip",.ref l1,.ref l2],[]⟩) (λ_ R s=>SqAt z s.heap l1 xs/\SqAt I s.heap l2 ys/\
  R (.ok (.ret (.ref (s.heap.objs.size+4)))) {s with heap:=wC z I s.heap l1 l2}):=
 .of_wp λprog w A R s h=>by
  obtain⟨O,g,d,tk,os⟩:=s;obtain⟨S,U,h⟩:=h;have a0:=sub_zip;have Y:SqAt z (zlf ⟨O,g,d,tk,os⟩) l1 xs:=S;have Z:SqAt I (zlf ⟨O.push (itO z l1),g,d,tk,os⟩) l2 ys:=U.at λo e=>zif _ e
  wp_walk using yS Y,yS Z
  refine⟨_,rfl,?_⟩;simp only [wC,yx,zdy,ziP]at h ⊢;exact h
section
variable{X:Cx}{pins:List (Addr×Obj)}{σ:St}{H:Hp}{s:Shared}{h':Heap}
theorem Inv.turnLaid{t':Nat}{fp:List Addr}{a:Addr}{o:HO}(I:Inv X pins σ H s)(k : ∀b u,b∉fp->s.heap.get? b=some u->h'.get? b=some u)(U : ∀b∈fp,FpOk X pins H b)
 (Z:s.heap.objs.size<=a) (new:ObjOk X.prog X.w (upd H a o) h' a o):Inv X pins σ (upd H a o) {s with heap:=h',toks:=t'}:=by
 have ha:H a=none:=I.hok.fresh Z;have a0 : ∀b u,H b=some u->b∉fp:=λb u e z=>by rw [(U b z).1]at e;cases e
 have a1 : ∀b u,s.heap.get? b=some u->b≠a:=λb u e=>ziI (ziF (ziw e) Z);refine I.step (g':=s.gens) (d':=s.drawn) (ch:=fp) (λb O=>⟨(U b O).2.2.2.1,(U b O).2.1,(U b O).2.2.2.2.1,(U b O).2.2.2.2.2⟩) (λb u _ _ S e _=>k b u S e) (λb u _ _ S e _=>⟨u.slots,k b u S e⟩)
  (λb u _ e n=>by rw [zG (a1 b u e)];exact n) (λb u S e=>⟨u,k b u S e⟩) (λb xs e=>by rw [zG (jP e ha)];exact e) (λb Y xs e=>by rw [zG (jP e ha)];exact e)
  (λb ps e=>⟨#[],by rw [zG (jP e ha),e];simp⟩) (λm hm=>?_) (λb u e=>?_) I.bare
 ·obtain⟨Y,es,ep,ho,r⟩:=hm
  refine⟨Y,es,ep,k _ Y (λz=>(U _ z).2.1 rfl) ho,r⟩
 ·by_cases O:b=a
  ·subst O;rw [zL]at e;cases e;exact new
  ·rw [zG O]at e
   refine(I.hok b u e).stay (λc v S q=>k c v ?_ q) (λc q=>by rw [zG (jP q ha)];exact q) λc xs q=>by rw [zG (jP q ha)];exact q
   rcases S with z | z
   ·rw [z];exact a0 b u e
   ·exact a0 c _ z
theorem Inv.turnedL{t':Nat}{fp:List Addr}(I:Inv X pins σ H s)(k : ∀b u,b∉fp->s.heap.get? b=some u->h'.get? b=some u)(S : ∀b∈fp,FpOk X pins H b):Inv X pins σ H {s with heap:=h',toks:=t'}:=by
 have Z : ∀b u,H b=some u->b∉fp:=λb u e z=>by rw [(S b z).1]at e;cases e
 refine I.step (g':=s.gens) (d':=s.drawn) (ch:=fp) (λb U=>⟨(S b U).2.2.2.1,(S b U).2.1,(S b U).2.2.2.2.1,(S b U).2.2.2.2.2⟩) (λb u _ _ O e _=>k b u O e) (λb u _ _ O e _=>⟨u.slots,k b u O e⟩)
  (λb u _ e n=>n) (λb u O e=>⟨u,k b u O e⟩) (λb xs e=>e) (λb Y xs e=>e)
  (λb ps e=>⟨#[],by rw [e];simp⟩) (λm hm=>?_) (λb u e=>?_) I.bare
 ·obtain⟨Y,es,ep,ho,r⟩:=hm
  refine⟨Y,es,ep,k _ Y (λz=>(S _ z).2.1 rfl) ho,r⟩
 ·refine(I.hok b u e).stay (λc v O q=>k c v ?_ q) (λc q=>q) λc xs q=>q
  rcases O with z | z
  ·rw [z];exact Z b u e
  ·exact Z c _ z
end
def SqK(k:Sk)(K:PySem.W.Frag)(H:Hp)(a:Addr)(xs:List V):Prop:=match k with
 | .L=>SqL K H a xs
 | .T=>SqT K H a xs
theorem Inv.sq{X:Cx}{pins:List (Addr×Obj)}{σ:St}{H:Hp}{s:Shared}{k:Sk}{a:Addr}{xs:List V}(I:Inv X pins σ H s)(h:SqK k X.K H a xs) :
 ∃O:List Value,Vals xs O/\SqAt k s.heap a O.toArray/\xs.length<=sizeLine:=by
 cases k with
 | L=>obtain⟨O,r,p,z⟩:=I.list h;exact⟨O,r,p.isList,z⟩
 | T=>obtain⟨O,r,p,z⟩:=I.tuple h;exact⟨O,r,p,z⟩
theorem Inv.sq_inj{X:Cx}{pins:List (Addr×Obj)}{σ:St}{H:Hp}{s:Shared}{k:Sk}{a:Addr}{xs ys:List V}(I:Inv X pins σ H s)(h:SqK k X.K H a xs)(h':SqK k X.K H a ys):xs=ys:=by
 cases k with
 | L=>exact I.list_inj h h'
 | T=>exact I.tuple_inj h h'
def Itz(z I:Sk)(K:PySem.W.Frag)(a b:Addr):It:=
 ⟨λi H=>∃xs ys,SqK z K H a xs/\SqK I K H b ys/\i<xs.length/\i<ys.length,
  λi H x H'=>∃p u v,x = .ref p/\H p=none/\H'=upd H p (.tup [u,v])/\(∀xs,SqK z K H a xs->xs[i]? = some u)/\(∀ys,SqK I K H b ys->ys[i]? = some v),
  λi H=>∃xs ys,SqK z K H a xs/\SqK I K H b ys/\(xs.length<=i\/ys.length<=i)⟩
theorem WU{P:Program}{w:World}{K:PySem.W.Frag}{elts:List Expr}{x1:Nat}{tpos:Pos}(k1 k2:Sk){z TI TO i1 i2 a b:Addr}(D:ZipApart z TI TO i1 i2 a b) :
 Turn P w K (.Tuple elts x1 tpos) (Itz k1 k2 K a b) [z,TI,TO,i1,i2] z (λi h=>IsZip h z TI TO .none/\IsPair h TI (.ref i1) (.ref i2)/\(∃c d,IsPair h TO c d)/\ItAt k1 h i1 a i/\ItAt k2 h i2 b i) where
 mem:=by simp
 obj:=λi h ⟨S,Y,⟨c,d,Z⟩,h1,h2⟩ y hy=>by
  simp only [ziq,ziH,or_false]at hy;rcases hy with rfl | rfl | rfl | rfl | rfl
  ·exact⟨_,S,λv q=>by cases q⟩
  ·exact⟨_,Y,λv q=>by cases q⟩
  ·exact⟨_,Z,λv q=>by cases q⟩
  ·exact h1.obj
  ·exact h2.obj
 keep:=λi h h' ⟨S,Y,⟨c,d,Z⟩,h1,h2⟩ k=>
  ⟨k z ⋯ _ S,k TI ⋯ _ Y,⟨c,d,k TO ⋯ _ Z⟩,h1.at λo e=>k i1 ⋯ o e,h2.at λo e=>k i2 ⋯ o e⟩
 item:=by
  rintro X hP hw hK hc i pins s σ H E I hf ⟨S,Y,⟨c,d,Z⟩,h1,h2⟩ ⟨xs,ys,ab,ac,ap,aq⟩;subst hP hw hK;obtain⟨ar,af,p1,z1⟩:=I.sq ab;obtain⟨au,ah,p2,z2⟩:=I.sq ac;have hx:xs[i]? = some xs[i]:=zih ap;have hy:ys[i]? = some ys[i]:=zih aq;obtain⟨u1,aw,ax⟩:=af.get hx;obtain⟨u2,ay,az⟩:=ah.get hy;have hT:s.TypeIs (.ref z) "zip":=⟨_,S,rfl⟩;unfold pyNext;refine zid (zke (zjh (name:=zi0 "__next__") hT zj8 (zjC zj8 hT zlw
   (Yq D S Y Z h1 h2 p1 p2 (x:=u1) (y:=u2) (by simpa using aw) (by simpa using ay) λg a1 a2 a3 a4 a5 a6 a7=>zik ⟨_,rfl,?_⟩) (zlr _))))
  refine wpAny_letOwnedTupleGo_zip a1 λg2 b9 a0=>?_;have lt : ∀{c o},s.heap.get? c=some o->s.heap.objs.size≠c:=λe=>zjI (ziw e);have ba:IsPair g2 s.heap.objs.size u1 u2:=a0.extBut _ _ (lt S) a5;have kk : ∀U u,U ∉ [z,TI,TO,i1,i2]->s.heap.get? U=some u->g2.get? U=some u:=λU u O e=>by
   simp only [ziq,ziH,or_false,not_or]at O;exact a0.extBut _ _ O.1 (a7 U u O.1 O.2.2.1 O.2.2.2.1 O.2.2.2.2 e)
  have I1:Inv X pins σ (upd H s.heap.objs.size (.tup [xs[i],ys[i]])) {s with heap:=g2,toks:=s.toks}:=
   I.turnLaid (fp:=[z,TI,TO,i1,i2]) kk hf (zim _) ⟨by show 2<=sizeLine;decide,[u1,u2],.cons ax (.cons az .nil),⟨_,ba,rfl,_,rfl⟩⟩
  have bc:H s.heap.objs.size=none:=I.fresh;refine⟨.ref s.heap.objs.size,_,I1,rfl,⟨_,_,_,rfl,bc,rfl,λbj ak=>by rw [I.sq_inj ak ab];exact hx,λbl ak=>by rw [I.sq_inj ak ac];exact hy⟩,?_,λU O=>?_⟩
  ·exact⟨b9,a0.extBut _ _ D.TIz (a7 _ _ D.TIz D.TITO D.TIi1 D.TIi2 Y),⟨_,_,a0.extBut _ _ D.TOz a2⟩,a3.at λo e=>a0.extBut _ _ D.i1z e,a4.at λo e=>a0.extBut _ _ D.i2z e⟩
  ·have bd:U≠s.heap.objs.size:=by
    simp only [ziq,ziH,or_false]at O;rcases O with rfl | rfl | rfl | rfl | rfl
    ·exact(lt S).symm
    ·exact(lt Y).symm
    ·exact(lt Z).symm
    ·obtain⟨o,e,_⟩:=h1.obj;exact(lt e).symm
    ·obtain⟨o,e,_⟩:=h2.obj;exact(lt e).symm
   rw [zG bd];exact(hf U O).1
 done:=by
  rintro X hP hw hK hc i pins s σ H E I hf ⟨S,Y,⟨c,d,Z⟩,h1,h2⟩ ⟨xs,ys,ab,ac,hi⟩;subst hP hw hK;obtain⟨ar,af,p1,z1⟩:=I.sq ab;obtain⟨au,ah,p2,z2⟩:=I.sq ac;have hT:s.TypeIs (.ref z) "zip":=⟨_,S,rfl⟩;have l1:=af.length;have l2:=ah.length;unfold pyNext;refine zid (zke (zjh (name:=zi0 "__next__") hT zj8 (zjC zj8 hT zlw
   (WQ (show X.A.handled=none from I.ok.hd hc) D S Y Z h1 h2 p1 p2 (by rcases hi with q | q;left;simp;omega;right;simp;omega) λg e hk he=>?_) (zlr _))))
  obtain⟨o,ho,bh⟩:=he;refine zid (zmh (T:="StopIteration") (b:=true) ⟨o,ho,bh⟩ isSubtype_stop (zik ⟨rfl,?_⟩));refine I.turnedL (t':=s.toks) (fp:=[z,TI,TO,i1,i2]) (λU u O e=>?_) hf;simp only [ziq,ziH,or_false,not_or]at O;exact hk U u O.1 O.2.2.1 O.2.2.2.1 O.2.2.2.2 e
 self:=λ_ _ _ _ _ st h=>zlC st.1 h
def zh4(K:PySem.W.Frag)(ta:TA):TI:=λσ H R=>ta σ H λvs H1=>∃z I a b,vs=[.ref a,.ref b]/\(∃xs,SqK z K H1 a xs)/\(∃ys,SqK I K H1 b ys)/\R (Itz z I K a b) H1
theorem zet{X:Cx}{e1 S:Expr}{ta:TA}{p pos:Pos}{elts:List Expr}{x1:Nat}{tpos:Pos}(hg:Gl X "zip")(hm:X.mg "zip" = none)(ha:PA X [e1,S] ta)
 (hv:bootBuiltins "zip" = some (.type "zip")) (hs:starEach [e1,S] X.env=[(false,eval e1 X.env),(false,eval S X.env)]:=by rfl) (a1:starEach [S] X.env=[(false,eval S X.env)]:=by rfl) :
 PI X (.Tuple elts x1 tpos) (.Call (.Name "zip" p) [e1,S] [] pos) (zh4 X.K ta):=by
 intro pins s σ H R I h;refine Call_ (xt I hg hm hv (zi7 (thn (ha pos pins s σ H _ I h) λus s1 hZ=>?_) (by rw [hs,a1]) (by rw [a1];rfl)));obtain⟨vs,H1,U,r1,q1⟩:=hZ;obtain⟨z,O,a,b,e,⟨xs,ae⟩,⟨ys,af⟩,q⟩:=q1;subst e;obtain⟨w1,w2,eu,ah,ai⟩:=zdG r1;subst eu;cases ah;cases ai;obtain⟨aj,au,p1,z1⟩:=U.sq ae;obtain⟨ak,aw,p2,z2⟩:=U.sq af;have la:=p1.lt;have lb:=p2.lt;refine callType_new F.called_zip ⋯ (F.typeCall_zip_2 _ _) (F.newCall_zip_2 _ _) (λobj=>F.args_object_init_3 obj _ _) F.entry_zip_new (WP z O a b aj.toArray ak.toArray) ⟨p1,p2,?_⟩;have keep : ∀c o,s1.heap.get? c=some o->(wC z O s1.heap a b).get? c=some o:=λc o e=>
  zif _ (zif _ (zif _ (zif _ (zif _ e))))
 have y1:(ziA s1.heap (itO z a)).objs.size=s1.heap.objs.size+1:=ziP ..;have y2:(ziA (ziA s1.heap (itO z a)) (itO O b)).objs.size=s1.heap.objs.size+2:=by rw [ziP,y1]
 have y3:(ziA (ziA (ziA s1.heap (itO z a)) (itO O b)) (yx (.ref s1.heap.objs.size) (.ref (s1.heap.objs.size+1)))).objs.size=s1.heap.objs.size+3:=by rw [ziP,y2]
 have y4:(ziA (ziA (ziA (ziA s1.heap (itO z a)) (itO O b)) (yx (.ref s1.heap.objs.size) (.ref (s1.heap.objs.size+1)))) (yx .none .none)).objs.size=s1.heap.objs.size+4:=by rw [ziP,y3]
 have g0:ItAt z (wC z O s1.heap a b) s1.heap.objs.size a 0:=(k8 z s1.heap a).at λo e=>zif _ (zif _ (zif _ (zif _ e)));have g1:ItAt O (wC z O s1.heap a b) (s1.heap.objs.size+1) b 0:=by
  have q:=k8 O (ziA s1.heap (itO z a)) b;rw [y1]at q;exact q.at λo e=>zif _ (zif _ (zif _ e))
 have g2:IsPair (wC z O s1.heap a b) (s1.heap.objs.size+2) (.ref s1.heap.objs.size) (.ref (s1.heap.objs.size+1)):=by
  have q:_=some (yx (.ref s1.heap.objs.size) (.ref (s1.heap.objs.size+1))):=zix (ziA (ziA s1.heap (itO z a)) (itO O b)) (o:=yx (.ref s1.heap.objs.size) (.ref (s1.heap.objs.size+1))) rfl;rw [y2]at q;exact zif _ (zif _ q)
 have g3:IsPair (wC z O s1.heap a b) (s1.heap.objs.size+3) .none .none:=by
  have q:_=some (yx .none .none):=zix (ziA (ziA (ziA s1.heap (itO z a)) (itO O b)) (yx (.ref s1.heap.objs.size) (.ref (s1.heap.objs.size+1)))) (o:=yx .none .none) rfl;rw [y3]at q;exact zif _ q
 have g4:IsZip (wC z O s1.heap a b) (s1.heap.objs.size+4) (s1.heap.objs.size+2) (s1.heap.objs.size+3) .none:=by
  have q:=zix (ziA (ziA (ziA (ziA s1.heap (itO z a)) (itO O b)) (yx (.ref s1.heap.objs.size) (.ref (s1.heap.objs.size+1)))) (yx .none .none)) (o:=zdy (s1.heap.objs.size+2) (s1.heap.objs.size+3)) rfl;rw [y4]at q;exact q
 refine⟨⟨_,g4,rfl⟩,zlC (s:={s1 with heap:=wC z O s1.heap a b}) g4 ?_⟩;have I2:Inv X pins σ H1 {s1 with heap:=wC z O s1.heap a b,toks:=s1.toks}:=U.kept keep;have nn : ∀m:Nat,s1.heap.objs.size≠s1.heap.objs.size+m+1:=λm=>by omega
 have Y : ∀m:Nat,a≠s1.heap.objs.size+m:=λm=>ziI (ziF la (ziL _ m));have Z : ∀m:Nat,b≠s1.heap.objs.size+m:=λm=>ziI (ziF lb (ziL _ m));have ne : ∀m n:Nat,m≠n->(s1.heap.objs.size+m:Nat)≠s1.heap.objs.size+n:=λm n h=>by omega
 have D:ZipApart (s1.heap.objs.size+4) (s1.heap.objs.size+2) (s1.heap.objs.size+3) s1.heap.objs.size (s1.heap.objs.size+1) a b:=
  ⟨ne 2 4 ⋯,ne 3 4 ⋯,ne 0 4 ⋯,ne 1 4 ⋯,ne 2 3 ⋯,ne 2 0 ⋯,ne 2 1 ⋯,ne 3 0 ⋯,ne 3 1 ⋯,ne 0 1 ⋯,
   Y 4,Y 3,Y 0,Y 1,Z 4,Z 3,Z 0,Z 1⟩
 refine⟨_,[s1.heap.objs.size+4,s1.heap.objs.size+2,s1.heap.objs.size+3,s1.heap.objs.size,s1.heap.objs.size+1],_,_,H1,rfl,I2,WU z O D,⟨g4,g2,⟨_,_,g3⟩,g0,g1⟩,λc hc=>?_,q⟩;have a7:s1.heap.objs.size<=c:=by
  simp only [ziq,ziH,or_false]at hc;rcases hc with rfl | rfl | rfl | rfl | rfl
  ·exact ziL _ _
  ·exact ziL _ _
  ·exact ziL _ _
  ·exact zim _
  ·exact ziL _ _
 exact U.fpOk a7 (U.hok.fresh a7)
def Itk(k:Sk)(K:PySem.W.Frag)(a:Addr):It:=match k with
 | .L=>Itl K a
 | .T=>Itt K a
def zh5(K:PySem.W.Frag)(tl:TE):TI:=λσ H R=>tl σ H λx H1=>∃a k,x = .ref a/\(∃xs,SqK k K H1 a xs)/\R (Itk k K a) H1
theorem zbK{X:Cx}{tg l:Expr}{tl:TE}(S:PE X l tl):PI X tg l (zh5 X.K tl):=by
 intro pins s σ H R I h;refine thn (S pins s σ H _ I h) λv s1 U=>?_;obtain⟨x,H1,z,Y,Z⟩:=U;obtain⟨a,k,e,⟨xs,hq⟩,q⟩:=Z;subst e;cases Y;have O : ∀b ∈ [s1.heap.objs.size],FpOk X pins H1 b:=λb hb=>by
  have e:b=s1.heap.objs.size:=by simpa using hb
  subst e;exact z.fpOk (zim _) (z.hok.fresh (zim _))
 obtain⟨a2,rv,p,hz⟩:=z.sq hq;cases k with
 | L=>exact zmd p ⟨s1.heap.objs.size,[s1.heap.objs.size],_,_,H1,rfl,z.kept (t':=s1.toks) λb o e=>zif _ e,Yy a _,⟨_,zix _ rfl,rfl,rfl⟩,O,q⟩
 | T=>exact zlk p ⟨s1.heap.objs.size,[s1.heap.objs.size],_,_,H1,rfl,z.kept (t':=s1.toks) λb o e=>zif _ e,Kt a _,⟨_,zix _ rfl,rfl,rfl⟩,O,q⟩
section
variable{κ:Type} [DecidableEq κ]
def Xv(kvs:List (κ×V))(k:κ):Option V:=(kvs.find? λz=>decide (z.1=k)).map (·.2)
def Yp(kvs:List (κ×V))(k:κ)(v:V):List (κ×V):=
 if (kvs.any λz=>decide (z.1=k))=true then kvs.map (λz=>if z.1=k then (z.1,v)else z)else kvs++[(k,v)]
theorem Zx{p:κ×V}{r:List (κ×V)}{k:κ}(e:p.1=k):Xv (p::r) k=some p.2:=by simp [Xv,zj5,e]
theorem Xu{p:κ×V}{r:List (κ×V)}{k:κ}(e : ¬p.1=k):Xv (p::r) k=Xv r k:=by simp [Xv,zj5,e]
theorem vY(kvs:List (κ×V))(k:κ)(v:V):(Yp kvs k v).length<=kvs.length+1:=by
 unfold Yp;split
 ·rw [ziD];omega
 ·rw [zjo,ziQ,zjd];omega
theorem RelO.isSome_eq{o:Option V}{u:Option Value}(r:RelO o u):o.isSome=u.isSome:=by
 cases o with
 | none=>cases u with
  | none=>rfl
  | some _=>exact(show False from r).elim
 | some _=>cases u with
  | none=>exact(show False from r).elim
  | some _=>rfl
theorem KV.val{kvs:List (κ×V)}{vs:List (κ×Value)}(r:KV kvs vs)(k:κ):RelO (Xv kvs k) (valueAt vs k):=by
 unfold KV at r
 induction r with
 | nil=>exact zkd
 | @cons p q ps I h t S=>
  obtain⟨h1,h2⟩:=h;by_cases e:p.1=k
  ·have O:q.1=k:=h1.symm.trans e
   have b:valueAt (q::I) k=some q.2:=by simp [valueAt,zj5,O]
   rw [Zx e,b];exact h2
  ·have O : ¬q.1=k:=λz=>e (h1.trans z)
   have b:valueAt (q::I) k=valueAt I k:=by simp [valueAt,zj5,O]
   rw [Xu e,b];exact S
theorem KV.any{kvs:List (κ×V)}{vs:List (κ×Value)}(r:KV kvs vs)(k:κ):(kvs.any λz=>decide (z.1=k))=vs.any λz=>decide (z.1=k):=by
 unfold KV at r
 induction r with
 | nil=>rfl
 | cons h t I=>rw [zkU,zkU,I,h.1]
theorem KV.repl{kvs:List (κ×V)}{vs:List (κ×Value)}(r:KV kvs vs)(k:κ){y:V}{u:Value}(O:RelV y u) :
 KV (kvs.map λI=>if I.1=k then (I.1,y)else I) (vs.map λI=>if I.1=k then (I.1,u)else I):=by
 unfold KV at r ⊢
 induction r with
 | nil=>exact .nil
 | @cons p q ps U h t S=>
  rw [ziK,ziK];refine .cons ?_ S;obtain⟨h1,h2⟩:=h;by_cases e:p.1=k
  ·rw [if_pos e,if_pos (h1.symm.trans e)];exact⟨h1,O⟩
  ·rw [if_neg e,if_neg (λz=>e (h1.trans z))];exact⟨h1,h2⟩
theorem KV.put{kvs:List (κ×V)}{vs:List (κ×Value)}(r:KV kvs vs)(k:κ){y:V}{u:Value}(z:RelV y u):KV (Yp kvs k y) (stored vs k u):=by
 unfold Yp stored;rw [r.any k];by_cases e:(vs.any λI=>decide (I.1=k))=true
 ·rw [if_pos e,if_pos e];exact r.repl k z
 ·rw [if_neg e,if_neg e];exact Paired.snoc r ⟨rfl,z⟩
theorem KV.length{kvs:List (κ×V)}{vs:List (κ×Value)}(r:KV kvs vs):kvs.length=vs.length:=Paired.length r
end
theorem zaV{P:Program}{w:World}{k:Key}{u:Value}(r:RelV (kV k) u):(qA P w).is k u=true:=by
 cases k with
 | inl i=>obtain⟨t,e⟩:=(show ∃t,u=zlM i t from r);subst e;exact QZ P w i t
 | inr x=>obtain⟨t,e⟩:=(show ∃t,u=zlL x t from r);subst e;exact QY P w x t
theorem J3{P:Program}{w:World} : ∀{ks:List Key} {us:List Value},Vals (ks.map kV) us->ItemsAre (qA P w) ks us
 | [],_,r=>by rw [zlu]at r;cases r;exact .nil
 | k::ks,_,r=>by
  rw [ziK]at r;cases r with
  | cons h t=>exact .cons (zaV h) (J3 t)
abbrev KT(H:Hp):List (List Key×V)->List (List Key×Addr×Value)->Prop:=Paired λp q=>p.1=q.1/\H q.2.1=some (.tup (p.1.map kV))/\RelV p.2 q.2.2
theorem KT.val{H:Hp}{kvs:List (List Key×V)}{xs:List (List Key×Addr×Value)}(r:KT H kvs xs)(k:List Key):RelO (Xv kvs k) ((atKey xs k).map (·.2)):=by
 induction r with
 | nil=>exact zkd
 | @cons p q ps I h t S=>
  obtain⟨h1,_,h2⟩:=h;by_cases e:p.1=k
  ·have O:q.1=k:=h1.symm.trans e
   have b:atKey (q::I) k=some q.2:=by simp [atKey,zj5,O]
   rw [Zx e,b];exact h2
  ·have O : ¬q.1=k:=λz=>e (h1.trans z)
   have b:atKey (q::I) k=atKey I k:=by simp [atKey,zj5,O]
   rw [Xu e,b];exact S
section
variable{P:Program}{w:World}{H:Hp}{h:Heap}{a:Addr}
theorem zd5{u:HO}(ok:HOk P w H h)(e:Rd H a u):ObjOk P w H h a u:=e.ok ok
theorem za7{kvs:List (Key×V)}(ok:HOk P w H h)(e:Rd H a (.dK kvs)):kvs.length<=sizeLine/\(a==sysModules)=false/\∃vs,KV kvs vs/\h.DictOf (qA P w) a vs:=
 show ObjOk P w H h a (.dK kvs)from zd5 ok e
theorem zgM{kvs:List (Key×V)}(ok:HOk P w H h)(e:H a=some (.dK kvs)):kvs.length<=sizeLine/\(a==sysModules)=false/\∃vs,KV kvs vs/\h.DictOf (qA P w) a vs:=za7 ok (.inl e)
theorem VD{ks:List Key}(ok:HOk P w H h)(e:H a=some (.tup (ks.map kV))):(tupleKind (qA P w)).is h ks a:=by
 obtain⟨_,z,r,o,h1,h2,n,I⟩:=(show ObjOk P w H h a (.tup (ks.map kV))from ok a _ e);exact⟨o,z.toArray,n,h1,(Prod.mk.inj h2).1,I,by simpa using J3 r⟩
theorem zde{kvs:List (List Key×V)}(ok:HOk P w H h)(e:Rd H a (.dT kvs)):kvs.length<=sizeLine/\(a==sysModules)=false/\
 ∃xs,KT H kvs xs/\h.DictOfH (tupleKind (qA P w)) a xs:=by
 obtain⟨z,y,xs,r,o,es,O,h1,h2,S,U,Y⟩:=(show ObjOk P w H h a (.dT kvs)from zd5 ok e);refine⟨z,y,xs,r,o,es,O,h1,h2,S,U,λx hx=>?_,Y⟩;have all : ∀{l:List (List Key×V)} {m:List (List Key×Addr×Value)},KT H l m->∀x∈m,(tupleKind (qA P w)).is h x.1 x.2.1:=by
  intro l m q
  induction q with
  | nil=>intro x hx;exact nomatch hx
  | @cons p q ps qs I t Z=>
   intro x hx;rcases ziq.mp hx with e | hx
   ·subst e
    exact VD ok (by rw [<- I.1];exact I.2.1)
   ·exact Z x hx
 exact all r x hx
end
def zfz(H:Hp)(a:Addr)(y:V)(r:Option V):Prop:=
 (∃kvs k,Rd H a (.dK kvs)/\y=kV k/\r=Xv kvs k)\/∃kvs k b,Rd H a (.dT kvs)/\y = .ref b/\H b=some (.tup (k.map kV))/\r=Xv kvs k
section
variable{X:Cx}{pins:List (Addr×Obj)}{σ:St}{H:Hp}{s:Shared}{a:Addr}{y v:V}{u r:Value}{o:Option V}{A:Around}{E:Value->Shared->Prop}
theorem Inv.big(I:Inv X pins σ H s):sysModules<s.heap.objs.size:=by
 have h:mainGlobals<s.heap.objs.size:=(I.mod.glob.keeps I.bk).lt;exact Nat.lt_trans ⋯ h
theorem Wc{Q:Value->Shared->Prop}(hu:A.units+1<cLine)(I:Inv X pins σ H s)(g:zfz H a y (some v))(Z:RelV y u)(h : ∀w' s',Inv X pins σ H s'->RelV v w'->Q w' s') :
 wpAny (model X.prog X.w) A (getItem (.ref a) u) Q E s:=by
 rcases g with⟨kvs,k,e,O,l⟩ | ⟨kvs,k,b,e,O,eb,l⟩
 ·subst O
  obtain⟨z,hd,vs,S,U⟩:=za7 I.hok e;obtain⟨w',hw,Y⟩:=RelO.some_of (v:=v) (o:=valueAt vs k) (by rw [l];exact S.val k);exact wpAny_getItem_of (zaV Z) U.mapOf hw (h w' _ (I.tok _) Y)
 ·subst O
  cases (show u=zjz b from Z);obtain⟨z,hd,xs,S,U⟩:=zde I.hok e;obtain⟨w',hw,Y⟩:=RelO.some_of (v:=v) (o:=(atKey xs k).map (·.2)) (by rw [l];exact S.val k);obtain⟨p,hp,a3⟩:=Option.map_eq_some_iff.mp hw;refine wpAny_getItem_heap (tupleKind_room_in1 hu) (VD I.hok eb) U hp ?_;rw [a3];exact h w' _ (I.tok _) Y
theorem zh7{Q:Value->Shared->Prop}(Z:A.units+1<cLine)(I:Inv X pins σ H s)(g:zfz H a y o)(Y:RelV y u)(h : ∀s',Inv X pins σ H s'->Q (.bool o.isSome) s') :
 wpAny (model X.prog X.w) A (compareOp .In u (.ref a)) Q E s:=by
 rcases g with⟨kvs,k,e,O,l⟩ | ⟨kvs,k,b,e,O,eb,l⟩
 ·subst O
  obtain⟨z,hd,vs,S,U⟩:=za7 I.hok e;refine wpAny_in_of (zaV Y) hd U.mapOf ?_;rw [<- (S.val k).isSome_eq,<- l];exact h _ (I.tok _)
 ·subst O
  cases (show u=zjz b from Y);obtain⟨z,hd,xs,S,U⟩:=zde I.hok e;refine wpAny_in_heap (tupleKind_room_in1 Z) (VD I.hok eb) hd U ?_;have q:=(S.val k).isSome_eq;rw [Option.isSome_map]at q;rw [<- q,<- l];exact h _ (I.tok _)
theorem zdf{h':Heap}{t':Nat}{O:HO}(I:Inv X pins σ H s)(S:Mut (H a))(U:zkl a s.heap h')(Y : ∃q,h'.get? a=some q)(new:ObjOk X.prog X.w (upd H a O) h' a O) :
 Inv X pins σ (upd H a O) {s with heap:=h',toks:=t'}:=
 I.write (x:=a) (e:=a) S (.inl rfl) (λb q Z z=>(U.2 b Z).trans z) Y new
theorem zfh{P:Program}{w:World}{H':Hp}{h':Heap}{kvs:List (Key×V)}{vs:List (Key×Value)}(z:kvs.length<=sizeLine)(hd:(a==sysModules)=false)(I:KV kvs vs)(O:h'.DictOf (qA P w) a vs) :
 ObjOk P w H' h' a (.dK kvs):=⟨z,hd,vs,I,O⟩
end
def zhb(i:Expr):Prop:=∀z I,subscripted i false z I=operate [z,I] (getItem z I)
theorem zb7{prog:Program}{w:World}{A:Around}{E:Value->Shared->Prop}{s:Shared}{env:Env}{value z:Expr}{pos:Pos}{T id:String}{Q:Value->Shared->Prop}
 (hl:typeLookup (.type T) "__getitem__" = pure (some (.builtin id))) (hs:zhb z)
 (h:wpAny (model prog w) A (eval value env) (λo U=>wpAny (model prog w) A (eval z env) (λi I=>I.TypeIs o T/\wpAny (model prog w) A (getItem o i) Q E I) E U) E s) :
 wpAny (model prog w) A (eval (.Subscript value z pos) env) Q E s:=by
 refine Subscript_ (zjW h (λo U h₁=>zjW h₁ (λi I O=>?_) λ_ _ x=>x) λ_ _ x=>x);obtain⟨Y,O⟩:=O;unfold subscriptTail;refine zid ?_;rw [getitemInPython_of_ne Y.not_modules];refine zid (wpAny_specialOf Y hl ?_);have S:wpAny (model prog w) A (subscripted z false o i) (λr Z=>wpAny (model prog w) A (letTemporaryGo value o r >>= λ_=>pure r) Q E Z) E I:=by
  rw [hs o i];exact wpAny_operating (zjW O (λr Z h₃=>zid (wpAny_letTemporaryGo (zik h₃))) λ_ _ x=>x)
 first
  | exact zik (zid S)
  | exact zid (zik (zid S))
  | exact zid S
theorem Xf{X:Cx}{pins:List (Addr×Obj)}{σ:St}{H:Hp}{s:Shared}{a:Addr}{y:V}{o:Option V}(I:Inv X pins σ H s)(g:zfz H a y o):s.TypeIs (.ref a) "dict":=by
 rcases g with⟨kvs,k,e,_,_⟩ | ⟨kvs,k,b,e,_,_,_⟩
 ·obtain⟨_,_,vs,_,z⟩:=za7 I.hok e
  exact z.typeIs
 ·obtain⟨_,_,xs,_,z⟩:=zde I.hok e
  exact z.typeIs
def zgh(td ty:TE):TE:=λσ H Q=>td σ H λx H1=>ty σ H1 λy H2=>∃a v,x = .ref a/\zfz H2 a y (some v)/\Q v H2
def zhT(ty td:TE):TE:=λσ H Q=>ty σ H λy H1=>td σ H1 λx H2=>∃a o,x = .ref a/\zfz H2 a y o/\Q (.bl o.isSome) H2
section
variable{X:Cx}{o i e value:Expr}{pos pos' tpos:Pos}{td ty tv:TE}
theorem zcG(O:X.A.units+1<cLine)(S:PE X o td)(hi:PE X i ty)(U:zhb i):PE X (.Subscript o i pos) (zgh td ty):=by
 intro pins s σ H Q I h;refine zb7 PySem.F.slot_dict_getitem.lookup U (thn (S pins s σ H _ I h) λu s1 ⟨x,H1,Y,Z,q1⟩=>thn (hi pins s1 σ H1 _ Y q1) λiv s2 ⟨y,H2,z,ry,a,v,ex,g,q2⟩=>?_);subst ex;obtain rfl:u=zjz a:=Z;exact⟨Xf z g,Wc O z g ry λw' s3 I3 a4=>⟨v,H2,I3,a4,q2⟩⟩
theorem zeF(z:X.A.units+1<cLine)(hi:PE X i ty)(O:PE X o td):PC X .In i o (zhT ty td):=by
 intro pins s σ H Q I h;refine thn (hi pins s σ H _ I h) λiv s1 ⟨y,H1,S,U,Y⟩=>thn (O pins s1 σ H1 _ S Y) λu s2 ⟨x,H2,Z,rx,a,ov,ex,g,q2⟩=>?_;subst ex;obtain rfl:u=zjz a:=rx;exact zh7 z Z g U λs3 I3=>⟨.bl ov.isSome,H2,I3,rfl,q2⟩
end
theorem za8{P:Program}{w:World}{H:Hp}(h:Heap)(z:sysModules<h.objs.size):ObjOk P w H (h.push {cls:= .type "dict",data:= .dict #[]}) h.objs.size (.dK []):=
 ⟨zjj _,beq_eq_false_iff_ne.mpr (zi6 (ziI z)),[],.nil,Heap.DictOf.new h⟩
end L2
namespace DL
open PySem PySem.Spec PyProof.Rows L2
def xNames:List Str:=["NoPrime","Nought","NoTable","NoWidths","NoRow","Unlike","TooMany","NoTurn","NoLine","Nothing","NoArrow","NoText","NoRoom"]
def xCls(K:PySem.W.Frag)(c:Str):Option Addr:=match zlQ K mainGlobals c with
 | some (some (.ref C))=>some C
 | _=>none
def zbY(K:PySem.W.Frag)(C:Addr):Bool:=
 ["int","bool","str","tuple","list"].all (λt=>zjS K (.ref C) (.type t)==some false) && zjS K (.ref C) (.type "ValueError")==some true &&
 PySem.W.findIn K (.ref C) "__getattribute__" == some (some (.builtin "BaseException.__getattribute__")) && PySem.W.findIn K (.ref C) "__getattr__" == some none &&
 PySem.W.findIn K (.ref C) "__class__" == some (some (.builtin "object.__class__")) && PySem.W.mroIn K C (.type "object")==some true && PySem.W.mroIn K C (.type "BaseException")==some true &&
 PySem.W.specialIn K (.builtin "object.__class__") "__get__" == some (some (.builtin "getset_descriptor.__get__")) && PySem.W.takesIn K (.builtin "object.__class__")==some true &&
 (PySem.W.clsIn K C).any (λz=> !z.hasDel) && zls K (.ref C)==some (.type "type")
def xAll(K:PySem.W.Frag):Bool:=match xCls K "SplitError" with
 | some S=>xNames.all λc=>match xCls K c with
  | some C=>zbY K C && zjS K (.ref C) (.ref S)==some true && xNames.all λz=>match xCls K z with
   | some I=>zjS K (.ref C) (.ref I)==some (c==z)
   | none=>false
  | none=>false
 | none=>false
def XObj(h:Heap)(a:Addr)(C:Addr):Prop:=∃o vs,h.get? a=some o/\o.cls = .ref C/\o.data = .fields vs
structure XRep(K:PySem.W.Frag)(H:Hp)(c:Str)(n:Option Int)(a:Addr):Prop where
 all:xAll K=true
 mem:c∈xNames
 ex : ∃C φ,xCls K c=some C/\H a=some (.ext φ)/\(∀h,φ h->XObj h a C)/\
  match n with
  | none=>True
  | some i=>∃d,(∀h,φ h->∃o,h.get? a=some o/\o.dict=some d)/\H d=some (.xd [(if c==("NoRoom" : Str)then "room" else "at",.int i)])
theorem XRep.mono{K:PySem.W.Frag}{H H':Hp}{c:Str}{n:Option Int}{a:Addr}(e : ∀b o,H b=some o->H' b=some o)(h:XRep K H c n a):XRep K H' c n a:=by
 obtain⟨h1,h2,C,φ,I,g2,O,z⟩:=h;refine⟨h1,h2,C,φ,I,e _ _ g2,O,?_⟩;cases n with
 | none=>exact z
 | some i=>obtain⟨d,S,U⟩:=z;exact⟨d,S,e _ _ U⟩
theorem zbX{K:PySem.W.Frag}{c:Str}{C:Addr}(h:xAll K=true)(O:c∈xNames)(e:xCls K c=some C) : ∃S,xCls K "SplitError" = some S/\zbY K C=true/\zjS K (.ref C) (.ref S)=some true/\
 ∀z I,z∈xNames->xCls K z=some I->zjS K (.ref C) (.ref I)=some (c==z):=by
 unfold xAll at h;split at h
 ·rename_i S U
  have h1:=zjG.mp h c O;rw [e]at h1;simp only [Bool.and_eq_true,beq_iff_eq]at h1;refine⟨S,U,h1.1.1,h1.1.2,λz I Y Z=>?_⟩;have h2:=zjG.mp h1.2 z Y;rw [Z]at h2;exact beq_iff_eq.mp h2
 ·cases h
abbrev St:=L2.St
def ze1:D->Option Key
 | .int i=>some (.inl i)
 | .str x=>some (.inr x)
 | _=>none
def J0:List D->Option (List Key)
 | []=>some []
 | d::ds=>(ze1 d).bind λk=>(J0 ds).map λr=>k::r
def DRp(H:Hp)(a:Addr)(ks:List D)(xs:List V):Prop:=∃kk,J0 ks=some kk/\kk.length=xs.length/\H a=some (.dK (kk.zip xs))
mutual
def Rep(K:PySem.W.Frag)(H:Hp):D->V->Prop
 | .non,v=>v = .non
 | .bl b,v=>v = .bl b
 | .int i,v=>v = .int i
 | .str x,v=>v = .str x
 | .tup ds,v=>∃a xs,v = .ref a/\SqT K H a xs/\Reps K H ds xs
 | .lst ds,v=>∃a xs,v = .ref a/\SqL K H a xs/\Reps K H ds xs
 | .exc c n,v=>∃a,v = .ref a/\XRep K H c n a
 | .dic ks vs,v=>∃a xs,v = .ref a/\DRp H a ks xs/\Reps K H vs xs
def Reps(K:PySem.W.Frag)(H:Hp):List D->List V->Prop
 | [],xs=>xs=[]
 | d::ds,xs=>∃x r,xs=x::r/\Rep K H d x/\Reps K H ds r
end
theorem sameT{K:PySem.W.Frag}{H H':Hp}{a:Addr}{xs:List V}(e:Same H H')(h:SqT K H a xs):SqT K H' a xs:=by
 rcases h with(h | ⟨o,h⟩) | h
 ·exact .inl (.inl (e _ _ h))
 ·exact .inl (.inr ⟨o,e _ _ h⟩)
 ·exact .inr h
theorem xm{k:Sk}{K:PySem.W.Frag}{H H':Hp}{a:Addr}{xs:List V}(e:Same H H')(h:SqK k K H a xs):SqK k K H' a xs:=by
 cases k
 ·exact e.seq h
 ·exact sameT e h
mutual
theorem Rep.mono{K:PySem.W.Frag}{H H':Hp}(e:Same H H') : ∀{d:D} {v:V},Rep K H d v->Rep K H' d v
 | .non,_,h=>h
 | .bl _,_,h=>h
 | .int _,_,h=>h
 | .str _,_,h=>h
 | .tup ds,v,h=>by
  obtain⟨a,xs,e1,h1,h2⟩:=(show ∃a xs,v = .ref a/\SqT K H a xs/\Reps K H ds xs from h);exact(show ∃a xs,v = .ref a/\SqT K H' a xs/\Reps K H' ds xs from⟨a,xs,e1,sameT e h1,Reps.mono e h2⟩)
 | .lst ds,v,h=>by
  obtain⟨a,xs,e1,h1,h2⟩:=(show ∃a xs,v = .ref a/\SqL K H a xs/\Reps K H ds xs from h);exact(show ∃a xs,v = .ref a/\SqL K H' a xs/\Reps K H' ds xs from⟨a,xs,e1,e.seq h1,Reps.mono e h2⟩)
 | .exc c n,v,h=>by
  obtain⟨a,e1,h1⟩:=(show ∃a,v = .ref a/\XRep K H c n a from h);exact(show ∃a,v = .ref a/\XRep K H' c n a from⟨a,e1,h1.mono e⟩)
 | .dic ks vs,v,h=>by
  obtain⟨a,xs,e1,⟨kk,z,g2,I⟩,h2⟩:=(show ∃a xs,v = .ref a/\DRp H a ks xs/\Reps K H vs xs from h);exact(show ∃a xs,v = .ref a/\DRp H' a ks xs/\Reps K H' vs xs from⟨a,xs,e1,⟨kk,z,g2,e _ _ I⟩,Reps.mono e h2⟩)
theorem Reps.mono{K:PySem.W.Frag}{H H':Hp}(e:Same H H') : ∀{ds:List D} {xs:List V},Reps K H ds xs->Reps K H' ds xs
 | [],_,h=>h
 | d::ds,xs,h=>by
  obtain⟨x,r,e1,h1,h2⟩:=(show ∃x r,xs=x::r/\Rep K H d x/\Reps K H ds r from h);exact(show ∃x r,xs=x::r/\Rep K H' d x/\Reps K H' ds r from⟨x,r,e1,Rep.mono e h1,Reps.mono e h2⟩)
end
section
variable{K:PySem.W.Frag}{H:Hp}
theorem Reps.nil:Reps K H [] []:=(show([]:List V)=[]from rfl)
theorem Reps.cons{d:D}{ds:List D}{x:V}{xs:List V}(h:Rep K H d x)(t:Reps K H ds xs):Reps K H (d::ds) (x::xs):=⟨x,xs,rfl,h,t⟩
theorem Reps.inv_nil{xs:List V}(h:Reps K H [] xs):xs=[]:=h
theorem Reps.inv_cons{d:D}{ds:List D}{xs:List V}(h:Reps K H (d::ds) xs) : ∃x r,xs=x::r/\Rep K H d x/\Reps K H ds r:=h
theorem Reps.length : ∀{ds:List D} {xs:List V},Reps K H ds xs->xs.length=ds.length
 | [],xs,h=>by rw [h.inv_nil];rfl
 | d::ds,xs,h=>by
  obtain⟨x,r,e,_,t⟩:=h.inv_cons;rw [e,ziQ,ziQ,Reps.length t]
theorem Reps.get : ∀{ds:List D} {xs:List V} {i:Nat} {d:D},Reps K H ds xs->ds[i]? = some d->∃x,xs[i]? = some x/\Rep K H d x
 | [],_,_,_,_,e=>by simp at e
 | c::ds,xs,0,d,h,e=>by
  obtain⟨x,r,e1,h1,_⟩:=h.inv_cons;simp at e;subst e;exact⟨x,by rw [e1];rfl,h1⟩
 | c::ds,xs,i+1,d,h,e=>by
  obtain⟨x,r,e1,_,t⟩:=h.inv_cons;obtain⟨y,z,g2⟩:=Reps.get (i:=i) (d:=d) t (by simpa using e);exact⟨y,by rw [e1];simpa using z,g2⟩
theorem Reps.getV{ds:List D}{xs:List V}{i:Nat}{x:V}(h:Reps K H ds xs)(e:xs[i]? = some x) : ∃d,ds[i]? = some d/\Rep K H d x:=by
 have hi:i<ds.length:=by rw [<- h.length];exact(zit.mp e).1
 obtain⟨y,e1,r⟩:=h.get (zih hi);rw [e]at e1;cases e1;exact⟨_,zih hi,r⟩
theorem Reps.append : ∀{ds es:List D} {xs ys:List V},Reps K H ds xs->Reps K H es ys->Reps K H (ds++es) (xs++ys)
 | [],_,xs,_,h,g=>by rw [h.inv_nil];exact g
 | d::ds,es,xs,ys,h,g=>by
  obtain⟨x,r,e,h1,t⟩:=h.inv_cons;rw [e];exact Reps.cons h1 (Reps.append t g)
theorem Reps.drop : ∀{ds:List D} {xs:List V} (n:Nat),Reps K H ds xs->Reps K H (ds.drop n) (xs.drop n)
 | _,_,0,h=>h
 | [],xs,n+1,h=>by rw [h.inv_nil];exact Reps.nil
 | d::ds,xs,n+1,h=>by
  obtain⟨x,r,e,_,t⟩:=h.inv_cons;rw [e];exact Reps.drop n t
theorem Reps.take : ∀{ds:List D} {xs:List V} (n:Nat),Reps K H ds xs->Reps K H (ds.take n) (xs.take n)
 | _,_,0,h=>by simp;exact Reps.nil
 | [],xs,n+1,h=>by rw [h.inv_nil];exact Reps.nil
 | d::ds,xs,n+1,h=>by
  obtain⟨x,r,e,h1,t⟩:=h.inv_cons;rw [e];exact Reps.cons h1 (Reps.take n t)
theorem Reps.set : ∀{ds:List D} {xs:List V} {d:D} {x:V} (i:Nat),Reps K H ds xs->Rep K H d x->Reps K H (ds.set i d) (xs.set i x)
 | [],xs,_,_,_,h,_=>by rw [h.inv_nil];exact Reps.nil
 | c::ds,xs,d,x,0,h,g=>by
  obtain⟨y,r,e,_,t⟩:=h.inv_cons;rw [e];exact Reps.cons g t
 | c::ds,xs,d,x,i+1,h,g=>by
  obtain⟨y,r,e,h1,t⟩:=h.inv_cons;rw [e];exact Reps.cons h1 (Reps.set i t g)
end
structure Ext(H0 H H0' H':Hp):Prop where
 s0:Same H0 H0'
 s1:Same H H'
 sub:Same H0' H'
 new : ∀a,H0 a=none->H a≠none->H0' a=none
theorem Ext.refl{H0 H:Hp}(s:Same H0 H):Ext H0 H H0 H:=⟨Same.refl _,Same.refl _,s,λ_ h _=>h⟩
theorem Ext.trans{H0 H H1 z H2 I:Hp}(a:Ext H0 H H1 z)(b:Ext H1 z H2 I):Ext H0 H H2 I:=
 ⟨a.s0.trans b.s0,a.s1.trans b.s1,b.sub,λc h1 h2=>b.new c (a.new c h1 h2) (by
  cases q:H c with
  | none=>exact absurd q h2
  | some o=>rw [a.s1 c o q];simp)⟩
theorem jt{H:Hp}{p:Addr}(h:H p=none)(o:HO):Same H (upd H p o):=λb u q=>by rw [zG (jP q h)];exact q
theorem jm{H0 H:Hp}(s:Same H0 H){p:Addr}(h:H p=none):H0 p=none:=s.free h
theorem YS{H0 H:Hp}{p:Addr}{o:HO}(s:Same H0 H):Same (upd H0 p o) (upd H p o):=λb u q=>by
 by_cases e:b=p
 ·subst e;rw [zL]at q ⊢;exact q
 ·rw [zG e]at q ⊢;exact s b u q
theorem Ext.alloc{H0 H:Hp}{p:Addr}(s:Same H0 H)(h:H p=none)(o:HO):Ext H0 H (upd H0 p o) (upd H p o):=
 ⟨jt (jm s h) o,jt h o,YS s,λa h1 h2=>by rw [zG (λe=>h2 (by rw [e];exact h))];exact h1⟩
theorem Ext.hide{H0 H:Hp}{p:Addr}(s:Same H0 H)(h:H p=none)(o:HO):Ext H0 H H0 (upd H p o):=
 ⟨Same.refl _,jt h o,s.trans (jt h o),λa h1 _=>h1⟩
theorem Ext.show{H0 H H0' H':Hp}{a:Addr}{o:HO}(e:Ext H0 H H0' H')(h1:H a=none)(h2:H0' a=none)(O:H' a=some o)(s:Same H0 H):Ext H0 H (upd H0' a o) H':=
 ⟨e.s0.trans (jt h2 o),e.s1,λb u q=>by
  by_cases z:b=a
  ·subst z;rw [zL]at q;rw [O];exact q
  ·rw [zG z]at q;exact e.sub b u q,λb S I=>by
  rw [zG (λz=>I (by rw [z];exact h1))];exact e.new b S I⟩
structure Nest(K:PySem.W.Frag)(H0 H:Hp)(rows:List (List D))(a:Addr)(bs:List Addr):Prop where
 a0:H0 a=none
 ha:H a=some (.lst (bs.map V.ref))
 nd:(a::bs).Nodup
 len:bs.length=rows.length
 row : ∀(k:Nat) b row,bs[k]? = some b->rows[k]? = some row->H0 b=none/\∃xs,H b=some (.lst xs)/\Reps K H0 row xs
theorem Nest.at{K:PySem.W.Frag}{H0 H:Hp}{rows:List (List D)}{a:Addr}{bs:List Addr}(n:Nest K H0 H rows a bs){b:Addr}(z:b∈a::bs):H0 b=none/\∃xs,H b=some (.lst xs):=by
 rcases ziq.mp z with rfl | z
 ·exact⟨n.a0,_,n.ha⟩
 ·obtain⟨k,I⟩:=List.getElem?_of_mem z
  have O:=(zit.mp I).1;rw [n.len]at O;obtain⟨h1,xs,h2,_⟩:=n.row k b _ I (zih O);exact⟨h1,xs,h2⟩
theorem Nest.move{K:PySem.W.Frag}{H0 H H0' H':Hp}{rows:List (List D)}{a:Addr}{bs:List Addr}(n:Nest K H0 H rows a bs)(s:Same H0 H0')(z : ∀b∈a::bs,H0' b=none)(h : ∀b∈a::bs,H' b=H b):Nest K H0' H' rows a bs:=
 ⟨z a ziv,by rw [h a ziv];exact n.ha,n.nd,n.len,λk b row I S=>by
  obtain⟨_,xs,h2,U⟩:=n.row k b row I S;have O:b∈a::bs:=ziu _ (zjs I);exact⟨z b O,xs,by rw [h b O];exact h2,U.mono s⟩⟩
def NestOk(K:PySem.W.Frag)(H0 H:Hp)(σ:St)(γ:Ctx):Prop:=
 (∀(i:Nat) rows,γ[i]? = some (.nest rows)->∃a bs,σ[i]? = some (some (.ref a))/\Nest K H0 H rows a bs/\∀(j:Nat) ds c,γ[j]? = some (.own ds)->σ[j]? = some (some (.ref c))->c∉a::bs)/\
 ∀(i j:Nat) z r2,γ[i]? = some (.nest z)->γ[j]? = some (.nest r2)->i=j
theorem NestOk.nil0{K:PySem.W.Frag}{H0 H:Hp}{σ:St}{γ:Ctx}(h : ∀(i:Nat) rows,γ[i]? ≠ some (.nest rows)):NestOk K H0 H σ γ:=⟨λi rows e=>absurd e (h i rows),λi j z r2 e=>absurd e (h i z)⟩
theorem NestOk.move{K:PySem.W.Frag}{H0 H H0' H':Hp}{σ:St}{γ:Ctx}(n:NestOk K H0 H σ γ)(s:Same H0 H0')(h : ∀(i:Nat) rows a bs,γ[i]? = some (.nest rows)->σ[i]? = some (some (.ref a))->Nest K H0 H rows a bs->(∀(j:Nat) ds c,γ[j]? = some (.own ds)->σ[j]? = some (some (.ref c))->c∉a::bs)->∀b∈a::bs,H0' b=none/\H' b=H b):NestOk K H0' H' σ γ:=
 ⟨λi rows e=>by
  obtain⟨a,bs,h1,h2,z⟩:=n.1 i rows e;exact⟨a,bs,h1,h2.move s (λb I=>(h i rows a bs e h1 h2 z b I).1) (λb I=>(h i rows a bs e h1 h2 z b I).2),z⟩,n.2⟩
theorem NestOk.ext{K:PySem.W.Frag}{H0 H H0' H':Hp}{σ:St}{γ:Ctx}(n:NestOk K H0 H σ γ)(e:Ext H0 H H0' H'):NestOk K H0' H' σ γ:=
 n.move e.s0 λi rows a bs _ _ h2 _ b z=>by
  obtain⟨I,xs,g2⟩:=h2.at z;exact⟨e.new b I (by rw [g2];simp),by rw [e.s1 b _ g2,g2]⟩
structure RC(K:PySem.W.Frag)(H0 H:Hp)(σ:St)(γ:Ctx):Prop where
 sub:Same H0 H
 len:σ.length=γ.length
 val : ∀(i:Nat) d,γ[i]? = some (.val d)->∃v,σ[i]? = some (some v)/\Rep K H0 d v
 own : ∀(i:Nat) ds,γ[i]? = some (.own ds)->∃a xs,σ[i]? = some (some (.ref a))/\H0 a=none/\H a=some (.lst xs)/\Reps K H0 ds xs
 ne : ∀(i j:Nat) a ds es,γ[i]? = some (.own ds)->γ[j]? = some (.own es)->σ[i]? = some (some (.ref a))->σ[j]? = some (some (.ref a))->i=j
 nst:NestOk K H0 H σ γ
theorem RC.ext{K:PySem.W.Frag}{H0 H H0' H':Hp}{σ:St}{γ:Ctx}(r:RC K H0 H σ γ)(e:Ext H0 H H0' H'):RC K H0' H' σ γ:=
 ⟨e.sub,r.len,λi d h=>let ⟨v,h1,h2⟩:=r.val i d h;⟨v,h1,h2.mono e.s0⟩,
  λi ds h=>let ⟨a,xs,h1,h2,z,I⟩:=r.own i ds h;⟨a,xs,h1,e.new a h2 (by rw [z];simp),e.s1 _ _ z,I.mono e.s0⟩,r.ne,r.nst.ext e⟩
def tV(K:PySem.W.Frag)(f:CO D):TE:=λσ H Q=>∃H0 γ d,RC K H0 H σ γ/\f γ=some d/\∀v H' H0',Ext H0 H H0' H'->Rep K H0' d v->Q v H'
def tQ(K:PySem.W.Frag)(f:CO (Sk×List D)):TE:=λσ H Q=>∃H0 γ k ds,RC K H0 H σ γ/\f γ=some (k,ds)/\∀a xs H' H0',Ext H0 H H0' H'->SqK k K H' a xs->(k = .T->SqT K H0' a xs)->Reps K H0' ds xs->Q (.ref a) H'
def tO(K:PySem.W.Frag)(f:CO (List D)):TE:=λσ H Q=>∃H0 γ ds,RC K H0 H σ γ/\f γ=some ds/\
 ∀a xs H' H0',Ext H0 H H0' H'->H a=none->H0' a=none->H' a=some (.lst xs)->Reps K H0' ds xs->Q (.ref a) H'
def tT(K:PySem.W.Frag)(f:CO Bool):TT:=λσ H Q=>∃H0 γ b,RC K H0 H σ γ/\f γ=some b/\∀H' H0',Ext H0 H H0' H'->Q b H'
def tA(K:PySem.W.Frag)(f:CO (List D)):TA:=λσ H Q=>∃H0 γ ds,RC K H0 H σ γ/\f γ=some ds/\∀vs H' H0',Ext H0 H H0' H'->Reps K H0' ds vs->Q vs H'
abbrev PV(X:Cx)(e:Expr)(f:CO D):Prop:=PE X e (tV X.K f)
abbrev PQ(X:Cx)(e:Expr)(f:CO (Sk×List D)):Prop:=PE X e (tQ X.K f)
abbrev PO(X:Cx)(e:Expr)(f:CO (List D)):Prop:=PE X e (tO X.K f)
abbrev PTD(X:Cx)(e:Expr)(f:CO Bool):Prop:=PT X e (tT X.K f)
abbrev PWD(X:Cx)(e:Expr)(f:CO Bool):Prop:=PW X e (tT X.K f)
abbrev PAD(X:Cx)(es:List Expr)(f:CO (List D)):Prop:=PA X es (tA X.K f)
theorem j3{X:Cx}{e:Expr}{t t':TE}(h:PE X e t)(i : ∀σ H Q,t' σ H Q->t σ H Q):PE X e t':=λpins s σ H Q I q=>h pins s σ H Q I (i σ H Q q)
theorem JK{X:Cx}{e:Expr}{t t':TT}(h:PT X e t)(i : ∀σ H Q,t' σ H Q->t σ H Q):PT X e t':=λpins s σ H Q I q=>h pins s σ H Q I (i σ H Q q)
theorem zeb{X:Cx}{e:Expr}{t t':TT}(h:PW X e t)(i : ∀σ H Q,t' σ H Q->t σ H Q):PW X e t':=λz pins s σ H Q I q=>h z pins s σ H Q I (i σ H Q q)
theorem zeH{X:Cx}{es:List Expr}{t t':TA}(h:PA X es t)(i : ∀σ H Q,t' σ H Q->t σ H Q):PA X es t':=λpos pins s σ H Q I q=>h pos pins s σ H Q I (i σ H Q q)
theorem xF{X:Cx}{st:Stmt}{t t':TS}(h:PS X st t)(i : ∀D σ H,t' D σ H->t D σ H):PS X st t':=λpins s σ H D I q=>h pins s σ H D I (i D σ H q)
theorem zbJ{X:Cx}{st:List Stmt}{t t':TS}(h:PSs X st t)(i : ∀D σ H,t' D σ H->t D σ H):PSs X st t':=λpins s σ H D I q=>h pins s σ H D I (i D σ H q)
theorem wH{X:Cx}{tg e:Expr}{t t':TI}(h:PI X tg e t)(i : ∀σ H R,t' σ H R->t σ H R):PI X tg e t':=λpins s σ H R I q=>h pins s σ H R I (i σ H R q)
theorem xI{n:Nat}(h:n<=lim):n<=sizeLine:=zjt h ⋯
section
variable{X:Cx}{e a b c:Expr}{pos:Pos}
theorem PV.q{f:CO D}(h:PV X e f):PQ X e (zH f):=j3 h λσ H Q U=>by
 obtain⟨H0,γ,k,ds,rc,I,q⟩:=U;unfold zH at I;cases e1:f γ with
 | none=>rw [e1]at I;cases I
 | some d=>
  rw [e1]at I;refine⟨H0,γ,d,rc,e1,λv H' H0' ext r=>?_⟩;cases d with
  | tup es=>
   obtain⟨O,S⟩:k = .T/\ds=es:=by simp [jE]at I;exact⟨I.1.symm,I.2.symm⟩
   subst O S;obtain⟨a,xs,rfl,h1,h2⟩:=(show ∃a xs,v = .ref a/\SqT X.K H0' a xs/\Reps X.K H0' ds xs from r);exact q a xs H' H0' ext (sameT ext.sub h1) (λ_=>h1) h2
  | lst es=>
   obtain⟨O,S⟩:k = .L/\ds=es:=by simp [jE]at I;exact⟨I.1.symm,I.2.symm⟩
   subst O S;obtain⟨a,xs,rfl,h1,h2⟩:=(show ∃a xs,v = .ref a/\SqL X.K H0' a xs/\Reps X.K H0' ds xs from r);exact q a xs H' H0' ext (ext.sub.seq h1) (λz=>nomatch z) h2
  | _=>simp [jE]at I
theorem PO.v{f:CO (List D)}(h:PO X e f):PV X e (jq f):=j3 h λσ H Q S=>by
 obtain⟨H0,γ,d,rc,z,q⟩:=S;unfold jq at z;cases e1:f γ with
 | none=>rw [e1]at z;cases z
 | some ds=>
  rw [e1]at z;cases z;refine⟨H0,γ,ds,rc,e1,λa xs H' H0' ext h1 h2 U r=>?_⟩;exact q _ _ _ (ext.show h1 h2 U rc.sub) (show ∃I O,V.ref a = .ref I/\SqL X.K _ I O/\Reps X.K _ ds O from⟨a,xs,rfl,SqL.of zL,r.mono (jt h2 _)⟩)
theorem PO.q{f:CO (List D)}(h:PO X e f):PQ X e (zX f):=j3 h λσ H Q O=>by
 obtain⟨H0,γ,k,ds,rc,I,q⟩:=O;unfold zX at I;cases e1:f γ with
 | none=>rw [e1]at I;cases I
 | some es=>
  rw [e1]at I;cases I;exact⟨H0,γ,_,rc,e1,λa xs H' H0' ext h1 h2 S r=>q a xs H' H0' ext (SqL.of S) (λz=>nomatch z) r⟩
theorem zc(i:Nat)(h:PE X e (zdz i)):PV X e (ze i):=j3 h λσ H Q I=>by
 obtain⟨H0,γ,d,rc,z,q⟩:=I;unfold ze at z;cases e1:γ[i]? with
 | none=>rw [e1]at z;cases z
 | some c=>
  rw [e1]at z;cases c with
  | val d'=>
   cases z;obtain⟨v,h1,h2⟩:=rc.val i d e1;exact⟨v,h1,q v H H0 (Ext.refl rc.sub) h2⟩
  | no=>cases z
  | own ds=>cases z
  | nest rows=>cases z
theorem zm(i:Nat)(h:PE X e (zdz i)):PQ X e (zf i):=j3 h λσ H Q Y=>by
 obtain⟨H0,γ,k,ds,rc,I,q⟩:=Y;unfold zf at I;cases e1:γ[i]? with
 | none=>rw [e1]at I;cases I
 | some c=>
  rw [e1]at I;cases c with
  | no=>cases I
  | nest rows=>cases I
  | own es=>
   cases I;obtain⟨a,xs,h1,h2,Z,h4⟩:=rc.own i ds e1;exact⟨_,h1,q a xs H H0 (Ext.refl rc.sub) (SqL.of Z) (λz=>nomatch z) h4⟩
  | val d=>
   obtain⟨v,h1,h2⟩:=rc.val i d e1;refine⟨v,h1,?_⟩;cases d with
   | tup es=>
    obtain⟨S,U⟩:k = .T/\ds=es:=by simp [kh,jE]at I;exact⟨I.1.symm,I.2.symm⟩
    subst S U;obtain⟨a,xs,rfl,O,g2⟩:=(show ∃a xs,v = .ref a/\SqT X.K H0 a xs/\Reps X.K H0 ds xs from h2);exact q a xs H H0 (Ext.refl rc.sub) (sameT rc.sub O) (λ_=>O) g2
   | lst es=>
    obtain⟨S,U⟩:k = .L/\ds=es:=by simp [kh,jE]at I;exact⟨I.1.symm,I.2.symm⟩
    subst S U;obtain⟨a,xs,rfl,O,g2⟩:=(show ∃a xs,v = .ref a/\SqL X.K H0 a xs/\Reps X.K H0 ds xs from h2);exact q a xs H H0 (Ext.refl rc.sub) (rc.sub.seq O) (λz=>nomatch z) g2
   | _=>simp [kh,jE]at I
theorem vf{d:D}{v:V}(h:PE X e (tC v))(r : ∀H,Rep X.K H d v):PV X e (zk d):=j3 h λσ H Q z=>by
 obtain⟨H0,γ,d',rc,I,q⟩:=z;cases I;exact q v H H0 (Ext.refl rc.sub) (r H0)
theorem zh{i:Int}{j:Nat}:PV X (.Constant (.int i) j pos) (zk (.int i)):=vf zeC λ_=>(show V.int i = .int i from rfl)
theorem y8{x:Bool}{j:Nat}:PV X (.Constant (.bool x) j pos) (zk (.bl x)):=vf zgt λ_=>(show V.bl x = .bl x from rfl)
theorem JI{j:Nat}:PV X (.Constant .none j pos) (zk .non):=vf zeA λ_=>(show V.non = .non from rfl)
theorem kD{x:Str}{j:Nat}:PV X (.Constant (.str x) j pos) (zk (.str x)):=vf zex λ_=>(show V.str x = .str x from rfl)
def Snd(K:PySem.W.Frag)(r:R2)(F:D->D->Option D):Prop:=∀H0 H x y dx z d Q,Same H0 H->Rep K H0 dx x->Rep K H0 z y->F dx z=some d->(∀v H' H0',Ext H0 H H0' H'->Rep K H0' d v->Q v H')->r x y H Q
theorem bind_some{α β:Type}{o:Option α}{f:α->Option β}{y:β}(h:o.bind f=some y) : ∃x,o=some x/\f x=some y:=by
 cases o with
 | none=>cases h
 | some x=>exact⟨x,rfl,h⟩
theorem QU{K:PySem.W.Frag}{r:R2}{F:D->D->Option D}{fa fb:CO D}(O:Snd K r F) : ∀σ H Q,tV K (zq F fa fb) σ H Q->tOp r (tV K fa) (tV K fb) σ H Q:=λσ H Q S=>by
 obtain⟨H0,γ,d,rc,z,q⟩:=S;obtain⟨x,e1,z⟩:=bind_some z;obtain⟨y,U,z⟩:=bind_some z;refine⟨H0,γ,x,rc,e1,λY H1 Z x1 r1=>⟨Z,γ,y,rc.ext x1,U,λv2 H2 a2 I r2=>?_⟩⟩;exact O a2 H2 Y v2 x y d Q I.sub (r1.mono I.s0) r2 z λv H' H0' x3 r3=>q v H' H0' (x1.trans (I.trans x3)) r3
theorem w6{z:Operator}{r:R2}{F:D->D->Option D}{fa fb:CO D}(I:OpR X (binaryOp z) r)(O:Snd X.K r F)(ha:PV X a fa)(S:PV X b fb):PV X (.BinOp a z b pos) (zq F fa fb):=
 j3 (zcF I ha S) (QU O)
theorem zeg{z:CmpOp}{r:R2}{F:D->D->Option D}{fa fb:CO D}(I:OpR X (compareOp z) r)(O:Snd X.K r F)(ha:PV X a fa)(S:PV X b fb)(hm:behindInMarks z b=false):PV X (.Compare a [z] [b] pos) (zq F fa fb):=
 j3 (zcH I ha S hm) (QU O)
theorem xN{d:D}{b:Bool}(h:asB d=some b):d = .bl b:=by cases d<;>simp [asB]at h;rw [h]
theorem ZK{z:CmpOp}{r:R2}{F:D->D->Option D}{fa fb:CO D}(O:OpR X (compareOp z) r)(S:Snd X.K r F)(ha:PV X a fa)(U:PV X b fb)(hm:behindInMarks z b=false):PTD X (.Compare a [z] [b] pos) (sB (zq F fa fb)):=
 JK (Y3 O ha U hm) λσ H Q Y=>by
  obtain⟨H0,γ,k,rc,I,q⟩:=Y;obtain⟨d,e1,I⟩:=bind_some I;refine QU S σ H _ ⟨H0,γ,d,rc,e1,λv H' H0' x r=>?_⟩;rw [xN I]at r;exact⟨k,r,q H' H0' x⟩
theorem jN{f:CO D}(h:PV X e f)(O : ∀I,isTrue e X.env I=(do let v <- I;standAt e.pos;holding [v] (truthy v)):=by intro _;rfl):PTD X e (sB f):=
 JK (zej h O) λσ H Q S=>by
  obtain⟨H0,γ,k,rc,z,q⟩:=S;obtain⟨d,e1,z⟩:=bind_some z;refine⟨H0,γ,d,rc,e1,λv H' H0' x r=>?_⟩;rw [xN z]at r;exact⟨k,r,q H' H0' x⟩
theorem XO{f:CO Bool}(h:PTD X a f):PWD X (.BoolOp .And [a] pos) f:=zcm h
theorem kK{f:CO Bool}(h:PTD X a f):PWD X (.BoolOp .Or [a] pos) f:=zd9 h
theorem YZ{f g:CO Bool}{rest:List Expr}(ha:PTD X a f)(I:PWD X (.BoolOp .And (b::rest) pos) g):PWD X (.BoolOp .And (a::b::rest) pos) (JD f g):=
 zeb (zea ha I) λσ H Q O=>by
  obtain⟨H0,γ,k,rc,z,q⟩:=O;obtain⟨c,e1,z⟩:=bind_some z;refine⟨H0,γ,c,rc,e1,λH' H0' x=>?_⟩;cases c with
  | true=>rw [if_pos rfl]at z ⊢;exact⟨H0',γ,k,rc.ext x,z,λH2 S U=>q H2 S (x.trans U)⟩
  | false=>rw [if_neg ziR]at z ⊢;cases z;exact q H' H0' x
theorem q9{f g:CO Bool}{rest:List Expr}(ha:PTD X a f)(I:PWD X (.BoolOp .Or (b::rest) pos) g):PWD X (.BoolOp .Or (a::b::rest) pos) (qX f g):=
 zeb (zgp ha I) λσ H Q O=>by
  obtain⟨H0,γ,k,rc,z,q⟩:=O;obtain⟨c,e1,z⟩:=bind_some z;refine⟨H0,γ,c,rc,e1,λH' H0' x=>?_⟩;cases c with
  | true=>rw [if_pos rfl]at z ⊢;cases z;exact q H' H0' x
  | false=>rw [if_neg ziR]at z ⊢;exact⟨H0',γ,k,rc.ext x,z,λH2 S U=>q H2 S (x.trans U)⟩
theorem jZ{f:CO Bool}(ha:PTD X a f):PTD X (.UnaryOp .Not a pos) (jc f):=
 JK (zek ha) λσ H Q I=>by
  obtain⟨H0,γ,k,rc,z,q⟩:=I;unfold jc at z;cases e1:f γ with
  | none=>rw [e1]at z;cases z
  | some c=>rw [e1]at z;cases z;exact⟨H0,γ,c,rc,e1,λH' H0' x=>q H' H0' x⟩
theorem ZJ{f:CO Bool}(h:PWD X e f):PTD X e f:=h.pt
theorem zbF{z:BoolOp}{f:CO D}(h:PV X a f):PV X (.BoolOp z [a] pos) f:=zey h
theorem zbH{f g:CO D}{rest:List Expr}(ha:PV X a f)(I:PV X (.BoolOp .And (b::rest) pos) g):PV X (.BoolOp .And (a::b::rest) pos) (YU f g):=
 j3 (zeE ha I) λσ H Q O=>by
  obtain⟨H0,γ,d,rc,z,q⟩:=O;obtain⟨c,e1,z⟩:=bind_some z;obtain⟨S,U,e1⟩:=bind_some e1;refine⟨H0,γ,S,rc,U,λv H' H0' x r=>?_⟩;rw [xN e1]at r;refine⟨c,r,?_⟩;cases c with
  | true=>rw [if_pos rfl]at z ⊢;exact⟨H0',γ,d,rc.ext x,z,λY H2 Z x2 r2=>q Y H2 Z (x.trans x2) r2⟩
  | false=>rw [if_neg ziR]at z ⊢;cases z;exact q _ H' H0' x (show V.bl false = .bl false from rfl)
theorem zec{f:CO D}(ha:PV X a f):PV X (.UnaryOp .Not a pos) (zdX f):=
 j3 (zez ha) λσ H Q O=>by
  obtain⟨H0,γ,d,rc,z,q⟩:=O;unfold zdX at z;cases e1:f γ with
  | none=>rw [e1]at z;cases z
  | some I=>
   rw [e1]at z;refine⟨H0,γ,I,rc,e1,λv H' H0' x r=>?_⟩;cases I with
   | bl c=>cases z;exact⟨c,r,q _ H' H0' x (show V.bl (!c) = .bl (!c)from rfl)⟩
   | _=>cases z
theorem ko{k:CO Bool}{f g:CO D}(U:PTD X c k)(ha:PV X a f)(Y:PV X b g):PV X (.IfExp c a b pos) (XJ k f g):=
 j3 (zaz U ha Y) λσ H Q Z=>by
  obtain⟨H0,γ,d,rc,z,q⟩:=Z;obtain⟨t,e1,z⟩:=bind_some z;refine⟨H0,γ,t,rc,e1,λH' H0' x=>?_⟩;cases t with
  | true=>rw [if_pos rfl]at z ⊢;exact⟨H0',γ,d,rc.ext x,z,λI H2 O S r2=>q I H2 O (x.trans S) r2⟩
  | false=>rw [if_neg ziR]at z ⊢;exact⟨H0',γ,d,rc.ext x,z,λI H2 O S r2=>q I H2 O (x.trans S) r2⟩
theorem zcJ:PAD X [] zC:=zeH qg λσ H Q z=>by
 obtain⟨H0,γ,ds,rc,I,q⟩:=z;cases I;exact q [] H H0 (Ext.refl rc.sub) Reps.nil
theorem zaD{es:List Expr}{f:CO D}{g:CO (List D)}(ha:PV X e f)(S:PAD X es g)(U:starEach (e::es) X.env=(false,eval e X.env)::starEach es X.env:=by rfl):PAD X (e::es) (zb f g):=
 zeH (jr ha S U) λσ H Q Y=>by
  obtain⟨H0,γ,ds,rc,z,q⟩:=Y;obtain⟨x,e1,z⟩:=bind_some z;cases I:g γ with
  | none=>rw [I]at z;cases z
  | some r=>
   rw [I]at z;cases z;exact⟨H0,γ,x,rc,e1,λv H1 Z x1 r1=>⟨Z,γ,r,rc.ext x1,I,λvs H2 a1 O r2=>q (v::vs) H2 a1 (x1.trans O) (Reps.cons (r1.mono O.s0) r2)⟩⟩
theorem jM{es:List Expr}{x1:Nat}{f:CO (List D)}(h:PAD X es f):PV X (.Tuple es x1 pos) (qj f):=
 j3 (zew h) λσ H Q U=>by
  obtain⟨H0,γ,d,rc,z,q⟩:=U;obtain⟨ds,e1,z⟩:=bind_some z;by_cases I:ds.length<=lim
  ·rw [if_pos I]at z;cases z
   refine⟨H0,γ,ds,rc,e1,λvs H1 Y x1 O=>⟨xI (by rw [O.length];exact I),λp S=>?_⟩⟩;exact q _ _ _ (x1.trans (Ext.alloc x1.sub S _)) (show ∃a xs,V.ref p = .ref a/\SqT X.K _ a xs/\Reps X.K _ ds xs from⟨p,vs,rfl,SqT.of zL,O.mono (jt (jm x1.sub S) _)⟩)
  ·rw [if_neg I]at z;cases z
theorem kX{es:List Expr}{f:CO (List D)}(h:PAD X es f):PO X (.List es pos) (qF f):=
 j3 (zeB h) λσ H Q Y=>by
  obtain⟨H0,γ,d,rc,I,q⟩:=Y;obtain⟨ds,e1,I⟩:=bind_some I;by_cases S:ds.length<=lim
  ·rw [if_pos S]at I;cases I
   refine⟨H0,γ,_,rc,e1,λvs H1 Z x1 U=>⟨xI (by rw [U.length];exact S),λp O=>?_⟩⟩;exact q p vs _ Z (x1.trans (Ext.hide x1.sub O _)) (by
    cases z:H p with
    | none=>rfl
    | some o=>rw [x1.s1 p o z]at O;cases O) (jm x1.sub O) zL U
  ·rw [if_neg S]at I;cases I
end
def zag(kvs:List (Key×V))(ps:List (Key×V)):List (Key×V):=ps.foldl (λacc z=>Yp acc z.1 z.2) kvs
theorem ke:entryFor table "dict.update.loop" = some Builtin.«dict.update.loop» :=entryFor_of_tree (by kernel_rfl)
theorem xZ(args:Args):(Code.builtin "dict.update.loop" args).quiet=true:=Code.quiet_builtin _ ⋯
def j4(ds:List D):List D:=(zie ds.length).map λ(i:Nat)=>D.tup [.int i,ds[i]?.getD .non]
def wG(f:CO D):CO (List D):=λγ=>(f γ).bind λd=>match d with
 | .tup ds=>some (j4 ds)
 | _=>none
def Q7:List D->Option (List Int)
 | []=>some []
 | .int i::r=>(Q7 r).map λl=>i::l
 | _::_=>none
def kf(T:Tg)(f:CO (List D))(γ:Ctx):List D->Option (List (List D))
 | []=>some []
 | d::ds=>(qB T d γ).bind λz=>(f z).bind λe=>(kf T f γ ds).map λr=>e::r
def yO(src:CO (List D))(T:Tg)(n:Nat)(fr:List Nat)(f:CO (List D)):CO (List (List D)):=λγ=>(src γ).bind λds=>if ds.length<=lim then kf T f (zT n fr γ) ds else none
def jL:Cell->Bool
 | .nest _=>true
 | _=>false
def KJ(i:Nat)(f:CO (List (List D))):CO Fl:=λγ=>(f γ).bind λrows=>if γ.any jL=false then some (.next (γ.set i (.nest rows)))else none
def xh:Option Cell->Option (List (List D))
 | some (.nest rows)=>some rows
 | _=>none
def KM(i:Nat)(F:CO Fl):CO Fl:=λγ=>(xh γ[i]?).bind λrows=>F (γ.set i (.val (.lst (rows.map D.lst))))
def wF:List D->Option (List Str)
 | []=>some []
 | .str x::r=>(wF r).map λl=>x::l
 | _::_=>none
def jF(x:Str):Bool:=decide (x.length<=1000)
def YT(f:CO D)(g:CO (Sk×List D)):CO D:=λγ=>(f γ).bind λd=>(g γ).bind λa=>match d,a.1 with
 | .str sep,.L=>(wF a.2).bind λl=>if l.length<=lim/\l.all jF=true/\jF sep=true then some (.str (zlV sep l))else none
 | _,_=>none
def vJ(f g:CO D):CO D:=λγ=>(f γ).bind λd=>((g γ).bind asI).bind λi=>match d with
 | .str z=>if jF z=true then (ixD z.cps.toList.length i).bind λk=>z.cps.toList[k]?.map λc=> .str ⟨#[c]⟩else none
 | _=>none
def QO(f:CO D):CO D:=λγ=>(f γ).bind λd=>match d with
 | .str z=>if jF z=true then some (.int z.length)else none
 | _=>none
def zcj(f g:CO D):CO D:=λγ=>((f γ).bind asI).bind λi=>((g γ).bind asI).map λj=> .int (if j<i then j else i)
abbrev Xn:=Str×Option Int
def xNo:CO Xn:=λ_=>none
def zf9(c:Str):CO Xn:=λ_=>some (c,none)
def xIf(k:CO Bool)(G H:CO Xn):CO Xn:=λγ=>(k γ).bind λb=>if b=true then G γ else H γ
def vK(f:CO D)(g:CO (Sk×List D)):CO D:=λγ=>(f γ).bind λd=>(g γ).bind λa=>(asI d).bind λi=>(Q7 a.2).map λl=> .bl (!decide (i∈l))
def ZG(j:Nat)(g:CO D)(γ:Ctx):Option (List (List D)×Nat×List D):=(xh γ[j]?).bind λR=>((g γ).bind asI).bind λi=>(ixD R.length i).bind λk=>(R[k]?).map λrow=>(R,k,row)
end DL
namespace DL
open PySem L2
open PySem.W (KasT kas_sort)
def qM(z:Str):List D:=z.cps.toList.map λc=>D.str ⟨#[c]⟩
def zbA(f:CO D):CO (List D):=λγ=>(f γ).bind λd=>match d with
 | .str z=>if jF z=true then some (qM z)else none
 | _=>none
def JC(f:CO D):CO (List D):=λγ=>(f γ).bind λd=>match d with
 | .str z=>if jF z=true then some (j4 (qM z))else none
 | _=>none
def w5(f:CO D):CO (List D):=λγ=>(f γ).bind λd=>match d with
 | .lst ds=>some (j4 ds)
 | _=>none
def zhh(f:CO D)(g:CO (Sk×List D)):CO D:=λγ=>(f γ).bind λd=>(g γ).bind λa=>match d with
 | .str x=>(wF a.2).map λl=> .bl (l.any λy=>y==x)
 | _=>none
def zaC:D->Option (Int×Int)
 | .tup [.int a,.int b]=>some (a,b)
 | _=>none
def yR:List D->Option (List (Int×Int))
 | []=>some []
 | d::r=>(zaC d).bind λp=>(yR r).map λl=>p::l
def kG(x y:Int×Int):Bool:=if x.1=y.1 then decide (x.2<y.2)else decide (x.1<y.1)
def qO{α:Type}(lt:Nat->Nat->Bool):KasT α->α
 | .ret a=>a
 | .ask i j k=>qO lt (k (lt i j))
def jO(ps:List (Int×Int)):List Nat:=if ps.length<2 then zie ps.length else (qO (λi j=>kG (ps.getD i (0,0)) (ps.getD j (0,0))) (kas_sort ps.length)).toList
def KC(ds:List D):Option (List D):=(yR ds).bind λps=>if ds.length<64 then some ((jO ps).map λi=>ds.getD i .non)else none
def w4(f:CO (Sk×List D)):CO (List D):=λγ=>(f γ).bind λa=>match a.1 with
 | .L=>KC a.2
 | _=>none
end DL
namespace DL
open PySem L2
def Q8:List D->Option (List Int)
 | []=>some []
 | .int i::r=>(Q8 r).map λl=>i::l
 | _::_=>none
def V8(ds es:List D):Option D:=match Q8 ds with
 | some ns=>if ds.length=es.length/\ns.Nodup/\ds.length<=lim then some (.dic ds es)else none
 | none=>none
def Ka:List D->List D->Int->Option D
 | k::ks,v::vs,i=>match k with
  | .int j=>if j=i then some v else Ka ks vs i
  | _=>Ka ks vs i
 | _,_,_=>none
open PySem.Spec PyProof.Rows
structure RS(K:PySem.W.Frag)(E0 E H0 H:Hp)(σ:St)(γ:Ctx):Prop where
 rc:RC K H0 H σ γ
 ext:Ext E0 E H0 H
 fresh : ∀(i:Nat) ds a,γ[i]? = some (.own ds)->σ[i]? = some (some (.ref a))->E a=none
 fr2 : ∀(i:Nat) rows a xs,γ[i]? = some (.nest rows)->σ[i]? = some (some (.ref a))->H a=some (.lst xs)->E a=none/\∀b,V.ref b∈xs->E b=none
def Sat(K:PySem.W.Frag)(E0 E:Hp)(D:Ends):Fl->Prop
 | .next γ=>∀σ H H0,RS K E0 E H0 H σ γ->D.nx σ H
 | .brk γ=>∀σ H H0,RS K E0 E H0 H σ γ->D.bk σ H
 | .cont γ=>∀σ H H0,RS K E0 E H0 H σ γ->D.ct σ H
 | .ret (.val d)=>∀v H H0,Ext E0 E H0 H->Rep K H0 d v->D.rt v H
 | .ret (.own es)=>∀a xs H H0,Ext E0 E H0 H->E a=none->H0 a=none->H a=some (.lst xs)->Reps K H0 es xs->D.rt (.ref a) H
def tS(K:PySem.W.Frag)(F:CO Fl):TS:=λD σ H=>∃E0 E H0 γ z,RS K E0 E H0 H σ γ/\F γ=some z/\Sat K E0 E D z
abbrev PSD(X:Cx)(st:Stmt)(F:CO Fl):Prop:=PS X st (tS X.K F)
abbrev WM(X:Cx)(sts:List Stmt)(F:CO Fl):Prop:=PSs X sts (tS X.K F)
section
variable{K:PySem.W.Frag}{E0 E H0 H H0' H':Hp}{σ:St}{γ:Ctx}
theorem RS.step(r:RS K E0 E H0 H σ γ)(e:Ext H0 H H0' H'):RS K E0 E H0' H' σ γ:=⟨r.rc.ext e,r.ext.trans e,r.fresh,λi rows a xs h1 h2 I=>by
 obtain⟨O,bs,z,g2,_⟩:=r.rc.nst.1 i rows h1;rw [h2]at z;cases z;have:=e.s1 a _ g2.ha;rw [I]at this;cases this;exact r.fr2 i rows a _ h1 h2 g2.ha⟩
theorem zM{α:Type}{l:List α}{i j:Nat}{x y:α}(h:(l.set i x)[j]? = some y):(j=i/\y=x/\i<l.length)\/(j≠i/\l[j]? = some y):=by
 by_cases e:i=j
 ·subst e
  by_cases z:i<l.length
  ·rw [ziM z]at h;cases h;exact .inl ⟨rfl,rfl,z⟩
  ·rw [List.set_eq_of_length_le ⋯]at h
   exact absurd (zit.mp h).1 z
 ·rw [zis e]at h;exact .inr ⟨zi6 e,h⟩
theorem NestOk.setVal{i:Nat}{d:D}{v:V}(n:NestOk K H0 H σ γ):NestOk K H0 H (σ.set i (some v)) (γ.set i (.val d)):=
 ⟨λj rows e=>by
  rcases zM e with⟨_,z,_⟩ | ⟨S,z⟩
  ·cases z
  ·obtain⟨a,bs,h1,h2,U⟩:=n.1 j rows z
   refine⟨a,bs,by rw [zis (zi6 S)];exact h1,h2,λk ds c e1 I=>?_⟩;rcases zM e1 with⟨_,z,_⟩ | ⟨Y,O⟩
   ·cases z
   ·rw [zis (zi6 Y)]at I;exact U k ds c O I,
 λj k Z r2 e1 I=>by
  rcases zM e1 with⟨_,z,_⟩ | ⟨_,O⟩
  ·cases z
  ·rcases zM I with⟨_,z,_⟩ | ⟨_,z2⟩
   ·cases z
   ·exact n.2 j k Z r2 O z2⟩
theorem RC.setVal{i:Nat}{d:D}{v:V}(r:RC K H0 H σ γ)(h:Rep K H0 d v):RC K H0 H (σ.set i (some v)) (γ.set i (.val d)):=by
 refine⟨r.sub,by simp [r.len],λj d' e=>?_,λj ds e=>?_,λj k a ds es e1 Z S U=>?_,r.nst.setVal⟩
 ·rcases zM e with⟨rfl,z,Y⟩ | ⟨I,z⟩
  ·cases z;exact⟨v,ziM (by rw [r.len];exact Y),h⟩
  ·obtain⟨v',O,g2⟩:=r.val j d' z
   exact⟨v',by rw [zis (zi6 I)];exact O,g2⟩
 ·rcases zM e with⟨rfl,z,Y⟩ | ⟨I,z⟩
  ·cases z
  ·obtain⟨a,xs,O,g2⟩:=r.own j ds z
   exact⟨a,xs,by rw [zis (zi6 I)];exact O,g2⟩
 ·rcases zM e1 with⟨_,z,_⟩ | ⟨I,z1⟩
  ·cases z
  ·rcases zM Z with⟨_,z,_⟩ | ⟨hk,z2⟩
   ·cases z
   ·rw [zis (zi6 I)]at S
    rw [zis (zi6 hk)]at U;exact r.ne j k a ds es z1 z2 S U
theorem RS.setVal{i:Nat}{d:D}{v:V}(r:RS K E0 E H0 H σ γ)(h:Rep K H0 d v):RS K E0 E H0 H (σ.set i (some v)) (γ.set i (.val d)):=
 ⟨r.rc.setVal h,r.ext,λj ds a e1 I=>by
  rcases zM e1 with⟨_,z,_⟩ | ⟨O,z⟩
  ·cases z
  ·rw [zis (zi6 O)]at I;exact r.fresh j ds a z I,
 λj rows a xs e1 I S=>by
  rcases zM e1 with⟨_,z,_⟩ | ⟨O,z⟩
  ·cases z
  ·rw [zis (zi6 O)]at I;exact r.fr2 j rows a xs z I S⟩
theorem vS : ∀{z bs:List Addr},z.map V.ref=bs.map V.ref->z=bs
 | [],[],_=>rfl
 | [],_::_,h=>by cases h
 | _::_,[],h=>by cases h
 | a::z,b::bs,h=>by
  rw [ziK,ziK]at h;injection h with h1 h2;injection h1 with h1;rw [h1,vS h2]
theorem RS.setOwn{i:Nat}{es:List D}{a:Addr}{xs:List V}{G0 G:Hp}(r:RS K E0 E G0 G σ γ)(e:Ext G0 G H0 H)(h1:G a=none)(h2:H0 a=none)(h3:H a=some (.lst xs))(h4:Reps K H0 es xs) :
 RS K E0 E H0 H (σ.set i (some (.ref a))) (γ.set i (.own es)):=by
 have rc:=r.rc.ext e;have no : ∀(j:Nat) ds,γ[j]? = some (.own ds)->¬σ[j]? = some (some (.ref a)):=λj ds g z=>by
  obtain⟨b,ys,I,g2,g3,_⟩:=r.rc.own j ds g;rw [z]at I;cases I;rw [h1]at g3;cases g3
 refine⟨⟨rc.sub,by simp [rc.len],λj d' g=>?_,λj ds g=>?_,λj k b ds fs e1 U Y Z=>?_,⟨λj rows g=>?_,λj k r1 r2 I g2=>?_⟩⟩,r.ext.trans e,λj ds b I g2=>?_,λj rows b xs I g2 g3=>?_⟩
 ·rcases zM g with⟨_,z,_⟩ | ⟨O,z⟩
  ·cases z
  ·obtain⟨v',I,g2⟩:=rc.val j d' z
   exact⟨v',by rw [zis (zi6 O)];exact I,g2⟩
 ·rcases zM g with⟨rfl,z,S⟩ | ⟨O,z⟩
  ·cases z;exact⟨a,xs,ziM (by rw [rc.len];exact S),h2,h3,h4⟩
  ·obtain⟨b,ys,I,g2⟩:=rc.own j ds z
   exact⟨b,ys,by rw [zis (zi6 O)];exact I,g2⟩
 ·rcases zM e1 with⟨rfl,z,S⟩ | ⟨O,z1⟩
  ·rcases zM U with⟨rfl,_,_⟩ | ⟨hk,z2⟩
   ·rfl
   ·rw [ziM (by rw [rc.len];exact S)]at Y
    rw [zis (zi6 hk)]at Z;cases Y;exact absurd Z (no k fs z2)
  ·rcases zM U with⟨rfl,z,S⟩ | ⟨hk,z2⟩
   ·rw [ziM (by rw [rc.len];exact S)]at Z
    rw [zis (zi6 O)]at Y;cases Z;exact absurd Y (no j ds z1)
   ·rw [zis (zi6 O)]at Y
    rw [zis (zi6 hk)]at Z;exact rc.ne j k b ds fs z1 z2 Y Z
 ·rcases zM g with⟨_,z,_⟩ | ⟨O,z⟩
  ·cases z
  ·obtain⟨b,bs,I,g2,g3⟩:=r.rc.nst.1 j rows z
   obtain⟨b',a4,f1,f2,f3⟩:=rc.nst.1 j rows z;rw [I]at f1;cases f1;have eb:a4.map V.ref=bs.map V.ref:=by
    have:=e.s1 b _ g2.ha;rw [f2.ha]at this;injection this with this;injection this
   have ad:a4=bs:=vS eb;subst ad;refine⟨b,a4,by rw [zis (zi6 O)];exact I,f2,λk ds c e1 U=>?_⟩;rcases zM e1 with⟨rfl,_,S⟩ | ⟨hk,z1⟩
   ·rw [ziM (by rw [rc.len];exact S)]at U;cases U
    intro hm;obtain⟨_,af,q⟩:=g2.at hm;rw [h1]at q;cases q
   ·rw [zis (zi6 hk)]at U;exact f3 k ds c z1 U
 ·rcases zM I with⟨_,z,_⟩ | ⟨_,z1⟩
  ·cases z
  ·rcases zM g2 with⟨_,z,_⟩ | ⟨_,z2⟩
   ·cases z
   ·exact rc.nst.2 j k r1 r2 z1 z2
 ·rcases zM I with⟨rfl,z,S⟩ | ⟨O,z⟩
  ·rw [ziM (by rw [rc.len];exact S)]at g2;cases g2
   cases q:E a with
   | none=>rfl
   | some o=>rw [r.ext.s1 a o q]at h1;cases h1
  ·rw [zis (zi6 O)]at g2;exact r.fresh j ds b z g2
 ·rcases zM I with⟨_,z,_⟩ | ⟨O,z⟩
  ·cases z
  ·rw [zis (zi6 O)]at g2;exact(r.step e).fr2 j rows b xs z g2 g3
theorem RS.rewrite{i:Nat}{ds es:List D}{a:Addr}{xs ys:List V}(r:RS K E0 E H0 H σ γ)(hi:γ[i]? = some (.own ds))(S:σ[i]? = some (some (.ref a)))(h4:Reps K H0 es ys) :
 RS K E0 E H0 (upd H a (.lst ys)) σ (γ.set i (.own es)):=by
 obtain⟨a',ad,g1,g2,g3,g4⟩:=r.rc.own i ds hi;rw [S]at g1;cases g1;have ag:i<γ.length:=(zit.mp hi).1;refine⟨⟨λb o q=>?_,by simp [r.rc.len],λj d' g=>?_,λj fs g=>?_,λj k b fs gs e1 I e3 e4=>?_,⟨λj rows g=>?_,λj k r1 r2 e1 I=>?_⟩⟩,⟨r.ext.s0,λb o q=>?_,λb o q=>?_,r.ext.new⟩,λj fs b e1 I=>?_,λj rows b zs e1 I e3=>?_⟩
 ·rw [zG (λz=>by rw [z,g2]at q;cases q)];exact r.rc.sub b o q
 ·rcases zM g with⟨_,z,_⟩ | ⟨hj,z⟩
  ·cases z
  ·exact r.rc.val j d' z
 ·rcases zM g with⟨rfl,z,hl⟩ | ⟨hj,z⟩
  ·cases z;exact⟨a,ys,S,g2,zL,h4⟩
  ·obtain⟨b,zs,O,U,Y,f4⟩:=r.rc.own j fs z
   refine⟨b,zs,O,U,?_,f4⟩;rw [zG (λq=>hj (r.rc.ne j i a fs ds z hi (by rw [O,q]) S))];exact Y
 ·have c1 : ∃fs',γ[j]? = some (.own fs'):=by
   rcases zM e1 with⟨q,_,_⟩ | ⟨_,z⟩
   ·exact⟨ds,by rw [q];exact hi⟩
   ·exact⟨fs,z⟩
  have c2 : ∃fs',γ[k]? = some (.own fs'):=by
   rcases zM I with⟨q,_,_⟩ | ⟨_,z⟩
   ·exact⟨ds,by rw [q];exact hi⟩
   ·exact⟨gs,z⟩
  obtain⟨O,Z⟩:=c1;obtain⟨U,z2⟩:=c2;exact r.rc.ne j k b O U Z z2 e3 e4
 ·rcases zM g with⟨_,z,_⟩ | ⟨hj,z⟩
  ·cases z
  ·obtain⟨b,bs,O,U,Y⟩:=r.rc.nst.1 j rows z
   have a5:=Y i ds a hi S;refine⟨b,bs,O,U.move (Same.refl _) (λc hc=>(U.at hc).1) (λc hc=>zG λq=>a5 (q ▸ hc)),λk fs c e1 I=>?_⟩;rcases zM e1 with⟨q,_,_⟩ | ⟨_,Z⟩
   ·rw [q,S]at I;cases I;exact a5
   ·exact Y k fs c Z I
 ·rcases zM e1 with⟨_,z,_⟩ | ⟨_,Z⟩
  ·cases z
  ·rcases zM I with⟨_,z,_⟩ | ⟨_,z2⟩
   ·cases z
   ·exact r.rc.nst.2 j k r1 r2 Z z2
 ·rw [zG (λz=>by rw [z,r.fresh i ds a hi S]at q;cases q)];exact r.ext.s1 b o q
 ·rw [zG (λz=>by rw [z,g2]at q;cases q)];exact r.ext.sub b o q
 ·rcases zM e1 with⟨q,_,_⟩ | ⟨_,z⟩
  ·rw [q]at I;exact r.fresh i ds b hi I
  ·exact r.fresh j fs b z I
 ·rcases zM e1 with⟨_,z,_⟩ | ⟨hj,z⟩
  ·cases z
  ·obtain⟨b',bs,O,U,Y⟩:=r.rc.nst.1 j rows z
   rw [I]at O;cases O;rw [zG (show b≠a from λq=>Y i ds a hi S (by rw [q];exact ziv))]at e3;exact r.fr2 j rows b zs z I e3
end
section
variable{X:Cx}{e a b c:Expr}{pos:Pos}{st:Stmt}{rest:List Stmt}
theorem jj:WM X [] jh:=zbJ zct λD σ H z=>by
 obtain⟨E0,E,H0,γ,U,I,O,S⟩:=z;cases O;exact S σ H H0 I
theorem zg{F G:CO Fl}(h1:PSD X st F)(h2:WM X rest G):WM X (st::rest) (zJ F G):=zbJ (zak h1 h2) λD σ H S=>by
 obtain⟨E0,E,H0,γ,U,Y,z,I⟩:=S;obtain⟨O,e1,z⟩:=bind_some z;refine⟨E0,E,H0,γ,O,Y,e1,?_⟩;cases O with
 | next γ'=>exact λσ' H' H0' Z=>⟨E0,E,H0',γ',U,Z,z,I⟩
 | brk γ'=>cases z;exact I
 | cont γ'=>cases z;exact I
 | ret r=>cases z;cases r<;>exact I
theorem zv{F:CO Fl}(h1:PSD X st F):WM X [st] F:=zcs h1
theorem zy{α β:Type}{o:Option α}{f:α->β}{y:β}(h:o.map f=some y) : ∃x,o=some x/\f x=y:=by
 cases o with
 | none=>cases h
 | some x=>exact⟨x,rfl,by simpa using h⟩
theorem zP{f:CO D}(h:PV X e f):PSD X (.Return (some e) pos) (jK f):=xF (Y7 h) λD σ H O=>by
 obtain⟨E0,E,H0,γ,U,I,z,S⟩:=O;obtain⟨d,e1,z⟩:=zy z;subst z;exact⟨H0,γ,d,I.rc,e1,λv H' H0' x r=>S v H' H0' (I.ext.trans x) r⟩
theorem qC{f:CO (List D)}(h:PO X e f):PSD X (.Return (some e) pos) (xC f):=xF (Y7 h) λD σ H O=>by
 obtain⟨E0,E,H0,γ,Y,z,I,S⟩:=O;obtain⟨ds,e1,I⟩:=zy I;subst I;refine⟨H0,γ,ds,z.rc,e1,λa xs H' H0' x h1 h2 U r=>S a xs H' H0' (z.ext.trans x) ?_ h2 U r⟩;cases q:E a with
 | none=>rfl
 | some o=>rw [z.ext.s1 a o q]at h1;cases h1
theorem ZM(i:Nat)(h:PE X e (zdz i)):PSD X (.Return (some e) pos) (QM i):=xF (Y7 h) λD σ H S=>by
 obtain⟨E0,E,H0,γ,Z,I,z,O⟩:=S;unfold QM at z;cases e1:γ[i]? with
 | none=>rw [e1]at z;cases z
 | some c=>
  rw [e1]at z;cases c with
  | no=>cases z
  | val d=>
   cases z;obtain⟨v,h1,h2⟩:=I.rc.val i d e1;exact⟨v,h1,O v H H0 I.ext h2⟩
  | nest rows=>cases z
  | own ds=>
   cases z;obtain⟨a,xs,h1,h2,U,Y⟩:=I.rc.own i ds e1;exact⟨_,h1,O a xs H H0 I.ext (I.fresh i ds a e1 h1) h2 U Y⟩
theorem JL:PSD X (.Continue pos) W7:=xF QR λD σ H ⟨E0,E,H0,γ,S,z,I,O⟩=>by cases I;exact O σ H H0 z
theorem Y6:PSD X st XI:=xF zap λD σ H ⟨E0,E,H0,γ,I,O,z,S⟩=>by cases z
theorem qb{k:CO Bool}{F G:CO Fl}{x y:List Stmt}(U:PTD X c k)(ha:WM X x F)(Y:WM X y G):PSD X (.If c x y pos) (sIf k F G):=xF (zgq U ha Y) λD σ H Z=>by
 obtain⟨E0,E,H0,γ,O,I,z,S⟩:=Z;obtain⟨t,e1,z⟩:=bind_some z;refine⟨H0,γ,t,I.rc,e1,λH' H0' x=>?_⟩;cases t with
 | true=>rw [if_pos rfl]at z ⊢;exact⟨E0,E,H0',γ,O,I.step x,z,S⟩
 | false=>rw [if_neg ziR]at z ⊢;exact⟨E0,E,H0',γ,O,I.step x,z,S⟩
theorem zW(i:Nat){f:CO D}(h:PS X st (YH (tV X.K f) (ya i))):PSD X st (z5 i f):=xF h λD σ H O=>by
 obtain⟨E0,E,H0,γ,U,I,z,S⟩:=O;obtain⟨d,e1,z⟩:=zy z;subst z;exact⟨H0,γ,d,I.rc,e1,λv H' H0' x r=>S _ _ H0' ((I.step x).setVal r)⟩
theorem xE(i:Nat){f:CO (List D)}(h:PS X st (YH (tO X.K f) (ya i))):PSD X st (xS i f):=xF h λD σ H O=>by
 obtain⟨E0,E,H0,γ,Y,I,z,S⟩:=O;obtain⟨ds,e1,z⟩:=zy z;subst z;exact⟨H0,γ,ds,I.rc,e1,λa xs H' H0' x h1 h2 U r=>S _ _ H0' (I.setOwn x h1 h2 U r)⟩
theorem yU{o:Option Cell}{ds:List D}(h:xM o=some ds):o=some (.own ds):=by
 cases o with
 | none=>cases h
 | some c=>cases c<;>simp [xM]at h;rw [h]
theorem KS(i:Nat){f:CO D}(h:PE X e (tBM X.K "list" YY (zdz i) (zdN (tV X.K f) zhf)))(Y:swapsWith e none pos.line X.env=pure false:=by rfl):PSD X (.Expr e pos) (jY i f):=
 xF (zcv h Y) λD σ H Z=>by
  obtain⟨E0,E,H0,γ,fl,I,z,a0⟩:=Z;obtain⟨ds,e1,z⟩:=bind_some z;obtain⟨d,e2,z⟩:=bind_some z;have e1:=yU e1;by_cases O:ds.length<lim
  ·rw [if_pos O]at z;cases z
   obtain⟨a,xs,h1,h2,S,U⟩:=I.rc.own i ds e1;refine⟨_,h1,.inl ⟨rfl,_,SqL.of S⟩,H0,γ,d,I.rc,e2,λv H' H0' x r=>?_⟩;have a2:=I.step x;have a3:=x.s1 _ _ S;refine⟨a,xs,v,rfl,rfl,a3,?_,?_⟩
   ·exact ziF (by rw [U.length];exact O) (xI (zim _))
   ·exact a0 _ _ H0' (a2.rewrite (xs:=xs) e1 h1 ((U.mono x.s0).append (Reps.cons r Reps.nil)))
  ·rw [if_neg O]at z;cases z
end
def zib(K:PySem.W.Frag)(H0 H:Hp)(Q:VK):Res->Prop
 | .val d=>∀v H' H0',Ext H0 H H0' H'->Rep K H0' d v->Q v H'
 | .own es=>∀a xs H' H0',Ext H0 H H0' H'->H a=none->H0' a=none->H' a=some (.lst xs)->Reps K H0' es xs->Q (.ref a) H'
def spF(K:PySem.W.Frag)(n:Nat)(F:List D->Option Res):Sp:=λvs H Q _=>∃H0 ds r,Same H0 H/\Reps K H0 ds vs/\ds.length=n/\F ds=some r/\zib K H0 H Q r
theorem spF.len{K:PySem.W.Frag}{n:Nat}{F:List D->Option Res}{ps:List Str}(hn:ps.length=n) : ∀vs H Q E,spF K n F vs H Q E->vs.length=ps.length:=λvs H Q E h=>by
 obtain⟨H0,ds,r,_,h1,h2,_⟩:=h;rw [h1.length,h2,hn]
section
variable{P:Program}{w:World}{K:PySem.W.Frag}{mg:Str->Option Value}{base:Heap}
theorem W8{H0 H:Hp}{N:List Str}{ds:List D}{vs:List V}(s:Same H0 H)(h:Reps K H0 ds vs)(hn:ds.length<=N.length):RS K H0 H H0 H (start N vs) (je N.length ds):=by
 have z:=h.length;refine⟨⟨s,by simp [L2.start,je,z],λi d e=>?_,λi es e=>?_,λi j a es fs e _ _ _=>?_,NestOk.nil0 λi rows e=>?_⟩,Ext.refl s,λi es a e _=>?_,λi rows a xs e _ _=>?_⟩
 all_goals unfold je at e
 ·by_cases hi:i<ds.length
  ·rw [zi9 (by simpa using hi),zja]at e
   cases e1:ds[i]? with
   | none=>rw [e1]at e;cases e
   | some d'=>
    rw [e1]at e;cases e;obtain⟨x,I,g2⟩:=h.get e1;refine⟨x,?_,g2⟩;unfold L2.start;rw [zi9 (by simp;omega),zja,I];rfl
  ·rw [ziW (by simpa using hi),zkC]at e
   split at e<;>cases e
 all_goals
  by_cases hi:i<ds.length
  ·rw [zi9 (by simpa using hi),zja]at e
   cases e1:ds[i]? with
   | none=>rw [e1]at e;cases e
   | some d'=>rw [e1]at e;cases e
  ·rw [ziW (by simpa using hi),zkC]at e
   split at e<;>cases e
theorem zfd{x qual:Str}{st:Stmt}{f:Addr}{fd:FuncData}{N ps:List Str}{k:Nat}{F:CO Fl}(U:L2.Fun K x qual st f fd)(S:FnScope N ps (defScope st))
 (Y : ∀(cdv:Value) (A:Around) (outer:List Env) (s:Shared) (H:Hp) (E:XK),Room k (A.deeper (envOfC qual (defScope st) s.heap.objs.size f cdv))->WM (zdj CX0 P w K mg base N qual (defScope st) f cdv A outer s H E).nox (defBody st) F) :
 FnOk P w K mg base CX0 (k+1) f fd ps (spF K ps.length (jC N.length F)):=by
 refine U.ok S (spF.len rfl) (λcdv A outer s H vs Q E Z h=>⟨_,Y cdv A outer s H E Z,?_⟩);obtain⟨H0,ds,r,s0,h1,h2,h3,I⟩:=h;obtain⟨O,e1,z⟩:=bind_some h3;have a2:ps.length<=N.length:=by have:=congrArg List.length S.pre;rw [zkR]at this;omega
 refine⟨H0,H,H0,je N.length ds,O,W8 s0 h1 ⋯,e1,?_⟩;cases O with
 | ret r'=>cases z;cases r<;>exact I
 | next γ=>cases z;exact λσ' H' H0' rs=>I .non H' H0' rs.ext (show V.non = .non from rfl)
 | brk γ=>cases z
 | cont γ=>cases z
end
section
variable{X:Cx}{es:List Expr}{pos p:Pos}{k:Nat}{f:Addr}{fd:FuncData}{ps:List Str}{x:Str}{F:List D->Option Res}{g:CO (List D)}
theorem zcp{A0:List Expr}(G:FnOk X.prog X.w X.K X.mg X.base CX0 k f fd ps (spF X.K ps.length F))(ha:PAD X es g)(U : ∀γ ds,g γ=some ds->ds.length=ps.length)
 (Y : ∀{t:TA},PA X es t->PE X (.Call (.Name x p) es [] pos) (zb6 (spF X.K ps.length F) [] E0 t)):PV X (.Call (.Name x p) es [] pos) (zA F g):=
 j3 (Y ha) λσ H Q Z=>by
  obtain⟨H0,γ,d,rc,z,q⟩:=Z;obtain⟨ds,e1,z⟩:=bind_some z;obtain⟨r,e2,z⟩:=zy z;refine⟨H0,γ,ds,rc,e1,λvs H1 a1 x1 r1=>⟨a1,ds,r,x1.sub,by simpa using r1,U γ ds e1,e2,?_⟩⟩;subst z;cases r with
  | val d=>exact λv H' H0' I r2=>q v H' H0' (x1.trans I) r2
  | own fs=>
   refine λa xs H' H0' I h1 h2 h3 r2=>q _ H' _ (x1.trans (I.show h1 h2 h3 x1.sub)) ?_;exact(show ∃O S,V.ref a = .ref O/\SqL X.K _ O S/\Reps X.K _ fs S from⟨a,xs,rfl,SqL.of zL,r2.mono (jt h2 _)⟩)
theorem zcz(G:FnOk X.prog X.w X.K X.mg X.base CX0 k f fd ps (spF X.K ps.length F))(ha:PAD X es g)(O : ∀γ ds,g γ=some ds->ds.length=ps.length)
 (S : ∀{t:TA},PA X es t->PE X (.Call (.Name x p) es [] pos) (zb6 (spF X.K ps.length F) [] E0 t)):PO X (.Call (.Name x p) es [] pos) (zY F g):=
 j3 (S ha) λσ H Q U=>by
  obtain⟨H0,γ,fs,rc,I,q⟩:=U;obtain⟨ds,e1,I⟩:=bind_some I;obtain⟨r,Y,I⟩:=bind_some I;refine⟨H0,γ,ds,rc,e1,λvs H1 Z x1 r1=>⟨Z,ds,r,x1.sub,by simpa using r1,O γ ds e1,Y,?_⟩⟩;cases r with
  | val d=>cases I
  | own gs=>
   cases I;exact λa xs H' H0' x2 h1 h2 h3 r2=>q a xs H' H0' (x1.trans x2) (by
    cases z:H a with
    | none=>rfl
    | some o=>rw [x1.s1 a o z]at h1;cases h1) h2 h3 r2
end
structure Walk(K:PySem.W.Frag)(H0 Hs:Hp)(J:It)(ds:List D):Prop where
 go : ∀i H1,Same Hs H1->i<ds.length->J.go i H1
 stop : ∀H1,Same Hs H1->J.stop ds.length H1
 yld : ∀i H1 x H1',Same Hs H1->i<ds.length->J.yld i H1 x H1'->∃d,ds[i]? = some d/\∀G0,Same H0 G0->Same G0 H1->∃G0',Ext G0 H1 G0' H1'/\Rep K G0' d x
theorem Walk.weak{K:PySem.W.Frag}{H0 Hs z:Hp}{J:It}{ds:List D}(w:Walk K H0 Hs J ds)(s:Same Hs z):Walk K H0 z J ds:=
 ⟨λi H1 h=>w.go i H1 (s.trans h),λH1 h=>w.stop H1 (s.trans h),λi H1 x H1' h=>w.yld i H1 x H1' (s.trans h)⟩
theorem Zw{k:Sk}{K:PySem.W.Frag}{H0 Hs:Hp}{a:Addr}{xs:List V}{ds:List D}(h:SqK k K Hs a xs)(r:Reps K H0 ds xs):Walk K H0 Hs (Itk k K a) ds:=by
 have O:=r.length;refine⟨λi H1 s hi=>?_,λH1 s=>?_,λi H1 x H1' s hi y=>?_⟩
 ·have hx:i<xs.length:=by omega
  cases k with
  | L=>exact⟨xs,xs[i],s.seq h,zih hx⟩
  | T=>exact⟨xs,xs[i],sameT s h,zih hx⟩
 ·cases k with
  | L=>exact⟨xs,s.seq h,by omega⟩
  | T=>exact⟨xs,sameT s h,by omega⟩
 ·have e:H1'=H1/\xs[i]? = some x:=by
   cases k with
   | L=>exact⟨y.1,y.2 xs (s.seq h)⟩
   | T=>exact⟨y.1,y.2 xs (sameT s h)⟩
  obtain⟨e1,z⟩:=e;subst e1;obtain⟨d,hd,I⟩:=r.getV z;exact⟨d,hd,λG0 s1 s2=>⟨G0,Ext.refl s2,I.mono s1⟩⟩
theorem yu(lo:Int)(n:Nat):(q8 lo n).length=n:=by simp [q8]
theorem wQ{K:PySem.W.Frag}{H0 Hs:Hp}(lo:Int)(n:Nat):Walk K H0 Hs (Itr lo n) (q8 lo n):=by
 refine⟨λi H1 s hi=>?_,λH1 s=>?_,λi H1 x H1' s hi y=>?_⟩
 ·rw [yu]at hi;exact hi
 ·rw [yu];exact zim _
 ·rw [yu]at hi
  obtain⟨e1,z⟩:=y;subst e1 z;exact⟨.int (lo+i),by simp [q8,hi],λG0 s1 s2=>⟨G0,Ext.refl s2,(show V.int (lo+i) = .int (lo+i)from rfl)⟩⟩
theorem WT{I O:Sk}{K:PySem.W.Frag}{H0 Hs:Hp}{a b:Addr}{xs ys:List V}{ds es:List D}(h1:SqK I K Hs a xs)(S:Reps K H0 ds xs)(h2:SqK O K Hs b ys)(r2:Reps K H0 es ys) :
 Walk K H0 Hs (Itz I O K a b) (Jg ds es):=by
 have l1:=S.length;have l2:=r2.length;have Z:(Jg ds es).length=min ds.length es.length:=by simp [Jg]
 refine⟨λi H1 s hi=>?_,λH1 s=>?_,λi H1 x H1' s hi y=>?_⟩
 ·exact⟨xs,ys,xm s h1,xm s h2,by omega,by omega⟩
 ·refine⟨xs,ys,xm s h1,xm s h2,?_⟩
  rw [Z];omega
 ·obtain⟨p,u,v,e1,z,e2,g1,g2⟩:=y
  obtain⟨d,hd,hr⟩:=S.getV (g1 xs (xm s h1));obtain⟨c,hc,a4⟩:=r2.getV (g2 ys (xm s h2));refine⟨.tup [d,c],?_,λG0 s1 s2=>⟨upd G0 p (.tup [u,v]),?_,?_⟩⟩
  ·have a5:(ds.zip es)[i]? = some (d,c):=zk8.mpr ⟨hd,hc⟩
   simp [Jg,a5]
  ·rw [e2];exact Ext.alloc s2 z _
  ·rw [e1]
   exact(show ∃U Y,V.ref p = .ref U/\SqT K _ U Y/\Reps K _ [d,c] Y from⟨p,[u,v],rfl,SqT.of zL,Reps.cons ((hr.mono s1).mono (jt (jm s2 z) _)) (Reps.cons ((a4.mono s1).mono (jt (jm s2 z) _)) Reps.nil)⟩)
def tIc(K:PySem.W.Frag)(src:CO (List D)):TI:=λσ H R=>∃H0 γ ds,RC K H0 H σ γ/\src γ=some ds/\∀J H' H0',Ext H0 H H0' H'->Walk K H0' H' J ds->R J H'
def tIf(K:PySem.W.Frag)(src:CO (List D)):TI:=λσ H R=>∃H0 γ ds,RC K H0 H σ γ/\src γ=some ds/\∀J H' H0',Ext H0 H H0' H'->Walk K H0' H0' J ds->R J H'
abbrev PIC(X:Cx)(tg e:Expr)(src:CO (List D)):Prop:=PI X tg e (tIc X.K src)
abbrev PIF(X:Cx)(tg e:Expr)(src:CO (List D)):Prop:=PI X tg e (tIf X.K src)
section
variable{X:Cx}{tg e a b:Expr}{pos p:Pos}
theorem PIF.c{src:CO (List D)}(h:PIF X tg e src):PIC X tg e src:=wH h λσ H R ⟨H0,γ,ds,rc,z,q⟩=>⟨H0,γ,ds,rc,z,λJ H' H0' x w=>q J H' H0' x (w.weak x.sub)⟩
theorem jd{f:CO (Sk×List D)}(h:PQ X e f):PIC X tg e (zD f):=wH (zbK h) λσ H R z=>by
 obtain⟨H0,γ,ds,rc,I,q⟩:=z;obtain⟨⟨k,es⟩,e1,O⟩:=zy I;subst O;exact⟨H0,γ,k,es,rc,e1,λa xs H' H0' x h1 _ r=>⟨a,k,rfl,⟨xs,h1⟩,q _ H' H0' x (Zw h1 r)⟩⟩
theorem ZQ{f:CO D}(h:PV X e f):PIF X tg e (zD (zH f)):=wH (zbK h) λσ H R O=>by
 obtain⟨H0,γ,ds,rc,S,q⟩:=O;obtain⟨⟨k,es⟩,e1,z⟩:=zy S;subst z;obtain⟨d,U,e1⟩:=bind_some e1;refine⟨H0,γ,d,rc,U,λv H' H0' x r=>?_⟩;cases d with
 | tup fs=>
  obtain⟨z,I⟩:k = .T/\es=fs:=by simp [jE]at e1;exact⟨e1.1.symm,e1.2.symm⟩
  subst z I;obtain⟨a,xs,rfl,h1,h2⟩:=(show ∃a xs,v = .ref a/\SqT X.K H0' a xs/\Reps X.K H0' es xs from r);exact⟨a,.T,rfl,⟨xs,sameT x.sub h1⟩,q _ H' H0' x (Zw (k:= .T) h1 h2)⟩
 | lst fs=>
  obtain⟨z,I⟩:k = .L/\es=fs:=by simp [jE]at e1;exact⟨e1.1.symm,e1.2.symm⟩
  subst z I;obtain⟨a,xs,rfl,h1,h2⟩:=(show ∃a xs,v = .ref a/\SqL X.K H0' a xs/\Reps X.K H0' es xs from r);exact⟨a,.L,rfl,⟨xs,x.sub.seq h1⟩,q _ H' H0' x (Zw (k:= .L) h1 h2)⟩
 | _=>simp [jE]at e1
theorem jw{d:D}{i:Int}(h:asI d=some i):d = .int i:=by cases d<;>simp [asI]at h;rw [h]
theorem wc{i:Int}(h:inR i=true) : -(2 ^ 62)<=i/\i<2 ^ 62:=by
 unfold inR at h;have h:=of_decide_eq_true h;omega
theorem KZ{f:CO D}(O:Gl X "range")(hm:X.mg "range" = none)(ha:PV X a f)(I:starEach [a] X.env=[(false,eval a X.env)]:=by rfl):PIF X tg (.Call (.Name "range" p) [a] [] pos) (zR f):=
 wH (Vd O hm (jr ha qg I) I) λσ H R S=>by
  obtain⟨H0,γ,ds,rc,z,q⟩:=S;obtain⟨n,e1,z⟩:=bind_some z;obtain⟨d,U,e1⟩:=bind_some e1;by_cases hn:inR n=true
  ·rw [if_pos hn]at z;cases z
   refine⟨H0,γ,d,rc,U,λv H' H0' x r=>?_⟩;rw [jw e1]at r;obtain⟨h1,h2⟩:=wc hn;exact⟨n,by rw [show v = .int n from r],h1,h2,q _ H' H0' x (wQ 0 n.toNat)⟩
  ·rw [if_neg hn]at z;cases z
theorem KY{f g:CO D}(U:Gl X "range")(hm:X.mg "range" = none)(ha:PV X a f)(Y:PV X b g)(S:starEach [a,b] X.env=[(false,eval a X.env),(false,eval b X.env)]:=by rfl)(I:starEach [b] X.env=[(false,eval b X.env)]:=by rfl) :
 PIF X tg (.Call (.Name "range" p) [a,b] [] pos) (yn f g):=
 wH (Vb U hm (jr ha (jr Y qg I) (by rw [S,I])) S I) λσ H R Z=>by
  obtain⟨H0,γ,ds,rc,z,q⟩:=Z;obtain⟨m,e1,z⟩:=bind_some z;obtain⟨d,e0,e1⟩:=bind_some e1;obtain⟨n,O,z⟩:=bind_some z;obtain⟨c,e2,O⟩:=bind_some O;by_cases hn:inR m=true/\inR n=true
  ·rw [if_pos hn]at z;cases z
   refine⟨H0,γ,d,rc,e0,λv H' H0' x r=>⟨H0',γ,c,rc.ext x,e2,λv2 H2 a3 x2 r2=>?_⟩⟩;rw [jw e1]at r;rw [jw O]at r2;obtain⟨h1,h2⟩:=wc hn.1;obtain⟨h3,h4⟩:=wc hn.2;exact⟨m,n,by rw [show v = .int m from r,show v2 = .int n from r2],⟨h1,h2,h3,h4⟩,q _ H2 a3 (x.trans x2) (wQ m (n - m).toNat)⟩
  ·rw [if_neg hn]at z;cases z
theorem vI{K:PySem.W.Frag}{H:Hp}{d:D}{v:V}{k:Sk}{ds:List D}(r:Rep K H d v)(e:jE d=some (k,ds)) : ∃a xs,v = .ref a/\SqK k K H a xs/\Reps K H ds xs:=by
 cases d with
 | tup fs=>simp [jE]at e;obtain⟨e1,z⟩:=e;subst e1 z;exact r
 | lst fs=>simp [jE]at e;obtain⟨e1,z⟩:=e;subst e1 z;exact r
 | _=>simp [jE]at e
theorem zcB{f g:CO D}{elts:List Expr}{x1:Nat}{tpos:Pos}(hg:Gl X "zip")(hm:X.mg "zip" = none)(ha:PV X a f)(hb:PV X b g)(U:starEach [a,b] X.env=[(false,eval a X.env),(false,eval b X.env)]:=by rfl)(O:starEach [b] X.env=[(false,eval b X.env)]:=by rfl) :
 PIF X (.Tuple elts x1 tpos) (.Call (.Name "zip" p) [a,b] [] pos) (Jh f g):=
 wH (zet hg hm (jr ha (jr hb qg O) (by rw [U,O])) PyProof.Rows.boot_zip U O) λσ H R hZ=>by
  obtain⟨H0,γ,ds,rc,z,q⟩:=hZ;obtain⟨⟨k1,m⟩,e1,z⟩:=bind_some z;obtain⟨d,e0,e1⟩:=bind_some e1;obtain⟨⟨k2,n⟩,S,z⟩:=zy z;obtain⟨c,e2,S⟩:=bind_some S;subst z;refine⟨H0,γ,d,rc,e0,λv H' H0' x r=>⟨H0',γ,c,rc.ext x,e2,λv2 H2 a9 I r2=>?_⟩⟩;obtain⟨a1,xs,rfl,Y,g2⟩:=vI (r.mono I.s0) e1;obtain⟨a2,ys,rfl,Z,g4⟩:=vI r2 S;exact⟨k1,k2,a1,a2,rfl,⟨xs,xm I.sub Y⟩,⟨ys,xm I.sub Z⟩,q _ H2 a9 (x.trans I) (WT Y g2 Z g4)⟩
end
def setAll:List Nat->List V->St->St
 | i::is,v::vs,σ=>setAll is vs (σ.set i (some v))
 | _,_,σ=>σ
def gs:List Nat->TGs
 | []=>zhy
 | i::is=>zfb (ya i) (gs is)
def gOf(K:PySem.W.Frag):Tg->TG
 | .nm i=>ya i
 | .tp is=>zhx K is.length (gs is)
theorem VR : ∀{is:List Nat} {vs:List V} {σ:St} {H:Hp} {Q:St->Hp->Prop},vs.length=is.length->Q (setAll is vs σ) H->gs is vs σ H Q
 | [],[],_,_,_,_,q=>⟨rfl,q⟩
 | i::is,v::vs,σ,H,Q,hl,q=>⟨v,vs,rfl,VR (by simpa using hl) q⟩
 | [],_::_,_,_,_,hl,_=>by simp at hl
 | _::_,[],_,_,_,hl,_=>by simp at hl
theorem RS.setAll{K:PySem.W.Frag}{E0 E H0 H:Hp} : ∀{is:List Nat} {ds:List D} {vs:List V} {σ:St} {γ:Ctx},RS K E0 E H0 H σ γ->Reps K H0 ds vs->RS K E0 E H0 H (setAll is vs σ) (qx is ds γ)
 | [],ds,vs,σ,γ,r,h=>by cases ds<;>cases vs<;>exact r
 | i::is,[],vs,σ,γ,r,h=>by rw [h.inv_nil];exact r
 | i::is,d::ds,vs,σ,γ,r,h=>by
  obtain⟨x,t,e,h1,h2⟩:=h.inv_cons;subst e;show RS K E0 E H0 H (DL.setAll is t (σ.set i (some x))) (qx is ds (γ.set i (.val d)));exact RS.setAll (r.setVal h1) h2
theorem RC.setAll{K:PySem.W.Frag}{H0 H:Hp} : ∀{is:List Nat} {ds:List D} {vs:List V} {σ:St} {γ:Ctx},RC K H0 H σ γ->Reps K H0 ds vs->RC K H0 H (setAll is vs σ) (qx is ds γ)
 | [],ds,vs,σ,γ,r,h=>by cases ds<;>cases vs<;>exact r
 | i::is,[],vs,σ,γ,r,h=>by rw [h.inv_nil];exact r
 | i::is,d::ds,vs,σ,γ,r,h=>by
  obtain⟨x,t,e,h1,h2⟩:=h.inv_cons;subst e;show RC K H0 H (DL.setAll is t (σ.set i (some x))) (qx is ds (γ.set i (.val d)));exact RC.setAll (r.setVal h1) h2
theorem yh{K:PySem.W.Frag}{H0 H:Hp}{T:Tg}{d:D}{v:V}{σ:St}{γ z:Ctx}{Q:St->Hp->Prop}(s:Same H0 H)(h:Rep K H0 d v)(e:qB T d γ=some z)
 (q : ∀I,(RC K H0 H σ γ->RC K H0 H I z)->(∀E0 E,RS K E0 E H0 H σ γ->RS K E0 E H0 H I z)->Q I H):gOf K T v σ H Q:=by
 cases T with
 | nm i=>cases e;exact q _ (λr=>r.setVal h) λE0 E r=>r.setVal h
 | tp is=>
  cases d with
  | tup ds=>
   simp only [qB]at e;by_cases O:ds.length=is.length
   ·rw [if_pos O]at e;cases e
    obtain⟨a,xs,rfl,h1,h2⟩:=(show ∃a xs,v = .ref a/\SqT K H0 a xs/\Reps K H0 ds xs from h);have hx:xs.length=is.length:=by rw [h2.length,O]
    exact⟨a,xs,rfl,sameT s h1,hx,VR hx (q _ (λr=>r.setAll h2) λE0 E r=>r.setAll h2)⟩
   ·rw [if_neg O]at e;cases e
  | _=>simp [qB]at e
theorem Ext.rebase{E0 E z H0 H B:Hp}(e:Ext E0 E z B)(x:Ext z E H0 H):Ext E0 E H0 H:=
 ⟨e.s0.trans x.s0,x.s1,x.sub,λa h1 h2=>x.new a (e.new a h1 h2) h2⟩
theorem Ext.base{E0 E z B:Hp}(e:Ext E0 E z B):Ext z E z B:=⟨Same.refl _,e.s1,e.sub,λa h _=>h⟩
theorem Sat.rebase{K:PySem.W.Frag}{E0 E I B:Hp}{D:Ends}{z:Fl}(e:Ext E0 E I B)(h:Sat K E0 E D z):Sat K I E D z:=by
 cases z with
 | next γ=>exact λσ H H0 r=>h σ H H0 ⟨r.rc,e.rebase r.ext,r.fresh,r.fr2⟩
 | brk γ=>exact λσ H H0 r=>h σ H H0 ⟨r.rc,e.rebase r.ext,r.fresh,r.fr2⟩
 | cont γ=>exact λσ H H0 r=>h σ H H0 ⟨r.rc,e.rebase r.ext,r.fresh,r.fr2⟩
 | ret r=>
  cases r with
  | val d=>exact λv H H0 x q=>h v H H0 (e.rebase x) q
  | own es=>exact λa xs H H0 x h1 h2 O q=>h a xs H H0 (e.rebase x) h1 h2 O q
section
variable{X:Cx}{tg iter:Expr}{body:List Stmt}{pos:Pos}
theorem qz{src:CO (List D)}{T:Tg}{F:CO Fl}(hp:PassesOwn (model X.prog X.w) X.A X.env X.xe)(hc:X.calm=true)(hi:PIF X tg iter src)(hg:PG X tg (gOf X.K T))(hb:WM X body F)
 (hs : ∀x,foldedSetIterable iter X.env x=pure x:=by intro _;rfl):PSD X (.For tg iter body [] pos) (xT src T F):=
 xF (zen hp hc hi hg hb hs) λD σ H hZ=>by
  obtain⟨E0,E,H0,γ,I,O,z,U⟩:=hZ;obtain⟨ds,e1,z⟩:=bind_some z;refine⟨H0,γ,ds,O.rc,e1,λJ H1 S x1 wk=>?_⟩;have Z:=O.step x1;have ex:=Z.ext;refine⟨λi m σ H=>m=ds.length - i/\i<=ds.length/\∃H0 γ I,RS X.K S E H0 H σ γ/\qh T F (ds.drop i) γ=some I/\Sat X.K S E D I,⟨_,rfl,zjj _,S,γ,I,⟨Z.rc,ex.base,Z.fresh,Z.fr2⟩,z,U.rebase ex⟩,?_⟩;rintro i m σ H ⟨rfl,hi,H0,γ,I,O,z,U⟩;have a2:Same S H:=O.ext.s0.trans O.ext.sub;by_cases Y:i<ds.length
  ·refine .inr ⟨wk.go i H a2 Y,λσ H=>i+1<=ds.length/\∃H0 γ I,RS X.K S E H0 H σ γ/\qh T F (ds.drop (i+1)) γ=some I/\Sat X.K S E D I,λσ' H' n=>⟨ds.length - (i+1),by omega,rfl,n.1,n.2⟩,λx H' y=>?_⟩
   obtain⟨d,hd,hx⟩:=wk.yld i H x H' a2 Y y;obtain⟨G0,xg,rg⟩:=hx H0 O.ext.s0 O.rc.sub;have ad:ds.drop i=d::ds.drop (i+1):=by
    have ae:d=ds[i]:=by rw [zih Y]at hd;exact(zji hd).symm
    rw [ae];exact zku Y
   rw [ad]at z;simp only [qh]at z;obtain⟨γ1,eb,z⟩:=bind_some z;obtain⟨f1,eF,z⟩:=bind_some z;refine yh xg.sub rg eb λσ1 _ ai=>⟨S,E,G0,γ1,f1,ai S E (O.step xg),eF,?_⟩;cases f1 with
   | next γ2=>exact λσ2 H2 a3 r2=>⟨Y,a3,γ2,I,r2,z,U⟩
   | cont γ2=>exact λσ2 H2 a3 r2=>⟨Y,a3,γ2,I,r2,z,U⟩
   | brk γ2=>cases z;exact U
   | ret r=>cases z;cases r<;>exact U
  ·have e:i=ds.length:=by omega
   subst e;rw [zl8]at z;cases z;exact .inl ⟨wk.stop H a2,U σ H H0 O⟩
end
theorem qf{n:Nat}{fr:List Nat}{γ:Ctx}{i:Nat}{c:Cell}(h:(zT n fr γ)[i]? = some c):c = .no\/(∃d j,c = .val d/\n<=i/\fr[i - n]? = some j/\γ[j]? = some (.val d)):=by
 unfold zT at h;by_cases hi:i<n
 ·rw [zi9 (by simpa using hi),zkC,if_pos hi]at h
  exact .inl (zji h).symm
 ·rw [ziW (by simpa using hi),zja,List.length_replicate]at h
  cases e:fr[i - n]? with
  | none=>rw [e]at h;cases h
  | some j=>
   rw [e]at h;have h':qG (γ[j]?.getD .no)=c:=by simpa using h
   cases e2:γ[j]? with
   | none=>rw [e2]at h';exact .inl h'.symm
   | some z=>
    rw [e2]at h';cases z with
    | no=>exact .inl h'.symm
    | own ds=>exact .inl h'.symm
    | nest rows=>exact .inl h'.symm
    | val d=>exact .inr ⟨d,j,h'.symm,by omega,rfl,e2⟩
theorem RC.pull{K:PySem.W.Frag}{H0 H:Hp}{σ:St}{γ:Ctx}{own:List Str}{fr:List (Str×Nat)}(r:RC K H0 H σ γ):RC K H0 H (L2.pull own fr σ) (zT own.length (fr.map (·.2)) γ):=by
 refine⟨r.sub,by simp [L2.pull,zT],λi d h=>?_,λi ds h=>?_,λi j a ds es h _ _ _=>?_,NestOk.nil0 λi rows h=>?_⟩
 ·rcases qf h with z | ⟨d',j,z,hi,I,O⟩
  ·cases z
  ·cases z
   obtain⟨v,h1,h2⟩:=r.val j d O;refine⟨v,?_,h2⟩;rw [zja]at I;cases q:fr[i - own.length]? with
   | none=>rw [q]at I;cases I
   | some p=>
    rw [q]at I;have S:p.2=j:=by simpa using I
    unfold L2.pull;rw [ziW (by simpa using hi),zja,ziD,q];simp [S,h1]
 ·rcases qf h with z | ⟨d',j,z,_⟩<;>cases z
 ·rcases qf h with z | ⟨d',j,z,_⟩<;>cases z
 ·rcases qf h with z | ⟨d',j,z,_⟩<;>cases z
theorem RC.weak{K:PySem.W.Frag}{H0 H:Hp}{σ:St}{γ γ':Ctx}(r:RC K H0 H σ γ)(I:γ'.length=γ.length)(O : ∀(i:Nat) d,γ'[i]? = some (.val d)->γ[i]? = some (.val d))(z : ∀(i:Nat) ds,γ'[i]? ≠ some (.own ds))(S : ∀(i:Nat) rows,γ'[i]? ≠ some (.nest rows)):RC K H0 H σ γ':=
 ⟨r.sub,by rw [I];exact r.len,λi d h=>r.val i d (O i d h),λi ds h=>absurd h (z i ds),λi j a ds es h _ _ _=>absurd h (z i ds),NestOk.nil0 S⟩
theorem RC.upd{K:PySem.W.Frag}{H0 H:Hp}{σ:St}{γ:Ctx}{D:Addr}{o:HO}(r:RC K H0 H σ γ)(O:H0 D=none)(I : ∀(i:Nat) ds,γ[i]? ≠ some (.own ds))(S : ∀(i:Nat) rows,γ[i]? ≠ some (.nest rows)):RC K H0 (upd H D o) σ γ:=
 ⟨λb u q=>by rw [zG (λz=>by rw [z,O]at q;cases q)];exact r.sub b u q,r.len,r.val,λi ds h=>absurd h (I i ds),λi j a ds es h _ _ _=>absurd h (I i ds),NestOk.nil0 S⟩
theorem vG : ∀{is:List Nat} {ds:List D} {γ:Ctx},(qx is ds γ).length=γ.length
 | [],ds,γ=>by cases ds<;>rfl
 | i::is,[],γ=>rfl
 | i::is,d::ds,γ=>by show(qx is ds (γ.set i (.val d))).length=_;rw [vG];simp
theorem vH : ∀{is:List Nat} {ds:List D} {γ:Ctx} {i:Nat},i∉is->(qx is ds γ)[i]? = γ[i]?
 | [],ds,γ,i,_=>by cases ds<;>rfl
 | j::is,[],γ,i,_=>rfl
 | j::is,d::ds,γ,i,h=>by
  show(qx is ds (γ.set j (.val d)))[i]? = _;rw [vH (λz=>h (ziu _ z)),zis (λz=>h (by rw [<- z];exact ziv))]
theorem Qn{T:Tg}{d:D}{γ I:Ctx}(h:qB T d γ=some I):I.length=γ.length/\∀i,i∉T.idx->I[i]? = γ[i]? :=by
 cases T with
 | nm j=>cases h;exact⟨by simp,λi hi=>zis (λz=>hi (by simp [Tg.idx,z]))⟩
 | tp is=>
  cases d with
  | tup ds=>
   simp only [qB]at h;by_cases O:ds.length=is.length
   ·rw [if_pos O]at h;cases h;exact⟨vG,λi hi=>vH hi⟩
   ·rw [if_neg O]at h;cases h
  | _=>simp [qB]at h
section
variable{K:PySem.W.Frag}{own:List Str}{fr:List (Str×Nat)}{src:CO (List D)}{T:Tg}{k:CO Bool}{f:CO D}
theorem yb(hT : ∀i∈T.idx,i<own.length){tt:TT}(aw : ∀σ H Q,tT K k σ H Q->tt σ H Q) : ∀σ H Q,tO K (zE src T own.length (fr.map (·.2)) k f) σ H Q->YG (tIc K src) own fr (gOf K T) tt (tV K f) σ H Q:=λσ H Q hZ=>by
 obtain⟨H0,γ,ds,rc,S,q⟩:=hZ;obtain⟨items,e1,S⟩:=bind_some S;by_cases hl:items.length<=lim
 ·rw [if_pos hl]at S
  refine⟨H0,γ,items,rc,e1,λJ H1 a5 x1 wk D Z=>?_⟩;have a7 : ∀(i:Nat) es,(zT own.length (fr.map (·.2)) γ)[i]? ≠ some (.own es):=λi es h=>by rcases qf h with z | ⟨d',j,z,_⟩<;>cases z
  have a8 : ∀(i:Nat) rows,(zT own.length (fr.map (·.2)) γ)[i]? ≠ some (.nest rows):=λi es h=>by rcases qf h with z | ⟨d',j,z,_⟩<;>cases z
  have ah:a5 D=none:=jm x1.sub Z;have ay:H D=none:=by
   cases z:H D with
   | none=>rfl
   | some o=>rw [x1.s1 D o z]at Z;cases Z
  refine⟨λi m ys σ' H'=>m=items.length - i/\i<=items.length/\ys.length<=i/\H' D=some (.lst ys)/\∃H0' a0 a2,RC K H0' H' σ' (zT own.length (fr.map (·.2)) γ)/\H0' D=none/\Ext a5 H1 H0' H'/\Reps K H0' a0 ys/\zO T k f (zT own.length (fr.map (·.2)) γ) (items.drop i)=some a2/\ds=a0++a2,
   ⟨_,rfl,zjj _,zim _,zL,a5,[],ds,((rc.ext x1).pull).upd ah a7 a8,ah,Ext.hide x1.sub Z _,Reps.nil,S,rfl⟩,?_⟩
  rintro i m ys σ' H' ⟨rfl,hi,hy,a3,H0',a0,a2,a9,aj,U,r',I,rfl⟩;refine⟨a3,?_⟩;by_cases Y:i<items.length
  ·refine .inr ⟨wk.go i H' U.s1 Y,?_,λx aa y=>?_⟩
   ·have:=xI (zim lim);omega
   obtain⟨d,hd,hx⟩:=wk.yld i H' x aa U.s1 Y y;obtain⟨G0,O,rg⟩:=hx H0' U.s0 a9.sub;have b0:items.drop i=d::items.drop (i+1):=by
    have b5:d=items[i]:=by rw [zih Y]at hd;exact(zji hd).symm
    rw [b5];exact zku Y
   rw [b0]at I;simp only [zO]at I;obtain⟨γ1,eb,I⟩:=bind_some I;obtain⟨b,ek,I⟩:=bind_some I;have b7:G0 D=none:=O.new D aj (by rw [a3];simp);have al:aa D=some (.lst ys):=O.s1 _ _ a3;obtain⟨bl,bg⟩:=Qn eb;have am : ∀{σ2:St} {G2 H2:Hp},RC K G2 H2 σ2 γ1->RC K G2 H2 σ2 (zT own.length (fr.map (·.2)) γ):=λr=>r.weak bl.symm (λj d' hj=>by
    by_cases hm:j∈T.idx
    ·rcases qf hj with z | ⟨d2,j2,_,hn,_⟩
     ·cases z
     ·exact absurd (hT j hm) ⋯
    ·rw [bg j hm];exact hj) a7 a8
   refine yh O.sub rg eb λσ1 aq _=>aw σ1 aa _ ⟨G0,γ1,b,aq (a9.ext O),ek,λH3 ac x3=>?_⟩;have ad:=(aq (a9.ext O)).ext x3;have xa:=U.trans (O.trans x3);have as:ac D=none:=x3.new D b7 (by rw [al];simp);have ae:H3 D=some (.lst ys):=x3.s1 _ _ al;cases b with
   | true=>
    dsimp only;rw [if_pos rfl]at I ⊢;obtain⟨e,ee,I⟩:=bind_some I;obtain⟨rest,er,I⟩:=zy I;refine⟨ac,γ1,e,ad,ee,λv H4 au x4 r4=>?_⟩;have af:au D=none:=x4.new D as (by rw [ae];simp);have be:H4 D=some (.lst ys):=x4.s1 _ _ ae;have xb:=xa.trans x4;refine⟨be,items.length - (i+1),by omega,rfl,Y,by rw [zjo,zkk];omega,zL,au,a0++[e],rest,(am (ad.ext x4)).upd af a7 a8,af,?_,(r'.mono ((O.trans (x3.trans x4)).s0)).append (Reps.cons r4 Reps.nil),er,?_⟩
    ·exact⟨xb.s0,λc o z=>by rw [zG (λw=>by rw [w,Z]at z;cases z)];exact xb.s1 c o z,λc o z=>by rw [zG (λw=>by rw [w,af]at z;cases z)];exact xb.sub c o z,xb.new⟩
    ·rw [<- I];simp
   | false=>
    dsimp only;rw [if_neg ziR]at I ⊢;exact⟨items.length - (i+1),by omega,rfl,Y,by omega,ae,ac,a0,a2,am ad,as,xa,r'.mono ((O.trans x3).s0),I,rfl⟩
  ·have e:i=items.length:=by omega
   subst e;rw [zl8]at I;cases I;rw [zkD]at q;exact .inl ⟨wk.stop H' U.s1,q D ys H' H0' (x1.trans U) ay aj a3 r'⟩
 ·rw [if_neg hl]at S;cases S
end
section
variable{X:Cx}{scope:Scope}{own:List Str}{fr:List (Str×Nat)}{elt tg iter c:Expr}{pos:Pos}{src:CO (List D)}{T:Tg}{k:CO Bool}{f:CO D}
theorem jk(z:X.calm=true)(ok:CompOk X scope fr)(I : ∀i∈T.idx,i<own.length)(hi:PIC X tg iter src)(O : ∀fp s2 H2,PG (jp X scope (own++fr.map (·.1)) fp s2 H2) tg (gOf X.K T))
 (S : ∀fp s2 H2,PV (jp X scope (own++fr.map (·.1)) fp s2 H2) elt f) (U : ∀x,foldedSetIterable iter X.env x=pure x:=by intro _;rfl) :
 PO X (.ListComp elt [⟨tg,iter,[],0⟩] scope pos) (zE src T own.length (fr.map (·.2)) zV f):=
 j3 (QT z ok hi O (λ_ _ _=>ZP) S U) (yb I λσ H Q ⟨H0,γ,b,rc,Y,q⟩=>by cases Y;exact q H H0 (Ext.refl rc.sub))
theorem xo(z:X.calm=true)(ok:CompOk X scope fr)(I : ∀i∈T.idx,i<own.length)(hi:PIC X tg iter src)(O : ∀fp s2 H2,PG (jp X scope (own++fr.map (·.1)) fp s2 H2) tg (gOf X.K T))
 (S : ∀fp s2 H2,PTD (jp X scope (own++fr.map (·.1)) fp s2 H2) c k) (U : ∀fp s2 H2,PV (jp X scope (own++fr.map (·.1)) fp s2 H2) elt f) (Y : ∀x,foldedSetIterable iter X.env x=pure x:=by intro _;rfl) :
 PO X (.ListComp elt [⟨tg,iter,[c],0⟩] scope pos) (zE src T own.length (fr.map (·.2)) k f):=
 j3 (QT z ok hi O (λfp s2 H2=>XS (S fp s2 H2)) U Y) (yb I λσ H Q h=>h)
theorem zaq{y:Str}{z I:Pos}{i:Nat}(O:X.N.Nodup)(S:X.N[i]? = some y)(U:Loc X.env.scope y)(Y:X.fn y=true\/X.env.scope.names.lookup y=some .local)
 (Z:X.calm=true) (ok:CompOk X scope fr) (hT : ∀i∈T.idx,i<own.length) (hi:PIC X tg iter src) (hg : ∀fp s2 H2,PG (jp X scope (own++fr.map (·.1)) fp s2 H2) tg (gOf X.K T))
 (he : ∀fp s2 H2,PV (jp X scope (own++fr.map (·.1)) fp s2 H2) elt f) (hs : ∀x,foldedSetIterable iter X.env x=pure x:=by intro _;rfl) :
 PS X (.Assign [.Name y z] (.ListComp elt [⟨tg,iter,[],0⟩] scope pos) I) (YH (tO X.K (zE src T own.length (fr.map (·.2)) zV f)) (ya i)):=
 xF (yw O S U Y Z ok hi hg (λ_ _ _=>ZP) he hs) λD σ H h=>yb hT (λσ H Q hZ=>by obtain⟨H0,γ,b,rc,ef,q⟩:=hZ;cases ef;exact q H H0 (Ext.refl rc.sub)) σ H _ h
theorem KU{y:Str}{z I:Pos}{i:Nat}(O:X.N.Nodup)(S:X.N[i]? = some y)(U:Loc X.env.scope y)(Y:X.fn y=true\/X.env.scope.names.lookup y=some .local)
 (Z:X.calm=true) (ok:CompOk X scope fr) (hT : ∀i∈T.idx,i<own.length) (hi:PIC X tg iter src) (hg : ∀fp s2 H2,PG (jp X scope (own++fr.map (·.1)) fp s2 H2) tg (gOf X.K T))
 (hk : ∀fp s2 H2,PTD (jp X scope (own++fr.map (·.1)) fp s2 H2) c k) (he : ∀fp s2 H2,PV (jp X scope (own++fr.map (·.1)) fp s2 H2) elt f) (hs : ∀x,foldedSetIterable iter X.env x=pure x:=by intro _;rfl) :
 PS X (.Assign [.Name y z] (.ListComp elt [⟨tg,iter,[c],0⟩] scope pos) I) (YH (tO X.K (zE src T own.length (fr.map (·.2)) k f)) (ya i)):=
 xF (yw O S U Y Z ok hi hg (λfp s2 H2=>XS (hk fp s2 H2)) he hs) λD σ H h=>yb hT (λσ H Q h=>h) σ H _ h
end
theorem ji{K:PySem.W.Frag}{H:Hp}{i:Int}{v:V}(h:Rep K H (.int i) v):v = .int i:=h
theorem W1{K:PySem.W.Frag}{g:Int->Int->D}{z:Int->Int->V}(O : ∀H i j,Rep K H (g i j) (z i j)):Snd K (rI0 z) (dI g):=λH0 H x y dx S d Q s U Y I q=>by
 cases dx<;>cases S<;>simp [dI]at I;subst I;exact⟨_,_,ji U,ji Y,q _ H H0 (Ext.refl s) (O H0 _ _)⟩
theorem YN{K:PySem.W.Frag}{C:Int->Int->Prop}{c:Int->Int->Bool}{g:Int->Int->D}{z:Int->Int->V}(O : ∀i j,c i j=true->C i j)(S : ∀H i j,Rep K H (g i j) (z i j)):Snd K (rI C z) (dIc c g):=λH0 H x y dx U d Q s Y Z I q=>by
 cases dx<;>cases U<;>simp [dIc]at I;obtain⟨e1,e2⟩:=I;subst e2;exact⟨_,_,ji Y,ji Z,O _ _ e1,q _ H H0 (Ext.refl s) (S H0 _ _)⟩
theorem zca{K:PySem.W.Frag}:Snd K (rI0 λi j=> .int (i - j)) wo:=W1 λ_ _ _=>rfl
theorem zbg{i j:Int}(h:wB i j=true):CMul i j:=by
 unfold wB at h;rw [zjF,decide_eq_true_eq,decide_eq_true_eq]at h;unfold CMul;omega
theorem zcg{K:PySem.W.Frag}:Snd K (rI zhL λi j=> .int (i/j)) kB:=YN (λi j h=>by
 unfold zfl at h;rw [Bool.and_eq_true,decide_eq_true_eq,decide_eq_true_eq]at h;exact⟨h.1,by omega⟩) λ_ _ _=>rfl
theorem zce{K:PySem.W.Frag}:Snd K (rI (λ_ j=>0<j) λi j=> .int (i%j)) jW:=YN (λi j h=>by
 unfold zfk at h;exact of_decide_eq_true h) λ_ _ _=>rfl
theorem zcb{K:PySem.W.Frag}:Snd K (rI zhK λi j=> .int (i ^ j.toNat)) zdg:=YN (λi j h=>by
 unfold zfj at h;rw [Bool.and_eq_true,Bool.and_eq_true,decide_eq_true_eq,decide_eq_true_eq,decide_eq_true_eq]at h;exact⟨h.1.1,by omega,h.2⟩) λ_ _ _=>rfl
theorem YM{K:PySem.W.Frag}:Snd K (rI0 λi j=> .bl (decide (i<j))) dLt:=W1 λ_ _ _=>rfl
theorem wX{K:PySem.W.Frag}:Snd K (rI0 λi j=> .bl (decide (i<=j))) dLe:=W1 λ_ _ _=>rfl
theorem zdS{K:PySem.W.Frag}:Snd K (rI0 λi j=> .bl (decide (j<i))) dGt:=W1 λ_ _ _=>rfl
section
variable{X:Cx}
def zbD(K:PySem.W.Frag):R2:=λx y H Q=>∃a b xs ys,x = .ref a/\y = .ref b/\SqT K H a xs/\SqT K H b ys/\xs.length+ys.length<=sizeLine/\
 (xs=[]->Q (.ref b) H)/\(ys=[]->Q (.ref a) H)/\∀p,H p=none->Q (.ref p) (upd H p (.tup (xs++ys)))
theorem zaE:OpR X (binaryOp .Add) (zbD X.K):=by
 intro pins s σ H x y v u Q I rx ry h;obtain⟨a,b,xs,ys,rfl,rfl,ha,hb,U,q0,q1,q2⟩:=h;cases rx;cases ry;obtain⟨O,r,Y,z1⟩:=I.tuple ha;obtain⟨ab,r2,Z,z2⟩:=I.tuple hb;by_cases S:xs=[]
 ·have e1:O=[]:=(r.nil_iff).mpr S
  obtain⟨⟨cls,dd,data,sl⟩,ho,hc,n,hd⟩:=id Y;obtain⟨⟨ai,ad,data2,ae⟩,a2,a3,n2,a4⟩:=id Z;simp only at hc hd a3 a4;subst hc hd a3 a4;exact zmg ⟨_,ho,rfl⟩ ⟨_,a2,rfl⟩ zmi seq_tuple_add zlg zld (zk4 _ _)
   (tuple_addW0 a b O.toArray ab.toArray n n2 dd ad sl ae (by simp [e1])) ⟨ho,a2,⟨.ref b,H,I,rfl,q0 S⟩⟩
 ·have e1:O ≠ []:=λz=>S ((r.nil_iff).mp z)
  refine HT.cat_tup Y Z e1 (λz=>⟨.ref a,H,I,rfl,q1 ((r2.nil_iff).mp z)⟩) (λ_=>?_) (by rw [<- r.length,<- r2.length];exact U);refine⟨.ref s.heap.objs.size,_,I.laid (t':=s.toks) (o:= .tup (xs++ys)) (λc ob q=>zif _ q) (zim _) ?_,rfl,q2 _ (I.hok.fresh (zim _))⟩;exact⟨by rw [zjo];exact U,_,r.append r2,IsTupD.new _ _⟩
def zd8(K:PySem.W.Frag):R2:=λx y H Q=>∃l b xs zs,x = .ref l/\y = .ref b/\SqL K H l xs/\SqL K H b zs/\xs.length+zs.length<=sizeLine/\∀p,H p=none->Q (.ref p) (upd H p (.lst (xs++zs)))
theorem zaF:OpR X (binaryOp .Add) (zd8 X.K):=by
 intro pins s σ H x y v u Q I rx ry h;obtain⟨l,b,xs,zs,rfl,rfl,hH,hB,hz,q⟩:=h;cases rx;cases ry;obtain⟨z,r,⟨o,n,e,S,U,Y⟩,z1⟩:=I.list hH;obtain⟨O,r2,⟨o2,n2,Z,d1,d2,d3⟩,z2⟩:=I.list hB;have l1:=r.length;have l2:=r2.length;obtain⟨cls,af,dt,sl⟩:=o;obtain⟨ah,ai,aj,a9⟩:=o2;simp only at S U Y d1 d2 d3;subst S U Y d1 d2 d3;have aa:EP X pins σ Q (.ref s.heap.objs.size) {s with heap:=s.heap.push {cls:= .type "list",data:= .seq (z++O).toArray}}:=
  ⟨.ref _,_,I.lnew (t':=s.toks) (r.append r2) (by rw [zjo];omega),rfl,q _ I.fresh⟩
 have ea:z.toArray++O.toArray=(z++O).toArray:=by simp
 refine zmg ⟨_,e,rfl⟩ ⟨_,Z,rfl⟩ noFill_list_add seq_list_add PySem.F.slot_list_add PySem.F.entry_list_add (PySem.F.args_list_add_2 _ _)
  (list_addW l b z.toArray O.toArray n n2 none none sl a9 (by rw [zir,zir];omega)) ⟨e,Z,?_⟩
 rw [ea];exact aa
end
def kU(scope sc:Scope):Scope:={scope with names:=scope.names.map λp=>if p.2==NameKind.free && sc.kind == .function && sc.names.lookup p.1==some .cell then (p.1,zj3)else (p.1,p.2)}
theorem KN(scope:Scope)(env:Env):relabel scope env=kU scope env.scope:=by
 unfold relabel kU;rfl
structure SX(X:Cx)(sc:Scope)(N T:List Str)(k:Nat):Prop where
 esc:X.env.scope=sc
 eN:X.N=N
 nd:N.Nodup
 calm:X.calm=true
 room:Room k X.A
 fn : ∀x∈T,X.fn x=true\/sc.names.lookup x=some .local
def QB(sc:Scope)(N:List Str)(i:Nat)(x:Str):Bool:=
 decide (N[i]? = some x) && (decide (sc.names.lookup x=some .local) || decide (sc.names.lookup x=some .cell) || decide (sc.names.lookup x=some .free)) && !(x==("__debug__" : Str)) && !(x==("__classdict__" : Str))
def QE(sc:Scope)(N T:List Str)(i:Nat)(x:Str):Bool:=decide (x∈T) && decide (N[i]? = some x) && (decide (sc.names.lookup x=some .local) || decide (sc.names.lookup x=some .cell))
def kx(sc:Scope)(x:Str):Bool:=decide (sc.names.lookup x=some .globalImplicit) && !(x==("__name__" : Str)) && !(x==("__debug__" : Str))
section
variable{X:Cx}{sc:Scope}{N T:List Str}{k:Nat}{i:Nat}{x:Str}{pos:Pos}
theorem SX.var(h:SX X sc N T k)(c:QB sc N i x=true):PE X (.Name x pos) (zdz i):=by
 unfold QB at c;simp only [Bool.and_eq_true,zjF,decide_eq_true_eq,zj7]at c;obtain⟨⟨⟨h1,h2⟩,z⟩,I⟩:=c;refine zev (by rw [h.eN];exact h1) ?_ z I;unfold Vis;rw [h.esc];rcases h2 with(h2 | h2) | h2
 ·exact .inl h2
 ·exact .inr (.inl h2)
 ·exact .inr (.inr h2)
theorem SX.loc(h:SX X sc N T k)(c:QE sc N T i x=true):X.N[i]? = some x/\L2.Loc X.env.scope x/\(X.fn x=true\/X.env.scope.names.lookup x=some .local):=by
 unfold QE at c;simp only [Bool.and_eq_true,zjF,decide_eq_true_eq]at c;refine⟨by rw [h.eN];exact c.1.2,?_,?_⟩
 ·unfold L2.Loc;rw [h.esc];exact c.2
 ·rw [h.esc];exact h.fn x c.1.1
theorem SX.ndX(h:SX X sc N T k):X.N.Nodup:=by rw [h.eN];exact h.nd
theorem SX.tgt(h:SX X sc N T k)(i:Nat)(c:QE sc N T i x=true):PG X (.Name x pos) (ya i):=by
 obtain⟨h1,h2,z⟩:=h.loc c;exact Vf h.ndX h1 h2 z
theorem SX.tgts(h:SX X sc N T k){es:List Expr}{is:List Nat}{j:Nat}(g:PGs X es (gs is))(hn:(assignEach es X.env).length=is.length:=by rfl)(z:(assignEach es X.env).findIdx? (·.1)=none:=by rfl):PG X (.Tuple es j pos) (gOf X.K (.tp is)):=
 zeu h.calm g hn z
theorem SX.set(h:SX X sc N T k)(i:Nat){e:Expr}{te:TE}{pos':Pos}(c:QE sc N T i x=true)(z:PE X e te)(I:swapsWith e (some (.Name x pos')) pos.line X.env=pure false:=by rfl):PS X (.Assign [.Name x pos'] e pos) (YH te (ya i)):=by
 obtain⟨h1,h2,O⟩:=h.loc c;exact zem h.ndX h1 h2 z I O
theorem SX.gl(h:SX X sc N T k)(c:kx sc x=true):Gl X x/\x ≠ "__name__"/\(x==("__debug__" : Str))=false:=by
 unfold kx at c;simp only [Bool.and_eq_true,decide_eq_true_eq,zj7]at c;refine⟨?_,?_,c.2⟩
 ·show X.env.scope.names.lookup x=_
  rw [h.esc];exact c.1.1
 ·intro e;rw [e]at c;simp at c
def Wf(sc scope:Scope)(N:List Str)(fr:List (Str×Nat)):Bool:=
 decide (scope.kind = .function) && decide ((scope.names.map (·.1)).Nodup) && scope.names.all (λp=> !(p.2==NameKind.free) || decide (sc.names.lookup p.1=some .cell) || decide (sc.names.lookup p.1=some .free)) &&
 fr.all λp=>decide (scope.names.lookup p.1=some .free) && decide (N[p.2]? = some p.1)
def zhg(own:List Str)(scope:Scope)(fr:List (Str×Nat)):Bool:=decide ((own++fr.map (·.1)).Nodup) && own.all (λx=>decide (scope.names.lookup x=some .local) || decide (scope.names.lookup x=some .cell))
theorem SX.compOk(h:SX X sc N T k){scope:Scope}{fr:List (Str×Nat)}(c:Wf sc scope N fr=true):CompOk X scope fr:=by
 unfold Wf at c;simp only [Bool.and_eq_true,decide_eq_true_eq,zjG,zjF,zj7]at c;obtain⟨⟨⟨O,S⟩,U⟩,I⟩:=c;refine⟨O,S,λp z Y=>?_,λp z=>⟨(I p z).1,by rw [h.eN];exact(I p z).2⟩⟩;have e:X.env.kindOf p.1=sc.names.lookup p.1:=by show X.env.scope.names.lookup p.1=_;rw [h.esc]
 rw [e];rcases U p z with(q | q) | q
 ·rw [Y]at q;exact absurd q ⋯
 ·exact .inl q
 ·exact .inr q
theorem vT(scope sc:Scope)(x:Str):(kU scope sc).names.lookup x=(scope.names.lookup x).map λk=>if (k==NameKind.free && sc.kind == .function && sc.names.lookup x==some .cell)then zj3 else k:=by
 unfold kU;dsimp only;generalize scope.names=l
 induction l with
 | nil=>rfl
 | cons p r I=>
  obtain⟨n,O⟩:=p;rw [ziK];cases hx:x==n with
  | true=>
   have e:x=n:=by simpa using hx
   subst e;dsimp only;split
   ·rename_i z;rw [zjl,zjl,beq_self_eq_true];dsimp only [zlR];rw [if_pos z]
   ·rename_i z;rw [zjl,zjl,beq_self_eq_true];dsimp only [zlR];rw [if_neg z]
  | false=>
   dsimp only;split
   ·rw [zjl,zjl,hx];exact I
   ·rw [zjl,zjl,hx];exact I
theorem SX.comp(h:SX X sc N T k){scope:Scope}{own:List Str}{fr:List (Str×Nat)}{fp:List Addr}{s2:Shared}{H2:Hp}(c:zhg own scope fr=true) :
 SX (jp X scope (own++fr.map (·.1)) fp s2 H2) (kU scope sc) (own++fr.map (·.1)) own k:=by
 unfold zhg at c;simp only [Bool.and_eq_true,decide_eq_true_eq,zjG,zjF]at c;refine⟨?_,rfl,c.1,h.calm,h.room,λx hx=>?_⟩
 ·show relabel scope X.env=_
  rw [KN,h.esc]
 ·rcases c.2 x hx with q | q
  ·right;rw [vT,q];rfl
  ·left
   show(scope.names.lookup x==some .cell)=true;rw [q];rfl
theorem SX.cq(h:SX X sc N T k){scope:Scope}(own:List Str)(fr:List (Str×Nat))(fp:List Addr)(s2:Shared)(H2:Hp)(c:zhg own scope fr=true) :
 SX (jp X scope (own++fr.map (·.1)) fp s2 H2) (kU scope sc) (own++fr.map (·.1)) own k:=h.comp c
end
mutual
def toP:D->PyData
 | .non=> .none
 | .bl b=> .bool b
 | .int i=> .int i
 | .str x=> .str x
 | .tup ds=> .tuple (toPs ds)
 | .lst ds=> .list (toPs ds)
 | .exc _ _=> .none
 | .dic _ _=> .none
def toPs:List D->List PyData
 | []=>[]
 | d::ds=>toP d::toPs ds
end
theorem okS_exc{c:Str}{n:Option Int}(h:okS (.exc c n)=true):False:=by simp [okS]at h
theorem okS_dic{ks vs:List D}(h:okS (.dic ks vs)=true):False:=by simp [okS]at h
mutual
theorem eqv_toP : ∀x y:D,okS x=true->okS y=true->PyData.eqv (toP x) (toP y)=eqD x y
 | .non,y,_,h=>by cases y<;>first | exact(okS_exc h).elim | exact(okS_dic h).elim | simp [toP,PyData.eqv,eqD]
 | .bl a,y,_,h=>by cases y<;>first | exact(okS_exc h).elim | exact(okS_dic h).elim | simp [toP,PyData.eqv,eqD]
 | .int a,y,_,h=>by cases y<;>first | exact(okS_exc h).elim | exact(okS_dic h).elim | simp [toP,PyData.eqv,eqD]
 | .str a,y,_,h=>by cases y<;>first | exact(okS_exc h).elim | exact(okS_dic h).elim | simp [toP,PyData.eqv,eqD]
 | .exc c n,y,h,_=>(okS_exc h).elim
 | .dic c n,y,h,_=>(okS_dic h).elim
 | .tup xs,y,h1,h2=>by
  cases y with
  | tup ys=>simp only [okS]at h1 h2;simp only [toP,PyData.eqv,eqD];exact eqvs_toP xs ys h1 h2
  | exc c n=>exact(okS_exc h2).elim
  | dic c n=>exact(okS_dic h2).elim
  | _=>simp [toP,PyData.eqv,eqD]
 | .lst xs,y,h1,h2=>by
  cases y with
  | lst ys=>simp only [okS]at h1 h2;simp only [toP,PyData.eqv,eqD];exact eqvs_toP xs ys h1 h2
  | exc c n=>exact(okS_exc h2).elim
  | dic c n=>exact(okS_dic h2).elim
  | _=>simp [toP,PyData.eqv,eqD]
theorem eqvs_toP : ∀xs ys:List D,okSs xs=true->okSs ys=true->PyData.eqvAll (toPs xs) (toPs ys)=eqDs xs ys
 | [],ys,_,_=>by cases ys<;>simp [toPs,PyData.eqvAll,eqDs]
 | x::xs,ys,h1,h2=>by
  cases ys with
  | nil=>simp [toPs,PyData.eqvAll,eqDs]
  | cons y ys=>
   simp only [okSs,Bool.and_eq_true]at h1 h2;simp only [toPs,PyData.eqvAll,eqDs];rw [eqv_toP x y h1.1 h2.1,eqvs_toP xs ys h1.2 h2.2]
end
mutual
theorem lay_toP : ∀x:D,okS x=true->(toP x).canLay0=true
 | .non,_=>by simp [toP,PyData.canLay0]
 | .bl a,_=>by simp [toP,PyData.canLay0]
 | .int a,_=>by simp [toP,PyData.canLay0]
 | .str a,h=>by simpa [toP,PyData.canLay0,okS,PyData.strOk]using h
 | .tup xs,h=>by simp only [okS]at h;simp only [toP,PyData.canLay0];exact lays_toP xs h
 | .lst xs,h=>by simp only [okS]at h;simp only [toP,PyData.canLay0];exact lays_toP xs h
 | .exc c n,h=>(okS_exc h).elim
 | .dic c n,h=>(okS_dic h).elim
theorem lays_toP : ∀xs:List D,okSs xs=true->PyData.canLayAll0 (toPs xs)=true
 | [],_=>by simp [toPs,PyData.canLayAll0]
 | x::xs,h=>by
  simp only [okSs,Bool.and_eq_true]at h;simp only [toPs,PyData.canLayAll0];rw [lay_toP x h.1,lays_toP xs h.2];rfl
end
mutual
theorem depth_toP : ∀x:D,(toP x).depth=deep x
 | .non=>by simp [toP,PyData.depth,deep]
 | .bl a=>by simp [toP,PyData.depth,deep]
 | .int a=>by simp [toP,PyData.depth,deep]
 | .str a=>by simp [toP,PyData.depth,deep]
 | .exc c n=>by simp [toP,PyData.depth,deep]
 | .dic c n=>by simp [toP,PyData.depth,deep]
 | .tup xs=>by simp only [toP,PyData.depth,deep];rw [depths_toP xs]
 | .lst xs=>by simp only [toP,PyData.depth,deep];rw [depths_toP xs]
theorem depths_toP : ∀xs:List D,PyData.depthAll (toPs xs)=deeps xs
 | []=>by simp [toPs,PyData.depthAll,deeps]
 | x::xs=>by simp only [toPs,PyData.depthAll,deeps];rw [depth_toP x,depths_toP xs]
end
theorem x9{d:D}(h:okD d=true):okS d=true:=by
 unfold okD at h;rw [Bool.and_eq_true]at h;exact h.2
theorem kT{d:D}(h:okD d=true):SeqAt.shaped (toP d)=true:=by
 unfold okD at h;rw [Bool.and_eq_true,decide_eq_true_eq]at h;unfold SeqAt.shaped;rw [lay_toP d h.2,zkX,depth_toP];exact decide_eq_true ⋯
section
variable{X:Cx}{pins:List (Addr×Obj)}{σ:St}{H0 H:Hp}{s:Shared}
mutual
theorem reads_of(I:Inv X pins σ H s)(sub:Same H0 H) : ∀{d:D} {v:V} {u:Value},okS d=true->Rep X.K H0 d v->RelV v u->∃z,Reads s.heap u (toP d) z
 | .non,v,u,_,h,r=>by cases (show v = .non from h);cases r;exact⟨_,.none⟩
 | .bl b,v,u,_,h,r=>by cases (show v = .bl b from h);cases r;exact⟨_,.bool b⟩
 | .int i,v,u,_,h,r=>by cases (show v = .int i from h);obtain⟨t,rfl⟩:=r;exact⟨_,.int i t⟩
 | .str x,v,u,_,h,r=>by cases (show v = .str x from h);obtain⟨t,rfl⟩:=r;exact⟨_,.str x t⟩
 | .exc c n,v,u,o,_,_=>(okS_exc o).elim
 | .dic c n,v,u,o,_,_=>(okS_dic o).elim
 | .tup ds,v,u,o,h,r=>by
  obtain⟨a,xs,rfl,h1,h2⟩:=(show ∃a xs,v = .ref a/\SqT X.K H0 a xs/\Reps X.K H0 ds xs from h);cases r;simp only [okS]at o;obtain⟨Z,O,⟨ob,S,U,n,hd⟩,hz⟩:=I.tuple (sameT sub h1);obtain⟨z,Y⟩:=readsAll_of I sub o h2 O;exact⟨z,.tuple S U hd (by simpa using Y)⟩
 | .lst ds,v,u,o,h,r=>by
  obtain⟨a,xs,rfl,h1,h2⟩:=(show ∃a xs,v = .ref a/\SqL X.K H0 a xs/\Reps X.K H0 ds xs from h);cases r;simp only [okS]at o;obtain⟨Z,O,p,hz⟩:=I.list (sub.seq h1);obtain⟨ob,S,U,n,hd⟩:=p.isList;obtain⟨z,Y⟩:=readsAll_of I sub o h2 O;exact⟨_,.list S U hd (by simpa using Y)⟩
theorem readsAll_of(I:Inv X pins σ H s)(sub:Same H0 H) : ∀{ds:List D} {xs:List V} {us:List Value},okSs ds=true->Reps X.K H0 ds xs->Vals xs us->∃z,ReadsAll s.heap us (toPs ds) z
 | [],xs,us,_,h,r=>by rw [h.inv_nil]at r;cases r;exact⟨_,.nil⟩
 | d::ds,xs,us,o,h,r=>by
  obtain⟨x,t,e,h1,h2⟩:=h.inv_cons;subst e;simp only [okSs,Bool.and_eq_true]at o;cases r with
  | cons O r2=>
   obtain⟨z,S⟩:=reads_of I sub o.1 h1 O;obtain⟨bs,U⟩:=readsAll_of I sub o.2 h2 r2;exact⟨_,.cons S U⟩
end
end
def zhj(K:PySem.W.Frag):R2:=λx y H Q=>∃H0 dx z,Same H0 H/\Rep K H0 dx x/\Rep K H0 z y/\okD dx=true/\okD z=true/\Q (.bl (eqD dx z)) H
def zhi(K:PySem.W.Frag):R2:=λx y H Q=>∃H0 dx z,Same H0 H/\Rep K H0 dx x/\Rep K H0 z y/\okD dx=true/\okD z=true/\Q (.bl (!eqD dx z)) H
theorem zbL{X:Cx}(S:X.A.units+64<cLine):OpR X (compareOp .Eq) (zhj X.K):=by
 intro pins s σ H x y v u Q I U Y h;obtain⟨H0,dx,dy,sub,Z,r2,z,O,q⟩:=h;obtain⟨as,ra⟩:=reads_of I sub (x9 z) Z U;obtain⟨bs,rb⟩:=reads_of I sub (x9 O) r2 Y;exact eq_dataH ra rb (kT z) (kT O) S ⟨.bl _,H,I,by rw [eqv_toP _ _ (x9 z) (x9 O)];rfl,q⟩
theorem zeL{X:Cx}(S:X.A.units+64<cLine):OpR X (compareOp .NotEq) (zhi X.K):=by
 intro pins s σ H x y v u Q I U Y h;obtain⟨H0,dx,dy,sub,Z,r2,z,O,q⟩:=h;obtain⟨as,ra⟩:=reads_of I sub (x9 z) Z U;obtain⟨bs,rb⟩:=reads_of I sub (x9 O) r2 Y;exact ne_dataH ra rb (kT z) (kT O) S ⟨.bl _,H,I,by rw [eqv_toP _ _ (x9 z) (x9 O)];rfl,q⟩
theorem YO{K:PySem.W.Frag}:Snd K (zhj K) dEq:=λH0 H x y dx I d Q s O S z q=>by
 unfold dEq at z;split at z
 ·rename_i h;cases z;exact⟨H0,dx,I,s,O,S,h.1,h.2,q _ H H0 (Ext.refl s) rfl⟩
 ·cases z
theorem zcc{K:PySem.W.Frag}:Snd K (zhi K) dNe:=λH0 H x y dx I d Q s O S z q=>by
 unfold dNe at z;split at z
 ·rename_i h;cases z;exact⟨H0,dx,I,s,O,S,h.1,h.2,q _ H H0 (Ext.refl s) rfl⟩
 ·cases z
theorem SX.u64{X:Cx}{sc:Scope}{N T:List Str}{k:Nat}(h:SX X sc N T k):X.A.units+64<cLine:=by have:=h.room.un;omega
section
variable{X:Cx}{sc:Scope}{N T:List Str}{k:Nat}{a b c:Expr}{pos p:Pos}{fa fb fc:CO D}
theorem yP(ha:PV X a fa)(z:PV X b fb):PV X (.BinOp a .Sub b pos) (zq wo fa fb):=w6 zeI zca ha z
theorem yQ(ha:PV X a fa)(z:PV X b fb):PV X (.BinOp a .FloorDiv b pos) (zq kB fa fb):=w6 zcM zcg ha z
theorem qd(ha:PV X a fa)(z:PV X b fb):PV X (.BinOp a .Mod b pos) (zq jW fa fb):=w6 zeM zce ha z
theorem Y0(ha:PV X a fa)(z:PV X b fb):PV X (.BinOp a .Pow b pos) (zq zdg fa fb):=w6 zeK zcb ha z
theorem JJ(h:SX X sc N T k)(ha:PV X a fa)(z:PV X b fb):PV X (.Compare a [.Eq] [b] pos) (zq dEq fa fb):=zeg (zbL h.u64) YO ha z (JT b)
theorem XR(ha:PV X a fa)(z:PV X b fb):PTD X (.Compare a [.Gt] [b] pos) (sB (zq dGt fa fb)):=ZK zgu zdS ha z (JT b)
theorem kE(h:SX X sc N T k)(ha:PV X a fa)(z:PV X b fb):PTD X (.Compare a [.Eq] [b] pos) (sB (zq dEq fa fb)):=ZK (zbL h.u64) YO ha z (JT b)
theorem xc(h:SX X sc N T k)(ha:PV X a fa)(z:PV X b fb):PTD X (.Compare a [.NotEq] [b] pos) (sB (zq dNe fa fb)):=ZK (zeL h.u64) zcc ha z (JT b)
theorem QQ{K:PySem.W.Frag}{H:Hp}{d:D}(h:Rep K H d .non):d = .non:=by
 cases d with
 | non=>rfl
 | bl b=>exact V.noConfusion (show V.non = .bl b from h)
 | int b=>exact V.noConfusion (show V.non = .int b from h)
 | str b=>exact V.noConfusion (show V.non = .str b from h)
 | tup b=>obtain⟨a,xs,e,_⟩:=h;cases e
 | lst b=>obtain⟨a,xs,e,_⟩:=h;cases e
 | exc c n=>obtain⟨a,e,_⟩:=h;cases e
 | dic c n=>obtain⟨a,xs,e,_⟩:=h;cases e
theorem zcf{K:PySem.W.Frag}:Snd K (λx y H Q=>y = .non/\Q (.bl (decide (x = .non))) H) zdE:=λH0 H x y dx O d Q s z S I q=>by
 cases O with
 | non=>
  refine⟨S,?_⟩;cases dx with
  | non=>cases I;rw [show x=V.non from z];exact q _ H H0 (Ext.refl s) (by simp;rfl)
  | _=>
   cases I;refine q _ H H0 (Ext.refl s) ?_;have : ¬x=V.non:=λe=>by rw [e]at z;exact D.noConfusion (QQ z)
   rw [decide_eq_false this];rfl
 | _=>cases dx<;>cases I
theorem zcq(ha:PV X a fa)(z:PV X b fb):PTD X (.Compare a [.Is] [b] pos) (sB (zq zdE fa fb)):=ZK zeN zcf ha z (JT b)
theorem xA{K:PySem.W.Frag}{H:Hp}{ds:List D}{v:V}(h:Rep K H (.tup ds) v) : ∃a xs,v = .ref a/\SqT K H a xs/\Reps K H ds xs:=h
theorem Vu{K:PySem.W.Frag}{H:Hp}{ds:List D}{v:V}(h:Rep K H (.lst ds) v) : ∃a xs,v = .ref a/\SqL K H a xs/\Reps K H ds xs:=h
theorem qy{K:PySem.W.Frag}{H:Hp}{ds:List D}{a:Addr}{xs:List V}(h1:SqT K H a xs)(h2:Reps K H ds xs):Rep K H (.tup ds) (.ref a):=⟨a,xs,rfl,h1,h2⟩
theorem ZI{K:PySem.W.Frag}{H:Hp}{ds:List D}{a:Addr}{xs:List V}(h1:SqL K H a xs)(h2:Reps K H ds xs):Rep K H (.lst ds) (.ref a):=⟨a,xs,rfl,h1,h2⟩
theorem zch{K:PySem.W.Frag}:Snd K (λx y H Q=>rI0 (λi j=> .int (i+j)) x y H Q\/zbD K x y H Q) jx:=λH0 H x y dx dy d Q s S U I q=>by
 cases dx<;>cases dy<;>simp [jx]at I
 ·subst I;exact .inl ⟨_,_,ji S,ji U,q _ H H0 (Ext.refl s) rfl⟩
 ·rename_i ds es
  obtain⟨hl,rfl⟩:=I;obtain⟨a,xs,rfl,h1,h2⟩:=xA S;obtain⟨b,ys,rfl,Y,z⟩:=xA U;refine .inr ⟨a,b,xs,ys,rfl,rfl,sameT s h1,sameT s Y,xI (by rw [h2.length,z.length];exact hl),λe=>?_,λe=>?_,λp Z=>?_⟩
  ·have O:ds=[]:=by
    have:=h2.length;rw [e]at this;exact zje this.symm
   subst O;exact q _ H H0 (Ext.refl s) (qy Y z)
  ·have O:es=[]:=by
    have:=z.length;rw [e]at this;exact zje this.symm
   subst O;exact q _ H H0 (Ext.refl s) (by rw [zkD];exact qy h1 h2)
  ·exact q _ _ _ (Ext.alloc s Z _) (qy (SqT.of zL) ((h2.append z).mono (jt (jm s Z) _)))
theorem ju(ha:PV X a fa)(z:PV X b fb):PV X (.BinOp a .Add b pos) (zq jx fa fb):=w6 (op_add.or zaE) zch ha z
end
theorem Zv{P:Program}{w:World}{A:Around}(O:A.handled=none)(k:Sk)(I z:Addr)(S:z≠I)(items:Array Value) :
 Walks P w A I [I,z] [I] items.size (λi v=>items[i]? = some v) (λi h=>ItAt k h I z i/\SqAt k h z items):=by
 cases k
 ·exact Walks.list O I z S items
 ·exact Walks.tuple O I z S items
theorem vM(zs:List Int) : ∀n,preSum (λi=>zs.getD i 0) n=(zs.take n).sum
 | 0=>by simp [preSum]
 | n+1=>by
  have z:=vM zs n;simp only [preSum,z];by_cases h:n<zs.length
  ·rw [List.take_succ_eq_append_getElem h,List.sum_append]
   simp [h]
  ·rw [zkH ⋯,zkH ⋯]
   simp [h]
section
variable{X:Cx}{pins:List (Addr×Obj)}{σ:St}{H:Hp}{s:Shared}
theorem Wj(hc:X.calm=true):vb X (.builtin "sum") (λxs H Q=>∃p k ys zs,xs=[.ref p]/\SqK k X.K H p ys/\ys=(zs:List Int).map V.int/\Q (.int zs.sum) H):=by
 intro pins s σ H vs us Q I rv h;obtain⟨p,k,ys,zs,rfl,hq,rfl,q⟩:=h;obtain⟨u,rfl,O⟩:=xR rv;cases O;obtain⟨z,r,S,hz⟩:=I.sq hq;have lt:=S.lt;have U:=r.length;rw [ziD]at U;refine call_sum_walkG (yS S ⟨_,[_,p],[_],z.toArray.size,_,_,λi=>zs.getD i 0,rfl,Zv (A:=X.A.in1) (I.ok.hd hc) k _ p (ziI lt) z.toArray,⟨k8 k _ p,S.at λo e=>zif _ e⟩,?_,?_,?_⟩)
 ·intro b Y
  rw [ziP];simp only [ziq,ziH,or_false]at Y;rcases Y with rfl | rfl
  ·exact zjM _
  ·exact zjb lt
 ·intro i v hv
  have Z:z[i]? = some v:=by simpa using hv
  have hi:i<zs.length:=by rw [U];exact(zit.mp Z).1
  obtain⟨u,e1,O⟩:=r.get (i:=i) (x:= .int zs[i]) (by simp [hi]);rw [Z]at e1;cases e1;obtain⟨t,rfl⟩:=O;exact⟨t,by simp [hi]⟩
 ·intro h' tk t' hk
  have e:preSum (λi=>zs.getD i 0) z.toArray.size=zs.sum:=by
   rw [vM,zkH (by rw [zir,U];exact zim _)]
  refine⟨.int zs.sum,H,I.kept (t':=tk) (λb u e=>hk b u ?_ (zif _ e)),⟨t',by rw [e]⟩,q⟩;simp only [ziq,ziH,or_false];exact ziI (ziw e)
def zdL:V->Option Bool
 | .non=>some false
 | .bl b=>some b
 | .int i=>some (i != 0)
 | _=>none
theorem Xz{P:Program}{w:World}{A:Around}{E:Value->Shared->Prop}{s:Shared}{Q:Bool->Shared->Prop}{x:V}{u:Value}{b:Bool}(r:RelV x u)(e:zdL x=some b)(q:Q b s):wpAny (model P w) A (truthy u) Q E s:=by
 cases x with
 | non=>cases r;cases e;exact λ_ _ _=>q
 | bl c=>cases r;cases e;exact zjp q
 | int i=>obtain⟨t,rfl⟩:=r;cases e;exact PyProof.Rows.truthy_int q
 | _=>cases e
def Kx:List V->Option (List Bool)
 | []=>some []
 | x::r=>(zdL x).bind λb=>(Kx r).map λl=>b::l
theorem vz : ∀{xs:List V} {bs:List Bool},Kx xs=some bs->bs.length=xs.length/\∀(i:Nat) x,xs[i]? = some x->zdL x=some (bs.getD i false)
 | [],bs,h=>by cases h;exact⟨rfl,λi x e=>by simp at e⟩
 | y::xs,bs,h=>by
  obtain⟨b,e1,h⟩:=bind_some h;obtain⟨l,z,h⟩:=zy h;subst h;obtain⟨h1,h2⟩:=vz z;refine⟨by simp [h1],λi x e=>?_⟩;cases i with
  | zero=>simp at e;subst e;simpa using e1
  | succ i=>simpa using h2 i x (by simpa using e)
theorem Wz(bs:List Bool):(zie bs.length).all (λi=>bs.getD i false)=bs.all id:=by
 rw [zlx];simp only [zjG,zig,id_eq];constructor
 ·intro h b z
  obtain⟨i,hi,e⟩:=List.mem_iff_getElem.mp z;have:=h i hi;rw [zil,zih hi]at this;rw [<- e];exact this
 ·intro h i hi
  rw [zil,zih hi];exact h _ (zka hi)
theorem Wx(bs:List Bool):(zie bs.length).any (λi=>bs.getD i false)=bs.any id:=by
 rw [zlx];simp only [zl9,zig,id_eq];constructor
 ·rintro⟨i,hi,h⟩
  rw [zil,zih hi]at h;exact⟨_,zka hi,h⟩
 ·rintro⟨b,z,h⟩
  obtain⟨i,hi,e⟩:=List.mem_iff_getElem.mp z;refine⟨i,hi,?_⟩;rw [zil,zih hi,Option.getD_some,e];exact h
theorem Wn(Z:X.calm=true):vb X (.builtin "all") (λxs H Q=>∃p k ys bs,xs=[.ref p]/\SqK k X.K H p ys/\Kx ys=some bs/\Q (.bl (bs.all id)) H):=by
 intro pins s σ H vs us Q I rv h;obtain⟨p,k,ys,bs,rfl,hq,ht,q⟩:=h;obtain⟨u,rfl,O⟩:=xR rv;cases O;obtain⟨z,r,S,hz⟩:=I.sq hq;have lt:=S.lt;have U:=r.length;obtain⟨a3,a4⟩:=vz ht;refine call_all_walk (yS S ⟨_,[_,p],[_],z.toArray.size,_,_,λi=>bs.getD i false,rfl,Zv (A:=X.A.in1) (I.ok.hd Z) k _ p (ziI lt) z.toArray,⟨k8 k _ p,S.at λo e=>zif _ e⟩,?_,?_⟩)
 ·intro i v s' Q' E' hv hQ
  have Y:z[i]? = some v:=by simpa using hv
  have hi:i<ys.length:=by rw [U];exact(zit.mp Y).1
  obtain⟨u,e1,O⟩:=r.get (i:=i) (x:=ys[i]) (by simp [hi]);rw [Y]at e1;cases e1;exact Xz O (a4 i ys[i] (by simp [hi])) hQ
 ·intro h' tk hk
  have e:(zie z.toArray.size).all (λi=>bs.getD i false)=bs.all id:=by
   rw [zir,<- U,<- a3];exact Wz bs
  refine⟨.bl (bs.all id),H,I.kept (t':=tk) (λb u e=>hk b u ?_ (zif _ e)),by rw [e];rfl,q⟩;simp only [ziq,ziH,or_false];exact ziI (ziw e)
theorem Wm(Z:X.calm=true):vb X (.builtin "any") (λxs H Q=>∃p k ys bs,xs=[.ref p]/\SqK k X.K H p ys/\Kx ys=some bs/\Q (.bl (bs.any id)) H):=by
 intro pins s σ H vs us Q I rv h;obtain⟨p,k,ys,bs,rfl,hq,ht,q⟩:=h;obtain⟨u,rfl,O⟩:=xR rv;cases O;obtain⟨z,r,S,hz⟩:=I.sq hq;have lt:=S.lt;have U:=r.length;obtain⟨a3,a4⟩:=vz ht;refine call_any_walk (yS S ⟨_,[_,p],[_],z.toArray.size,_,_,λi=>bs.getD i false,rfl,Zv (A:=X.A.in1) (I.ok.hd Z) k _ p (ziI lt) z.toArray,⟨k8 k _ p,S.at λo e=>zif _ e⟩,?_,?_⟩)
 ·intro i v s' Q' E' hv hQ
  have Y:z[i]? = some v:=by simpa using hv
  have hi:i<ys.length:=by rw [U];exact(zit.mp Y).1
  obtain⟨u,e1,O⟩:=r.get (i:=i) (x:=ys[i]) (by simp [hi]);rw [Y]at e1;cases e1;exact Xz O (a4 i ys[i] (by simp [hi])) hQ
 ·intro h' tk hk
  have e:(zie z.toArray.size).any (λi=>bs.getD i false)=bs.any id:=by
   rw [zir,<- U,<- a3];exact Wx bs
  refine⟨.bl (bs.any id),H,I.kept (t':=tk) (λb u e=>hk b u ?_ (zif _ e)),by rw [e];rfl,q⟩;simp only [ziq,ziH,or_false];exact ziI (ziw e)
end
section
variable{X:Cx}{sc:Scope}{N T:List Str}{k:Nat}{e a b c:Expr}{pos p p2:Pos}{f g:CO D}{fq:CO (Sk×List D)}
theorem zdR{K:PySem.W.Frag}{H:Hp}{k:Sk}{a:Addr}{xs:List V}(h:SqK k K H a xs):SqL K H a xs\/SqT K H a xs:=by
 cases k
 ·exact .inl h
 ·exact .inr h
theorem qa(h:SX X sc N T k)(c:kx sc "len" = true)(z:X.mg "len" = none)(O:PQ X e fq)(I:starEach [e] X.env=[(false,eval e X.env)]:=by rfl):PV X (.Call (.Name "len" p) [e] [] pos) (qw fq):=
 j3 (xG Qj (h.gl c).1 z PySem.boot_len (jr O qg I) ⋯ ⋯ I rfl) λσ H Q S=>by
  obtain⟨H0,γ,d,rc,U,q⟩:=S;obtain⟨⟨kk,ds⟩,e1,Y⟩:=zy U;subst Y;refine⟨H0,γ,kk,ds,rc,e1,λa xs H' H0' ext h1 h2 r=>⟨a,xs,rfl,zdR h1,?_⟩⟩;exact q _ H' H0' ext (show V.int xs.length = .int ds.length by rw [r.length])
theorem jl(h:SX X sc N T k)(c:kx sc "tuple" = true)(z:X.mg "tuple" = none)(S:PQ X e fq)(I:starEach [e] X.env=[(false,eval e X.env)]:=by rfl):PV X (.Call (.Name "tuple" p) [e] [] pos) (zF fq):=
 j3 (vO Z9 (h.gl c).1 z PyProof.Rows.boot_tuple (jr S qg I) ⋯ ⋯ I rfl) λσ H Q U=>by
  obtain⟨H0,γ,d,rc,Y,q⟩:=U;obtain⟨⟨kk,ds⟩,e1,Z⟩:=zy Y;subst Z;refine⟨H0,γ,kk,ds,rc,e1,λa xs H' H0' ext h1 h2 r=>⟨a,xs,rfl,?_⟩⟩;cases kk with
  | L=>exact .inl ⟨h1,λl O=>q _ _ _ (ext.trans (Ext.alloc ext.sub O _)) (qy (SqT.of zL) (r.mono (jt (jm ext.sub O) _)))⟩
  | T=>exact .inr ⟨h1,q _ H' H0' ext (qy (h2 rfl) r)⟩
theorem xq{H H':Hp}(s:Same H H'){a:Addr}(h:H' a=none):H a=none:=by
 cases z:H a with
 | none=>rfl
 | some o=>rw [s a o z]at h;cases h
theorem Y9(h:SX X sc N T k)(c:kx sc "list" = true)(z:X.mg "list" = none)(S:PQ X e fq)(O:starEach [e] X.env=[(false,eval e X.env)]:=by rfl):PO X (.Call (.Name "list" p) [e] [] pos) (kJ fq):=
 j3 (vO Qh (h.gl c).1 z PyProof.Rows.boot_list (jr S qg O) ⋯ ⋯ O rfl) λσ H Q U=>by
  obtain⟨H0,γ,d,rc,Y,q⟩:=U;obtain⟨⟨kk,ds⟩,e1,Z⟩:=zy Y;subst Z;refine⟨H0,γ,kk,ds,rc,e1,λa xs H' H0' ext h1 h2 r=>⟨a,xs,rfl,zdR h1,λl I=>?_⟩⟩;exact q l xs _ H0' (ext.trans (Ext.hide ext.sub I _)) (xq ext.s1 I) (jm ext.sub I) zL r
theorem Ju : ∀{ds:List D} {n:Int},WG ds=some n->∃zs:List Int,ds=zs.map D.int/\n=zs.sum
 | [],n,h=>by cases h;exact⟨[],rfl,rfl⟩
 | d::ds,n,h=>by
  cases d with
  | int i=>
   obtain⟨s,e,h⟩:=zy h;obtain⟨zs,rfl,rfl⟩:=Ju e;exact⟨i::zs,rfl,by rw [<- h];simp⟩
  | _=>cases h
theorem JF{K:PySem.W.Frag}{H:Hp} : ∀{zs:List Int} {xs:List V},Reps K H (zs.map D.int) xs->xs=zs.map V.int
 | [],xs,h=>h.inv_nil
 | z::zs,xs,h=>by
  obtain⟨x,r,e,h1,h2⟩:=Reps.inv_cons h;rw [e,ji h1,JF h2];rfl
theorem zbE(h:SX X sc N T k)(c:kx sc "sum" = true)(z:X.mg "sum" = none)(U:PQ X e fq)(S:starEach [e] X.env=[(false,eval e X.env)]:=by rfl):PV X (.Call (.Name "sum" p) [e] [] pos) (zbz fq):=
 j3 (xG (Wj h.calm) (h.gl c).1 z PyProof.Rows.boot_sum (jr U qg S) ⋯ ⋯ S rfl) λσ H Q Y=>by
  obtain⟨H0,γ,d,rc,I,q⟩:=Y;obtain⟨⟨kk,ds⟩,e1,I⟩:=bind_some I;obtain⟨n,Z,e3⟩:=zy I;subst e3;obtain⟨zs,O,rfl⟩:=Ju Z;have O:ds=zs.map D.int:=O;subst O;exact⟨H0,γ,kk,_,rc,e1,λa xs H' H0' ext h1 h2 r=>⟨a,kk,xs,zs,rfl,h1,JF r,q _ H' H0' ext rfl⟩⟩
theorem zb1{K:PySem.W.Frag}{H:Hp}{d:D}{x:V}{b:Bool}(h:Rep K H d x)(e:zfB d=some b):zdL x=some b:=by
 cases d with
 | non=>cases (show x = .non from h);exact e
 | bl c=>cases (show x = .bl c from h);exact e
 | int i=>cases (show x = .int i from h);exact e
 | _=>cases e
theorem ZA{K:PySem.W.Frag}{H:Hp} : ∀{ds:List D} {xs:List V} {bs:List Bool},Reps K H ds xs->yl ds=some bs->Kx xs=some bs
 | [],xs,bs,h,e=>by rw [h.inv_nil];exact e
 | d::ds,xs,bs,h,e=>by
  obtain⟨x,r,z,h1,h2⟩:=h.inv_cons;obtain⟨b,e1,e⟩:=bind_some e;obtain⟨l,I,e⟩:=zy e;subst z e;show(zdL x).bind _=_;rw [zb1 h1 e1];show((Kx r).map λl=>b::l)=_;rw [ZA h2 I];rfl
theorem zbI(h:SX X sc N T k)(c:kx sc "all" = true)(z:X.mg "all" = none)(S:PQ X e fq)(O:starEach [e] X.env=[(false,eval e X.env)]:=by rfl):PV X (.Call (.Name "all" p) [e] [] pos) (WH fq):=
 j3 (xG (Wn h.calm) (h.gl c).1 z PyProof.Rows.boot_all (jr S qg O) ⋯ ⋯ O rfl) λσ H Q U=>by
  obtain⟨H0,γ,d,rc,I,q⟩:=U;obtain⟨⟨kk,ds⟩,e1,I⟩:=bind_some I;obtain⟨bs,Y,Z⟩:=zy I;subst Z;exact⟨H0,γ,kk,_,rc,e1,λa xs H' H0' ext h1 h2 r=>⟨a,kk,xs,bs,rfl,h1,ZA r Y,q _ H' H0' ext rfl⟩⟩
theorem zbG(h:SX X sc N T k)(c:kx sc "any" = true)(z:X.mg "any" = none)(S:PQ X e fq)(O:starEach [e] X.env=[(false,eval e X.env)]:=by rfl):PV X (.Call (.Name "any" p) [e] [] pos) (zbB fq):=
 j3 (xG (Wm h.calm) (h.gl c).1 z PyProof.Rows.boot_any (jr S qg O) ⋯ ⋯ O rfl) λσ H Q U=>by
  obtain⟨H0,γ,d,rc,I,q⟩:=U;obtain⟨⟨kk,ds⟩,e1,I⟩:=bind_some I;obtain⟨bs,Y,Z⟩:=zy I;subst Z;exact⟨H0,γ,kk,_,rc,e1,λa xs H' H0' ext h1 h2 r=>⟨a,kk,xs,bs,rfl,h1,ZA r Y,q _ H' H0' ext rfl⟩⟩
theorem yv(h:SX X sc N T k)(c:kx sc "int" = true)(z:X.mg "int" = none)(U:PV X e f)(O:starEach [e] X.env=[(false,eval e X.env)]:=by rfl):PV X (.Call (.Name "int" p) [e] [] pos) (qJ f):=
 j3 (vO Wl (h.gl c).1 z PyProof.Rows.boot_int (jr U qg O) ⋯ ⋯ O rfl) λσ H Q Y=>by
  obtain⟨H0,γ,d,rc,I,q⟩:=Y;obtain⟨S,e1,I⟩:=bind_some I;refine⟨H0,γ,S,rc,e1,λv H' H0' ext r=>?_⟩;cases S with
  | int i=>cases I;exact .inl ⟨i,by rw [ji r],q _ H' H0' ext rfl⟩
  | bl b=>cases I;exact .inr ⟨b,by rw [show v = .bl b from r],q _ H' H0' ext rfl⟩
  | _=>cases I
end
end DL
namespace DL
open PySem PySem.Spec PySem.Calls PyProof.Rows PySem.W PySem.Builtin PySem.Builtin.ObjectAttr PySem.Builtin.Getset_descriptor
section
variable{prog:Program}{w:World}{A:Around}{E:Value->Shared->Prop}{s:Shared}{K:Frag}{x C:Addr}
theorem vh{M:Model}{h:Heap}{a C:Addr}(x:XObj h a C):Looks M h (typeOf (.ref a)) (.ref C):=by
 obtain⟨o,vs,z,I,hd⟩:=x;exact I ▸ (Looks.ld z).andThen .now
structure XGet(K:Frag)(C:Addr):Prop where
 ga:findIn K (.ref C) "__getattribute__" = some (some (.builtin "BaseException.__getattribute__"))
 gn:findIn K (.ref C) "__getattr__" = some none
 ca:findIn K (.ref C) "__class__" = some (some (.builtin "object.__class__"))
 gt:specialIn K (.builtin "object.__class__") "__get__" = some (some (.builtin "getset_descriptor.__get__"))
 tk:takesIn K (.builtin "object.__class__")=some true
 mo:mroIn K C (.type "object")=some true
 mb:mroIn K C (.type "BaseException")=some true
theorem za5{M:Model}{h:Heap}(X:K.In h)(G:XGet K C):Looks M h (find (.ref x) (.ref C) "__class__") (.bind (.builtin "getset_descriptor.__get__") (.builtin "object.__class__")):=by
 have z:=looks_findIn (M:=M) X G.ca;have I:Looks M h (getOf (some (.builtin "object.__class__"))) (some (.builtin "getset_descriptor.__get__")):=looks_specialIn X G.gt;have O:=looks_takesIn (M:=M) X G.tk;have S:Looks M h (dataDescriptor? (some (.builtin "object.__class__")) (some (.builtin "getset_descriptor.__get__"))) (some (.builtin "getset_descriptor.__get__",.builtin "object.__class__")):=O.andThen .now;exact z.andThen (I.andThen (S.andThen (Looks.tag .now)))
theorem za6{tp:Value}{R:Result->Shared->Prop}(X:K.In s.heap)(I:XObj s.heap x C)(G:XGet K C)(h:R (.ok (.ret (.ref C))) s) :
 codeAny (model prog w) A (.call (.builtin "getset_descriptor.__get__") ⟨[.builtin "object.__class__",.ref x,tp],[]⟩) R s:=by
 obtain⟨z,g0,O,S,U⟩:=s;have Y:=vh (M:=model prog w) I;have Z:=looks_mroIn (M:=model prog w) X G.mo;refine zlU KF.slot_gs.plain KF.entry_gs (KF.slot_gs.check _ _ _ _ _ _ _ _ KF.type_class (KF.args_gs _ _ _) ?_);unfold Builtin.«getset_descriptor.__get__» descrGet;rw [dga_obj];refine zid (zik ?_);unfold descrGetter descrCheckInstance descrNameAndClass isInstance;simp only [KF.owner_class]
 repeat lk
 refine And.intro (Code.quiet_builtin _ ⋯) (codeAny_builtin KF.entry_class ?_);unfold Builtin.«object.__class__» shownTypeOf
 repeat lk
 exact h
theorem VX{z:Value}{Q:Unit->Shared->Prop}{M:Model}(X:K.In s.heap)(I:XObj s.heap x C)(G:XGet K C)(O:Q () s):wpAny M A (checkBuiltinCall "BaseException.__getattribute__" ⟨[.ref x,z],[]⟩) Q E s:=by
 obtain⟨h0,g0,d0,t0,o0⟩:=s;have S:=vh (M:=M) I;have U:=looks_mroIn (M:=M) X G.mb;have Y:builtinKind "BaseException.__getattribute__" = some .slot:=by decide +kernel
 have Z:splitId "BaseException.__getattribute__" = some ("BaseException","__getattribute__"):=by decide +kernel
 have ha:=PySem.F.args_bexc_ga (.ref x) z;simp only [checkBuiltinCall,Y,Z];refine zid (show wpAny _ _ (isInstance (.ref x) (.type "BaseException")) _ _ _ from ?_);refine(S.andThen U).at ?_;rw [if_neg ⋯];unfold argsOk at ha;cases hs:Manifest.signature? "BaseException.__getattribute__" with
 | none=>exact zik O
 | some a4=>
  rw [hs]at ha;exact wpAny_of_eq ha O
theorem VW{Q:Option Value->Shared->Prop}(X:K.In s.heap)(I:XObj s.heap x C)(G:XGet K C)(h:Q (some (.ref C)) {s with toks:=s.toks+1}):wpAny (model prog w) A (getAttr? (.ref x) "__class__") Q E s:=by
 obtain⟨z,g0,O,S,U⟩:=s;have Y:=vh (M:=model prog w) I;have Z:=looks_findIn (M:=model prog w) X G.ga;have L2:=looks_findIn (M:=model prog w) X G.gn;have L3:=za5 (M:=model prog w) (x:=x) X G;have B:=PySem.F.attr_ValueError.ga.bind (.ref x);unfold getAttr? getAttrBy? getAttrBy;refine zid (wpAny_mkText (zid (zke (zjH (zid (Y.at (zid (Z.at ?_))))))));show wpAny _ _ (getAttrByItsOwn _ _ _ _ _ _) _ _ _;unfold getAttrByItsOwn;refine zid (L2.at ?_);refine zid (zke (zjH ?_));show wpAny _ _ (boundAndCalled (.builtin "BaseException.__getattribute__") (.ref x) _) _ _ _;unfold boundAndCalled;refine zid (wpAny_of_eq B ?_);refine wpAny_call (zlU PySem.F.attr_ValueError.ga.plain PySem.F.entry_bexc_ga (VX (s:=⟨z,g0,O,S+1,U⟩) X I G ?_));refine zid (zik ?_);refine zid (zik ?_);refine zid (Y.at (zid (L3.at ?_)));show wpAny _ _ (bindTo _ _ _ _) _ _ _;unfold bindTo;refine zid (zjH (wpAny_call (za6 (s:=⟨z,g0,O,S+1,U⟩) X I G ?_)));refine zik ?_;exact zik (zik h)
theorem zbV(h:zbY K C=true):XGet K C:=by
 unfold zbY at h;simp only [Bool.and_eq_true,beq_iff_eq]at h;exact⟨h.1.1.1.1.1.1.1.1.2,h.1.1.1.1.1.1.1.2,h.1.1.1.1.1.1.2,h.1.1.1.2,h.1.1.2,h.1.1.1.1.1.2,h.1.1.1.1.2⟩
theorem zaT(G:XGet K C)(U:(clsIn K C).isSome=true):KitX K (.ref x) (.ref C) (λh=>XObj h x C) where
 ty:=λ_ _ _ I=>vh I
 it:=λ_ _ X _=>by
  obtain⟨Y,O⟩:=zjx.mp U;unfold clsIn at O;split at O
  ·rename_i Z d' a0 a1 S
   intro A' Q' E' s' k q;unfold isType loadHead;exact zid (wpAny_loadPart (k _ _ (X _ _ S)) (zik q))
  ·cases O
 ne:=λh tp dd a6 n sl X a2=>by
  obtain⟨Y,O⟩:=zjx.mp U;refine Bool.eq_false_iff.mpr λq=>?_;have e:C=tp:=zjz.inj (beq_iff_eq.mp q);subst e;unfold clsIn at O;split at O
  ·rename_i Z d' a0 a1 S
   have z:=(X _ _ S).symm.trans a2;cases z
  ·cases O
 ca:=λX I k=>VW X I G k
theorem zbW(h:zbY K C=true):(clsIn K C).isSome=true:=by
 unfold zbY at h;simp only [Bool.and_eq_true]at h;have:=h.1.2;cases q:clsIn K C with
 | none=>rw [q]at this;cases this
 | some z=>rfl
end
end DL
namespace DL
open PySem PySem.Spec PyProof.Rows L2
section
variable{X:Cx}{sc:Scope}{N T:List Str}{k:Nat}{e a b c:Expr}{pos p p2:Pos}{f g:CO D}{fq:CO (Sk×List D)}
theorem Zf{n:Nat}{i:Int}{j:Nat}(h:ixD n i=some j):ixN n i=some j:=by
 unfold ixD at h;unfold ixN;split at h
 ·rename_i h1;rw [if_pos h1.1,if_pos h1.2];exact h
 ·split at h
  ·rename_i h1 h2;rw [if_neg ⋯,if_pos ⋯];exact h
  ·cases h
theorem zI(ha:PQ X a fq)(Y:PV X b g)(Z:yL b:=by intro _ _;rfl):PV X (.Subscript a b pos) (sIx fq g):=
 j3 (zay (ix_list.or ze2) ha Y Z) λσ H Q hZ=>by
  obtain⟨H0,γ,d,rc,z,q⟩:=hZ;obtain⟨⟨kk,ds⟩,e1,z⟩:=bind_some z;obtain⟨i,O,z⟩:=bind_some z;obtain⟨di,e3,O⟩:=bind_some O;obtain⟨j,e4,z⟩:=bind_some z;refine⟨H0,γ,kk,ds,rc,e1,λp xs H' H0' ext h1 h2 r=>⟨H0',γ,di,rc.ext ext,e3,λv2 H2 a4 I r2=>?_⟩⟩;rw [jw O]at r2;obtain⟨x,hx,rx⟩:=r.get z;have S:atI xs i=some x:=by
   unfold atI;rw [r.length,Zf e4];exact hx
  have U:=q x H2 a4 (ext.trans I) (rx.mono I.s0);cases kk with
  | L=>exact .inl ⟨p,xs,i,x,rfl,ji r2,I.s1.seq h1,S,U⟩
  | T=>exact .inr ⟨p,xs,i,x,rfl,ji r2,sameT I.s1 h1,S,U⟩
theorem yE{P:Program}{w:World}{A:Around}{E:Value->Shared->Prop}{s:Shared}{t sl:Addr}{items:Array Value}{I O:Value}{lo hi:Option Int}{Q:Value->Shared->Prop}(z:IsTup s.heap t items)(S:s.heap.IsSliceOf sl I O .none)(U:IsPart I lo)(Y:IsPart O hi)
 (hw:HT.sIx items.size 0 lo=0/\HT.sIx items.size items.size hi=items.size) (h:Q (.ref t) s):wpAny (model P w) A (getItem (.ref t) (.ref sl)) Q E s:=by
 obtain⟨os,Z,a0,a3⟩:=id S;have a1:s.TypeIs (.ref sl) "slice":=⟨os,Z,a0⟩;unfold getItem
 try with_reducible refine zjH ?_
 first | refine zid (zik ?_) | skip
 refine zid (wpAny_sequenceKey z.typeIs ⋯ ?_);refine zid (zjh (name:=zi0 "__getitem__") z.typeIs zjy
  (zjC zjy z.typeIs entry_tuple_getitem ?_ (args_tuple_getitem _ _)))
 show wpAny _ _ (Builtin.Tuple.tupleItemsOf (.ref t) >>= _) _ _ s;refine zid (zly z ?_);refine zid (zlj a1 ?_);rw [if_pos ⋯];refine zid (HT.sliceApplied_gen S U Y ?_);have a2:(((HT.sIx items.size 0 lo:Nat):Int)==0 && (1:Int)==1 && (HT.sIx items.size items.size hi - HT.sIx items.size 0 lo)==items.size)=true:=by
  rw [hw.1,hw.2];simp
 show wpAny _ _ (if (((HT.sIx items.size 0 lo:Nat):Int)==0 && (1:Int)==1 && (HT.sIx items.size items.size hi - HT.sIx items.size 0 lo)==items.size)=true then _ else _) _ _ s;rw [if_pos a2];refine zid (m:=zkc _) ?_;unfold zkc;refine zid (zlj z.typeIs (zik ?_));rw [if_pos ⋯];exact zid (zkG (zik ⟨_,rfl,zik h⟩))
def zgm(K:PySem.W.Frag):V->Option Int->Option Int->Hp->VK->Prop:=λx lo hi H Q=>∃a xs,x = .ref a/\SqT K H a xs/\(HT.sIx xs.length 0 lo=0/\HT.sIx xs.length xs.length hi=xs.length->Q (.ref a) H)/\∀p,H p=none->Q (.ref p) (upd H p (.tup (zdk xs lo hi)))
theorem zci:SlR X (zgm X.K):=by
 intro pins s σ H x v Z vu lo hi sl Q I z O S U h;obtain⟨a,xs,rfl,hx,q1,q2⟩:=h;by_cases hw:HT.sIx xs.length 0 lo=0/\HT.sIx xs.length xs.length hi=xs.length
 ·cases z
  obtain⟨a3,r,Y,hz⟩:=I.tuple hx;have a4:a3.toArray.size=xs.length:=by rw [zir];exact r.length.symm
  refine⟨"tuple",_,zjy.lookup,Y.typeIs,?_⟩;exact yE Y O S U (by rw [a4];exact hw) ⟨.ref a,H,I,rfl,q1 hw⟩
 ·exact zdT pins s σ H (.ref a) v Z vu lo hi sl Q I z O S U ⟨a,xs,rfl,hx,hw,q2⟩
theorem vm(n d:Nat)(o:Option Int):Yh n d o=HT.sIx n d o:=by cases o<;>rfl
theorem zab{K:PySem.W.Frag}{H:Hp}{ds:List D}{xs:List V}(r:Reps K H ds xs)(lo hi:Option Int):Reps K H (WK ds lo hi) (zdk xs lo hi):=by
 unfold WK zdk;rw [<- vm,<- vm,r.length];exact(r.drop _).take _
theorem We{ds:List D}{lo hi:Option Int}(h:HT.sIx ds.length 0 lo=0/\HT.sIx ds.length ds.length hi=ds.length):WK ds lo hi=ds:=by
 unfold WK;rw [vm,vm,h.1,h.2];simp
def tB(K:PySem.W.Frag)(f:CO (Option Int)):TO:=λσ H Q=>∃H0 γ o,RC K H0 H σ γ/\f γ=some o/\∀H' H0',Ext H0 H H0' H'->Q o H'
theorem vQ:L2.PO X none (tB X.K KK):=λpins s σ H Q I ⟨H0,γ,o,rc,z,q⟩=>zcy pins s σ H Q I (by cases z;exact q H H0 (Ext.refl rc.sub))
theorem vP(h:PV X e f):L2.PO X (some e) (tB X.K (sBd f)):=λpins s σ H Q I ⟨H0,γ,o,rc,z,q⟩=>zcx h pins s σ H Q I (by
 obtain⟨i,e1,O⟩:=zy z;obtain⟨d,S,e1⟩:=bind_some e1;subst O;refine⟨H0,γ,d,rc,S,λv H' H0' x r=>?_⟩;rw [jw e1]at r;exact⟨i,ji r,q H' H0' x⟩)
theorem JH{lo hi:Option Expr}{O S:CO (Option Int)}(ha:PV X a f)(hl:L2.PO X lo (tB X.K O))(hh:L2.PO X hi (tB X.K S)):PV X (.Subscript a (.Slice lo hi none p2) pos) (KI f O S):=
 j3 (zax zci ha hl hh) λσ H Q hZ=>by
  obtain⟨H0,γ,d,rc,z,q⟩:=hZ;obtain⟨U,e1,z⟩:=bind_some z;obtain⟨l,e2,z⟩:=bind_some z;obtain⟨u,e3,z⟩:=bind_some z;refine⟨H0,γ,U,rc,e1,λv H' H0' x r=>⟨H0',γ,l,rc.ext x,e2,λH2 a6 I=>⟨a6,γ,u,(rc.ext x).ext I,e3,λH3 a8 x3=>?_⟩⟩⟩;have Y:=x.trans (I.trans x3);cases U with
  | tup ds=>
   cases z;obtain⟨a1,xs,rfl,h1,h2⟩:=xA (r.mono (I.trans x3).s0);have aa:=h2.length;refine⟨a1,xs,rfl,sameT x3.sub h1,λhw=>?_,λp Z=>?_⟩
   ·rw [aa]at hw
    exact q _ H3 a8 Y (by rw [We hw];exact qy h1 h2)
   ·exact q _ _ _ (Y.trans (Ext.alloc x3.sub Z _)) (qy (SqT.of zL) ((zab h2 _ _).mono (jt (jm x3.sub Z) _)))
  | _=>cases z
theorem ZH{K:PySem.W.Frag}{H:Hp}{ds:List D}{xs:List V}(r:Reps K H ds xs) : ∀n:Nat,Reps K H (zii n ds).flatten (zii n xs).flatten
 | 0=>Reps.nil
 | n+1=>by rw [zjQ,zjQ,zj4,zj4];exact r.append (ZH r n)
theorem JN{U:CO (Sk×List D)}(ha:PQ X a fq)(hb:PQ X b U):PO X (.BinOp a .Add b pos) (yp fq U):=
 j3 (zcF zaF ha hb) λσ H Q hZ=>by
  obtain⟨H0,γ,ds,rc,z,q⟩:=hZ;obtain⟨⟨k1,Y⟩,e1,z⟩:=bind_some z;obtain⟨⟨k2,Z⟩,e2,z⟩:=bind_some z;cases k1<;>cases k2<;>try (simp at z;done)
  dsimp only at z;by_cases O:Y.length+Z.length<=lim
  ·rw [if_pos O]at z;cases z
   refine⟨H0,γ,.L,Y,rc,e1,λa1 xs H1 a9 x1 h1 h2 r1=>⟨a9,γ,.L,Z,rc.ext x1,e2,λa2 ys H2 ab I h3 h4 r2=>⟨a1,a2,xs,ys,rfl,rfl,I.s1.seq h1,h3,xI (by rw [r1.length,r2.length];exact O),λp S=>?_⟩⟩⟩;exact q p (xs++ys) _ ab (x1.trans (I.trans (Ext.hide I.sub S _))) (xq (x1.trans I).s1 S) (jm I.sub S) zL ((r1.mono I.s0).append r2)
  ·rw [if_neg O]at z;cases z
theorem zeq{gn:CO (List D)}(ha:PO X a gn)(hb:PV X b g):PO X (.BinOp a .Mult b pos) (W6 (zX gn) g):=
 j3 (zcF zeJ ha hb) λσ H Q hZ=>by
  obtain⟨H0,γ,ds,rc,z,q⟩:=hZ;obtain⟨⟨k1,Y⟩,e1,z⟩:=bind_some z;obtain⟨ab,e0,e1⟩:=zy e1;cases e1;obtain⟨j,S,z⟩:=bind_some z;obtain⟨dj,e3,S⟩:=bind_some S;dsimp only at z;by_cases O:Y.length*j.toNat<=lim/\inR j=true
  ·rw [if_pos O]at z;cases z
   refine⟨H0,γ,Y,rc,e0,λa1 xs H1 a7 x1 h1 h2 h3 Z=>⟨a7,γ,dj,rc.ext x1,e3,λv H2 a9 I r2=>?_⟩⟩;rw [jw S]at r2;obtain⟨q1,q2⟩:=wc O.2;refine⟨a1,j,xs,rfl,ji r2,I.s1 _ _ h3,by omega,by omega,xI (by rw [Z.length];exact O.1),λp U=>?_⟩;exact q p _ _ a9 (x1.trans (I.trans (Ext.hide I.sub U _))) (xq (x1.trans I).s1 U) (jm I.sub U) zL ((ZH Z _).mono I.s0)
  ·rw [if_neg O]at z;cases z
theorem js{K:PySem.W.Frag}{t c:String}{b:Bool}(h:(if ((zkm t) == .type c)=true then some true else if PySem.W.kitMeta c=true then (fastBuiltinMro t).map (·.contains (.type c))else none)=some b):zjS K (.type t) (.type c)=some b:=h
def tyN:Ty->String
 | .int=>"int"
 | .bool=>"bool"
 | .str=>"str"
 | .tuple=>"tuple"
 | .list=>"list"
def zgB:D->String
 | .non=>"NoneType"
 | .bl _=>"bool"
 | .int _=>"int"
 | .str _=>"str"
 | .tup _=>"tuple"
 | .lst _=>"list"
 | .exc _ _=>""
 | .dic _ _=>"dict"
theorem Q5{K:PySem.W.Frag}(T:Ty)(d:D)(hx : ∀c n,d ≠ .exc c n):zjS K (.type (zgB d)) (.type (tyN T))=some (zaY T d):=by
 cases d with
 | non=>
  cases T with
  | int=>exact js (t:="NoneType") (c:="int") (b:=false) ⋯
  | bool=>exact js (t:="NoneType") (c:="bool") (b:=false) ⋯
  | str=>exact js (t:="NoneType") (c:="str") (b:=false) ⋯
  | tuple=>exact js (t:="NoneType") (c:="tuple") (b:=false) ⋯
  | list=>exact js (t:="NoneType") (c:="list") (b:=false) ⋯
 | bl y=>
  cases T with
  | int=>exact js (t:="bool") (c:="int") (b:=true) ⋯
  | bool=>exact js (t:="bool") (c:="bool") (b:=true) ⋯
  | str=>exact js (t:="bool") (c:="str") (b:=false) ⋯
  | tuple=>exact js (t:="bool") (c:="tuple") (b:=false) ⋯
  | list=>exact js (t:="bool") (c:="list") (b:=false) ⋯
 | int y=>
  cases T with
  | int=>exact js (t:="int") (c:="int") (b:=true) ⋯
  | bool=>exact js (t:="int") (c:="bool") (b:=false) ⋯
  | str=>exact js (t:="int") (c:="str") (b:=false) ⋯
  | tuple=>exact js (t:="int") (c:="tuple") (b:=false) ⋯
  | list=>exact js (t:="int") (c:="list") (b:=false) ⋯
 | str y=>
  cases T with
  | int=>exact js (t:="str") (c:="int") (b:=false) ⋯
  | bool=>exact js (t:="str") (c:="bool") (b:=false) ⋯
  | str=>exact js (t:="str") (c:="str") (b:=true) ⋯
  | tuple=>exact js (t:="str") (c:="tuple") (b:=false) ⋯
  | list=>exact js (t:="str") (c:="list") (b:=false) ⋯
 | tup y=>
  cases T with
  | int=>exact js (t:="tuple") (c:="int") (b:=false) ⋯
  | bool=>exact js (t:="tuple") (c:="bool") (b:=false) ⋯
  | str=>exact js (t:="tuple") (c:="str") (b:=false) ⋯
  | tuple=>exact js (t:="tuple") (c:="tuple") (b:=true) ⋯
  | list=>exact js (t:="tuple") (c:="list") (b:=false) ⋯
 | lst y=>
  cases T with
  | int=>exact js (t:="list") (c:="int") (b:=false) ⋯
  | bool=>exact js (t:="list") (c:="bool") (b:=false) ⋯
  | str=>exact js (t:="list") (c:="str") (b:=false) ⋯
  | tuple=>exact js (t:="list") (c:="tuple") (b:=false) ⋯
  | list=>exact js (t:="list") (c:="list") (b:=true) ⋯
 | exc c n=>exact absurd rfl (hx c n)
 | dic c n=>
  cases T with
  | int=>exact js (t:="dict") (c:="int") (b:=false) ⋯
  | bool=>exact js (t:="dict") (c:="bool") (b:=false) ⋯
  | str=>exact js (t:="dict") (c:="str") (b:=false) ⋯
  | tuple=>exact js (t:="dict") (c:="tuple") (b:=false) ⋯
  | list=>exact js (t:="dict") (c:="list") (b:=false) ⋯
theorem zaX{pins:List (Addr×Obj)}{σ:St}{H0 H:Hp}{s:Shared}{A:Around}{E:Value->Shared->Prop}{Q:Value->Shared->Prop}{d:D}{x:V}{u:Value}(I:Inv X pins σ H s)(sub:Same H0 H)(O:RelV x u)(r:Rep X.K H0 d x)(T:Ty)
 (h : ∀tk,Q (.bool (zaY T d)) {s with toks:=tk}):wpAny (model X.prog X.w) A (call (.builtin "isinstance") [u,.type (tyN T)]) Q E s:=by
 cases d with
 | non=>have e:=Q5 (K:=X.K) T .non (λ_ _ z=>nomatch z);cases (show x = .non from r);cases (show u=ziV from O);exact zi3 PySem.W.kitx_none I.kIn zkd e (λz=>nomatch z) h
 | bl y=>have e:=Q5 (K:=X.K) T (.bl y) (λ_ _ z=>nomatch z);cases (show x = .bl y from r);cases (show u=Value.bool y from O);exact zi3 PySem.W.kitx_bool I.kIn zkd e (λz=>nomatch z) h
 | int i=>have e:=Q5 (K:=X.K) T (.int i) (λ_ _ z=>nomatch z);cases (show x = .int i from r);obtain⟨t,q⟩:=(show ∃t,u=zlM i t from O);cases q;exact zi3 PySem.W.kitx_int I.kIn zkd e (λz=>nomatch z) h
 | str y=>have e:=Q5 (K:=X.K) T (.str y) (λ_ _ z=>nomatch z);cases (show x = .str y from r);obtain⟨t,q⟩:=(show ∃t,u=zlL y t from O);cases q;exact zi3 PySem.W.kitx_str I.kIn zkd e (λz=>nomatch z) h
 | tup ds=>
  have e:=Q5 (K:=X.K) T (.tup ds) (λ_ _ z=>nomatch z);obtain⟨a,xs,rfl,h1,h2⟩:=xA r;cases (show u=zjz a from O);obtain⟨a0,rv,⟨o,U,Y,_⟩,hz⟩:=I.tuple (sameT sub h1);exact zi3 PySem.W.kitx_tuple I.kIn ⟨o,U,Y⟩ e (λz=>nomatch z) h
 | lst ds=>
  have e:=Q5 (K:=X.K) T (.lst ds) (λ_ _ z=>nomatch z);obtain⟨a,xs,rfl,h1,h2⟩:=Vu r;cases (show u=zjz a from O);obtain⟨a0,rv,p,hz⟩:=I.list (sub.seq h1);obtain⟨o,U,Y,_⟩:=p.isList;exact zi3 zlO I.kIn ⟨o,U,Y⟩ e (λz=>nomatch z) h
 | exc c n=>
  obtain⟨a,rfl,Z⟩:=(show ∃a,x = .ref a/\XRep X.K H0 c n a from r);cases (show u=zjz a from O);obtain⟨C,φ,g1,g2,g3,_⟩:=Z.ex;obtain⟨S,_,x1,_,_⟩:=zbX Z.all Z.mem g1;obtain⟨p,_,_⟩:=(show ObjOk X.prog X.w H s.heap a (.ext φ)from I.hok a _ (sub _ _ g2));have e:zjS X.K (.ref C) (.type (tyN T))=some (zaY T (.exc c n)):=by
   unfold zbY at x1;simp only [Bool.and_eq_true,zkV,List.all_nil,beq_iff_eq]at x1;have t:=x1.1.1.1.1.1.1.1.1.1.1;cases T
   ·exact t.1
   ·exact t.2.1
   ·exact t.2.2.1
   ·exact t.2.2.2.1
   ·exact t.2.2.2.2.1
  exact zi3 (zaT (zbV x1) (zbW x1)) I.kIn (g3 _ p) e (λz=>nomatch z) h
 | dic ks vs=>
  have e:=Q5 (K:=X.K) T (.dic ks vs) (λ_ _ z=>nomatch z);obtain⟨a,xs,rfl,⟨kk,_,_,h1⟩,_⟩:=(show ∃a xs,x = .ref a/\DRp H0 a ks xs/\Reps X.K H0 vs xs from r);exact VJ I O (.dK (sub _ _ h1)) e h
theorem zae{ty:Str}(T:Ty)(h:SX X sc N L k)(c:kx sc "isinstance" = true)(z:X.mg "isinstance" = none)(O:kx sc ty=true)(Z:X.mg ty=none)(hb:bootBuiltins ty=some (.type (tyN T)))(ha:PV X a f)
 (U:starEach [a,.Name ty p2] X.env=[(false,eval a X.env),(false,eval (.Name ty p2) X.env)]:=by rfl):PV X (.Call (.Name "isinstance" p) [a,.Name ty p2] [] pos) (sIs T f):=by
 intro pins s σ H Q I ⟨H0,γ,d,rc,ef,q⟩;obtain⟨Y,e1,e2⟩:=zy ef;subst e2;refine zkL (xt I (h.gl c).1 z PyProof.Rows.boot_isinstance ?_ ⋯ ⋯);refine zlz ?_ (by rw [U];rfl) rfl;rw [U];show wpAny _ _ (spliced ((false,eval a X.env)::backTo pos [(false,eval (.Name ty p2) X.env)])) _ _ s;refine zk2 (thn (ha pins s σ H _ I ⟨H0,γ,Y,rc,e1,λv H' H0' x r=>(show(λv H'=>∃H0',Ext H0 H H0' H'/\Rep X.K H0' Y v) v H' from⟨H0',x,r⟩)⟩) λu s1 hZ=>?_);obtain⟨x,H1,S,r1,a5,x1,rr⟩:=hZ;show wpAny _ _ (spliced ((false,eval (.Name ty p2) X.env)::[])) _ _ s1;refine zk2 (xt S (h.gl O).1 Z hb ?_ (h.gl O).2.1 (h.gl O).2.2);refine zlZ ?_;exact zaX S x1.sub r1 rr T λtk=>⟨.bl _,H1,S.tok tk,rfl,q _ H1 a5 x1 rfl⟩
end
section
variable{X:Cx}{sc:Scope}{N L:List Str}{k:Nat}{e a b c:Expr}{pos p p2:Pos}{f g:CO D}{fq:CO (Sk×List D)}
theorem jJ{tg:Expr}(h:SX X sc N L k)(c:kx sc "range" = true)(z:X.mg "range" = none)(ha:PV X a f)(I:starEach [a] X.env=[(false,eval a X.env)]:=by rfl):PIF X tg (.Call (.Name "range" p) [a] [] pos) (zR f):=KZ (h.gl c).1 z ha I
theorem zat{tg:Expr}(h:SX X sc N L k)(c:kx sc "range" = true)(z:X.mg "range" = none)(ha:PV X a f)(I:PV X b g)(O:starEach [a,b] X.env=[(false,eval a X.env),(false,eval b X.env)]:=by rfl)(S:starEach [b] X.env=[(false,eval b X.env)]:=by rfl) :
 PIF X tg (.Call (.Name "range" p) [a,b] [] pos) (yn f g):=KY (h.gl c).1 z ha I O S
theorem vN{elts:List Expr}{x1:Nat}{tpos:Pos}(h:SX X sc N L k)(c:kx sc "zip" = true)(z:X.mg "zip" = none)(ha:PV X a f)(I:PV X b g)(O:starEach [a,b] X.env=[(false,eval a X.env),(false,eval b X.env)]:=by rfl)(S:starEach [b] X.env=[(false,eval b X.env)]:=by rfl) :
 PIF X (.Tuple elts x1 tpos) (.Call (.Name "zip" p) [a,b] [] pos) (Jh f g):=zcB (h.gl c).1 z ha I O S
theorem Y1(h:SX X sc N L k)(c:kx sc "isinstance" = true)(z:X.mg "isinstance" = none)(I:kx sc "int" = true)(O:X.mg "int" = none)(ha:PV X a f)
 (S:starEach [a,.Name "int" p2] X.env=[(false,eval a X.env),(false,eval (.Name "int" p2) X.env)]:=by rfl):PV X (.Call (.Name "isinstance" p) [a,.Name "int" p2] [] pos) (sIs .int f):=zae .int h c z I O PyProof.Rows.boot_int ha S
theorem KP(h:SX X sc N L k)(c:kx sc "isinstance" = true)(z:X.mg "isinstance" = none)(I:kx sc "bool" = true)(O:X.mg "bool" = none)(ha:PV X a f)
 (S:starEach [a,.Name "bool" p2] X.env=[(false,eval a X.env),(false,eval (.Name "bool" p2) X.env)]:=by rfl):PV X (.Call (.Name "isinstance" p) [a,.Name "bool" p2] [] pos) (sIs .bool f):=zae .bool h c z I O PyProof.Rows.boot_bool ha S
theorem qW(h:SX X sc N L k)(c:kx sc "isinstance" = true)(z:X.mg "isinstance" = none)(I:kx sc "tuple" = true)(O:X.mg "tuple" = none)(ha:PV X a f)
 (S:starEach [a,.Name "tuple" p2] X.env=[(false,eval a X.env),(false,eval (.Name "tuple" p2) X.env)]:=by rfl):PV X (.Call (.Name "isinstance" p) [a,.Name "tuple" p2] [] pos) (sIs .tuple f):=zae .tuple h c z I O PyProof.Rows.boot_tuple ha S
theorem KO(h:SX X sc N L k)(c:kx sc "isinstance" = true)(z:X.mg "isinstance" = none)(I:kx sc "list" = true)(O:X.mg "list" = none)(ha:PV X a f)
 (S:starEach [a,.Name "list" p2] X.env=[(false,eval a X.env),(false,eval (.Name "list" p2) X.env)]:=by rfl):PV X (.Call (.Name "isinstance" p) [a,.Name "list" p2] [] pos) (sIs .list f):=zae .list h c z I O PyProof.Rows.boot_list ha S
theorem zah(ha:PQ X a fq)(I : ∀z,isTrue a X.env z=(do let v <- z;standAt a.pos;holding [v] (truthy v)):=by intro _;rfl):PTD X a (W5 fq):=
 JK (zai ha I) λσ H Q O=>by
  obtain⟨H0,γ,t,rc,S,q⟩:=O;obtain⟨⟨kk,ds⟩,e1,U⟩:=zy S;subst U;refine⟨H0,γ,kk,ds,rc,e1,λp xs H' H0' ext h1 h2 r=>⟨!ds.isEmpty,?_,q H' H0' ext⟩⟩;have e:xs.isEmpty=ds.isEmpty:=by
   have:=r.length;cases xs<;>cases ds<;>simp_all
  rw [<- e];cases kk with
  | L=>exact .inl ⟨xs,h1,rfl⟩
  | T=>exact .inr (.inl ⟨xs,h1,rfl⟩)
theorem zed(ha:PV X a f):PV X (.UnaryOp .USub a pos) (zdY f):=
 j3 (zgs zdI ha) λσ H Q z=>by
  obtain⟨H0,γ,d,rc,I,q⟩:=z;obtain⟨i,e1,O⟩:=zy I;obtain⟨S,U,e1⟩:=bind_some e1;subst O;refine⟨H0,γ,S,rc,U,λv H' H0' x r=>?_⟩;rw [jw e1]at r;exact⟨i,ji r,q _ H' H0' x rfl⟩
theorem ZN(i:Nat){x:Str}{apos cpos z:Pos}(h:SX X sc N L k)(c:QB sc N i x=true)(ha:PV X a f)(I:starEach [a] X.env=[(false,eval a X.env)]:=by rfl)
 (O:attributeBase (.Name x z) "append" X.env (eval (.Name x z) X.env)=eval (.Name x z) X.env:=by rfl)
 (S:((backTo cpos (starEach [a] X.env)).all (λx=> !x.1) && (backToKw cpos (keywordEach [] X.env)).all (λx=>x.1.isSome)
   && decide ([a].length+([]:List Keyword).length+(if ([]:List Keyword).isEmpty then 0 else 1)<30))=true:=by rfl)
 (U:(apos.endLine==cpos.line)=true:=by rfl) (Y:swapsWith (.Call (.Attribute (.Name x z) "append" apos) [a] [] cpos) none pos.line X.env=pure false:=by rfl) :
 PSD X (.Expr (.Call (.Attribute (.Name x z) "append" apos) [a] [] cpos) pos) (jY i f):=
 KS i (zeD PySem.F.plainAttrs_list PySem.F.slot_list_append PySem.F.type_list_append Vp (h.var c) (jr ha qg I) O S U I rfl) Y
theorem jv(i:Nat){st:Stmt}{f:CO (List D)}(h:PS X st (YH (tO X.K f) (ya i))):PSD X st (z5 i (jq f)):=xF h λD σ H O=>by
 obtain⟨E0,E,H0,γ,Z,z,I,S⟩:=O;obtain⟨d,e1,I⟩:=zy I;obtain⟨ds,U,e1⟩:=zy e1;subst I e1;exact⟨H0,γ,ds,z.rc,U,λa xs H' H0' x h1 h2 Y r=>S _ _ _ ((z.step (x.show h1 h2 Y z.rc.sub)).setVal (ZI (SqL.of zL) (r.mono (jt h2 _))))⟩
theorem psc{scope:Scope}{own:List Str}{fr:List (Str×Nat)}{elt tg iter:Expr}{cpos z I:Pos}{src:CO (List D)}{T:Tg}{y:Str}(i:Nat)(h:SX X sc N L k)(c:QE sc N L i y=true)
 (O:X.calm=true) (ok:CompOk X scope fr) (S : ∀i∈T.idx,i<own.length) (hi:PIC X tg iter src) (U : ∀fp s2 H2,PG (jp X scope (own++fr.map (·.1)) fp s2 H2) tg (gOf X.K T))
 (Y : ∀fp s2 H2,PV (jp X scope (own++fr.map (·.1)) fp s2 H2) elt f) (Z : ∀x,foldedSetIterable iter X.env x=pure x:=by intro _;rfl) :
 PS X (.Assign [.Name y I] (.ListComp elt [⟨tg,iter,[],0⟩] scope cpos) z) (YH (tO X.K (zE src T own.length (fr.map (·.2)) zV f)) (ya i)):=by
 obtain⟨h1,h2,h3⟩:=h.loc c;exact zaq h.ndX h1 h2 h3 O ok S hi U Y Z
theorem zcu{scope:Scope}{own:List Str}{fr:List (Str×Nat)}{elt tg iter z:Expr}{cpos I O:Pos}{src:CO (List D)}{T:Tg}{y:Str}{kk:CO Bool}(i:Nat)(h:SX X sc N L k)(c:QE sc N L i y=true)
 (S:X.calm=true) (ok:CompOk X scope fr) (U : ∀i∈T.idx,i<own.length) (hi:PIC X tg iter src) (Y : ∀fp s2 H2,PG (jp X scope (own++fr.map (·.1)) fp s2 H2) tg (gOf X.K T))
 (Z : ∀fp s2 H2,PTD (jp X scope (own++fr.map (·.1)) fp s2 H2) z kk) (he : ∀fp s2 H2,PV (jp X scope (own++fr.map (·.1)) fp s2 H2) elt f) (hs : ∀x,foldedSetIterable iter X.env x=pure x:=by intro _;rfl) :
 PS X (.Assign [.Name y O] (.ListComp elt [⟨tg,iter,[z],0⟩] scope cpos) I) (YH (tO X.K (zE src T own.length (fr.map (·.2)) kk f)) (ya i)):=by
 obtain⟨h1,h2,h3⟩:=h.loc c;exact KU h.ndX h1 h2 h3 S ok U hi Y Z he hs
theorem Y5(i:Nat){x:Str}{I:Pos}(h:SX X sc N L k)(c:QB sc N i x=true)(hi:PV X b g)(he:PV X e f)
 (ha : ∀v,assign (.Subscript (.Name x I) b p) X.env v=(do
   let O <- holding [v] (eval (.Name x I) X.env);let Y <- holding [v,O] (eval b X.env)
   standAt p
   holding [v,O,Y] (setItem O Y v)
   release [v,O,Y] []):=by intro _;rfl)
 (hs:swapsWithSole [.Subscript (.Name x I) b p] e pos.line X.env=pure false:=by rfl) (hw:swappedStores [.Subscript (.Name x I) b p] e X.env=pure none:=by rfl)
 (h1:(assignEach [.Subscript (.Name x I) b p] X.env).map (·.2)=[assign (.Subscript (.Name x I) b p) X.env]:=by rfl) :
 PSD X (.Assign [.Subscript (.Name x I) b p] e pos) (XH i g f):=
 xF (JM he (Ve (h.var c) hi ZE ha) hs hw h1) λD σ H hZ=>by
  obtain⟨E0,E,H0,γ,fl,rs,z,a6⟩:=hZ;obtain⟨d,e1,z⟩:=bind_some z;obtain⟨ds,S,z⟩:=bind_some z;obtain⟨kk,Z,z⟩:=bind_some z;obtain⟨dk,e4,Z⟩:=bind_some Z;obtain⟨j,e5,z⟩:=zy z;subst z;have S:=yU S;refine⟨H0,γ,d,rs.rc,e1,λv H' H0' x r=>?_⟩;have a0:=rs.step x;obtain⟨a,xs,h1,h2,h3,h4⟩:=a0.rc.own i ds S;refine⟨_,h1,H0',γ,dk,a0.rc,e4,λv2 H2 ab U r2=>?_⟩;rw [jw Z]at r2;have ac:=a0.step U;refine⟨a,xs,kk,j,rfl,ji r2,U.s1 _ _ h3,by rw [h4.length];exact Zf e5,?_⟩;exact a6 _ _ ab (ac.rewrite (xs:=xs) S h1 ((h4.mono U.s0).set j (r.mono U.s0)))
theorem ZL{tg:Expr}{T:Tg}(O:PG X tg (gOf X.K T))(S:PV X e f)(U:swapsWithSole [tg] e pos.line X.env=pure false:=by rfl)(hw:swappedStores [tg] e X.env=pure none:=by rfl)
 (h1:(assignEach [tg] X.env).map (·.2)=[assign tg X.env]:=by rfl):PSD X (.Assign [tg] e pos) (JB T f):=
 xF (JM S O U hw h1) λD σ H Y=>by
  obtain⟨E0,E,H0,γ,fl,I,z,Z⟩:=Y;obtain⟨d,e1,z⟩:=bind_some z;obtain⟨γ1,e2,z⟩:=zy z;subst z;refine⟨H0,γ,d,I.rc,e1,λv H' H0' x r=>?_⟩;exact yh x.sub r e2 λσ1 _ a2=>Z σ1 H' H0' (a2 E0 E (I.step x))
end
structure FnD(P:Program)(w:World)(K:PySem.W.Frag)(mg:Str->Option Value)(base:Heap)(k:Nat)(x:Str)(n:Nat)(F:List D->Option Res):Prop where
 ex : ∃(f:Addr) (fd:FuncData) (ps:List Str),ps.length=n/\FnOk P w K mg base CX0 k f fd ps (spF K ps.length F)/\mg x=some (.ref f)/\PySem.W.keepIn K (.ref f)=true/\Binds K fd ps []
structure DefAt(K:PySem.W.Frag)(mg:Str->Option Value)(x:Str)(st:Stmt)(ps:List Str):Prop where
 ex : ∃(f:Addr) (fd:FuncData),L2.Fun K x x st f fd/\(∀us:List Value,us.length=ps.length->bindArgs fd ⟨us,[]⟩=pure (ps.zip us))/\mg x=some (.ref f)
def PAn(X:Cx)(es:List Expr)(n:Nat)(g:CO (List D)):Prop:=PAD X es g/\∀γ ds,g γ=some ds->ds.length=n
section
variable{X:Cx}{sc:Scope}{N L:List Str}{k:Nat}{e:Expr}{es:List Expr}{f:CO D}{g:CO (List D)}{n:Nat}{pos p:Pos}{x:Str}
theorem zn:PAn X [] 0 zC:=⟨zcJ,λγ ds h=>by cases h;rfl⟩
theorem za(ha:PV X e f)(z:PAn X es n g)(I:starEach (e::es) X.env=(false,eval e X.env)::starEach es X.env:=by rfl):PAn X (e::es) (n+1) (zb f g):=
 ⟨zaD ha z.1 I,λγ ds h=>by
  obtain⟨y,e1,h⟩:=bind_some h;obtain⟨r,O,h⟩:=zy h;subst h;rw [ziQ,z.2 γ r O]⟩
variable{j:Nat}{F:List D->Option Res}
theorem jo(z:FnD X.prog X.w X.K X.mg X.base j x n F)(I:j<=k)(h:SX X sc N L k)(c:kx sc x=true)(ha:PAn X (e::es) n g)
 (O:starEach (e::es) X.env=(false,eval e X.env)::starEach es X.env:=by rfl) (S:(backTo pos (starEach es X.env)).any (·.1)=false:=by rfl):PV X (.Call (.Name x p) (e::es) [] pos) (zA F g):=by
 obtain⟨fa,fd,ps,hn,G,hm,U,Y⟩:=z.ex;subst hn;exact zcp (A0:=[]) G ha.1 ha.2 λ{t} Z=>Vg G (h.room.mono I) (h.gl c).1 hm U Y .nil zeG Z (h.gl c).2.2 O S
theorem xk(z:FnD X.prog X.w X.K X.mg X.base j x n F)(I:j<=k)(h:SX X sc N L k)(c:kx sc x=true)(ha:PAn X (e::es) n g)
 (O:starEach (e::es) X.env=(false,eval e X.env)::starEach es X.env:=by rfl) (S:(backTo pos (starEach es X.env)).any (·.1)=false:=by rfl):PO X (.Call (.Name x p) (e::es) [] pos) (zY F g):=by
 obtain⟨fa,fd,ps,hn,G,hm,U,Y⟩:=z.ex;subst hn;exact zcz G ha.1 ha.2 λ{t} Z=>Vg G (h.room.mono I) (h.gl c).1 hm U Y .nil zeG Z (h.gl c).2.2 O S
end
section
variable{P:Program}{w:World}{K:PySem.W.Frag}{mg:Str->Option Value}{base:Heap}
def za9(N ps:List Str)(st:Stmt):Bool:=
 decide ((defScope st).kind = .function) && decide ((defScope st).isCoroutine=false) && decide ((defScope st).isGenerator=false) && decide N.Nodup && decide (N.take ps.length=ps) &&
 ps.all (λx=>decide ((defScope st).names.lookup x=some .local) || decide ((defScope st).names.lookup x=some .cell)) && (defScope st).names.all (λy=> !(y.2==NameKind.free))
theorem XF{N ps:List Str}{st:Stmt}(h:za9 N ps st=true):FnScope N ps (defScope st):=by
 unfold za9 at h;simp only [Bool.and_eq_true,decide_eq_true_eq,zjG,zjF,zj7]at h;obtain⟨⟨⟨⟨⟨⟨h1,h2⟩,z⟩,I⟩,O⟩,S⟩,U⟩:=h;exact⟨h1,h2,z,I,O,S,λy Y e=>by have:=U y Y;rw [e]at this;exact absurd this ⋯⟩
theorem xp{X:Cx}(hx:X.xe=λ_ _=>False):PassesOwn (model X.prog X.w) X.A X.env X.xe:=by rw [hx];exact PassesOwn.never
theorem xU{x:Str}{st:Stmt}{N ps:List Str}{k:Nat}{F:CO Fl}(A:DefAt K mg x st ps)(hd:za9 N ps st=true)
 (I : ∀X:Cx,X.prog=P->X.w=w->X.K=K->X.mg=mg->X.base=base->SX X (defScope st) N N k->X.xe=(λ_ _=>False)->WM X (defBody st) F) :
 FnD P w K mg base (k+1) x ps.length (jC N.length F):=by
 obtain⟨f,fd,z,O,hm⟩:=A.ex;have S:=XF hd;refine⟨f,fd,ps,rfl,zfd z S λcdv A outer s H E U=>?_,hm,z.kp,.all O⟩;exact I _ rfl rfl rfl rfl rfl ⟨rfl,rfl,S.nd,rfl,U,λ_ _=> .inl rfl⟩ rfl
theorem def_mk{h:Heap}{x:Str}{st:Stmt}{ps:List Str}{f:Addr}{oc:Value}{od an:Option Addr}{osl:Array (Option Value)}{kV doc pm cdv ct:Value}(z:K.In h)(G:h.Ns mainGlobals mg)
 (a:zlQ K mainGlobals x=some (some (.ref f))) (l:K.lookup f=some ⟨oc,od,.func (PySem.W.fnOf x x (defArgs st) (defBody st) (defScope st) .none kV doc pm an cdv ct),osl⟩)
 (c:PySem.W.codeIn K cdv x=true) (kp:PySem.W.keepIn K (.ref f)=true)
 (b : ∀(kV doc pm:Value) (an:Option Addr) (cdv ct:Value) (us:List Value),us.length=ps.length->bindArgs (PySem.W.fnOf x x (defArgs st) (defBody st) (defScope st) .none kV doc pm an cdv ct) ⟨us,[]⟩=pure (ps.zip us)):DefAt K mg x st ps:=
 ⟨f,_,zfc l c kp,b kV doc pm an cdv ct,PySem.W.mg_of z G a⟩
theorem zgJ{x:Str}{st:Stmt}{f:Addr}{fd:FuncData}{N ps:List Str}{k:Nat}{F:CO Fl}(z:L2.Fun K x x st f fd)(hd:za9 N ps st=true)
 (I : ∀X:Cx,X.prog=P->X.w=w->X.K=K->X.mg=mg->X.base=base->SX X (defScope st) N N k->X.xe=(λ_ _=>False)->WM X (defBody st) F) :
 FnOk P w K mg base CX0 (k+1) f fd ps (spF K ps.length (jC N.length F)):=by
 have S:=XF hd;exact zfd z S λcdv A outer s H E O=>I _ rfl rfl rfl rfl rfl ⟨rfl,rfl,S.nd,rfl,O,λ_ _=> .inl rfl⟩ rfl
theorem law_true{F:List D->Option Res}{H:Hp}{a:Addr}{ns:List Int}(z:SqL K H a (ns.map V.int))(I:F [.lst (ns.map D.int)]=some (.val (.bl true))) :
 spF K 1 F [.ref a] H (λv _=>v = .bl true) λ_ _ _=>False:=by
 refine⟨H,[.lst (ns.map D.int)],.val (.bl true),Same.refl _,Reps.cons (ZI z ?_) Reps.nil,rfl,I,λv H' H0' _ r=>r⟩;clear I z
 induction ns with
 | nil=>exact Reps.nil
 | cons n ns O=>exact Reps.cons rfl O
end
end DL
namespace DL
open PySem PySem.Spec PyProof.Rows L2
open PySem.W (KasT kas_sort kas_ask kat_run kat_snds kat_lt kat_cons kat_no kat_kind KatTups KatGo)
def zfy(h:Heap)(v:Value)(k:Int):Prop:=∃x o xs m t,v = .ref x/\h.get? x=some o/\o.cls = .type "tuple"/\o.data = .seq xs m/\xs[0]? = some (.int k t)
theorem VG{h:Heap} : ∀{vs:List Value} {ks:Nat->Int},(∀i (hi:i<vs.length),zfy h vs[i] (ks i))->∃fs,KatTups h vs fs/\fs.length=vs.length/\∀f∈fs,∃k t,f=zlM k t
 | [],ks,_=>⟨[],KatTups.nil,rfl,λf z=>by cases z⟩
 | v::vs,ks,H=>by
  obtain⟨fs,h1,h2,I⟩:=VG (vs:=vs) (ks:=λi=>ks (i+1)) λi hi=>H (i+1) (by simpa using hi);obtain⟨x,o,xs,m,t,e1,O,S,U,Y⟩:=H 0 ⋯;have e1:v = .ref x:=e1;subst e1;exact⟨.int (ks 0) t::fs,KatTups.cons O S U Y h1,by simp [h2],λf z=>by
   rcases ziq.mp z with rfl | z
   ·exact⟨_,_,rfl⟩
   ·exact I f z⟩
end DL
namespace DL
open PySem PySem.Spec PyProof.Rows L2
open AutoSeq1 (wpAny_loadPart')
theorem y9:fillsNumberSlot (.type "tuple") "mul" = pure false:=
 PySem.fillsNumberSlot_seq (id:="tuple.__mul__") (r:=some (.builtin "tuple.__rmul__")) zkY.lookup ⋯ F.slot_tuple_rmul.lookup ⋯
theorem JG:seqRepeat? (.type "tuple")=pure (some (.builtin "tuple.__mul__")):=by
 unfold seqRepeat?;rw [PySem.seqSlot_of (T:="tuple") (name:="__mul__") (id:="tuple.__mul__") zkY.lookup ⋯,PySem.seqSlot_of (T:="tuple") (name:="__rmul__") (id:="tuple.__rmul__") F.slot_tuple_rmul.lookup ⋯];rfl
theorem wM(a:Int)(t:Tok)(l:Addr)(items:Array Value)(n:Nat)(z:Option Addr)(sl:Array (Option Value)) :
 Meets (Builtin.«int.__rmul__» ⟨[.int a t,.ref l],[]⟩) (λ_ R s=>s.heap.get? l=some {cls:= .type "tuple",dict:=z,data:= .seq items n,slots:=sl}/\R (.ok (.ret Value.notImplemented)) s):=
 .of_wp λprog w A R s h=>by obtain⟨I,g,d,tk,os⟩:=s;obtain⟨O,h⟩:=h;wp_walk;exact⟨_,rfl,h⟩
theorem Zz(a:Int)(t:Tok)(l:Addr)(items:Array Value)(n:Nat)(I:Option Addr)(sl:Array (Option Value))(h1 : ¬(decide (a < -(2 ^ 63)) || decide (a>=2 ^ 63))=true)(h2 : ¬(items.isEmpty || a==1)=true)
 (O : ¬(decide (a<=0) || items.isEmpty)=true) (S : ¬((items.size:Int)*a>(2 ^ 63 - 1)/8)) (U : ¬Builtin.Tuple.tupleTooMany ((items.size:Int)*a)=true) (Y:((zii a.toNat items).foldl (· ++ ·) #[]).size<=sizeLine) :
 Meets (Builtin.«tuple.__mul__» ⟨[.ref l,.int a t],[]⟩) (λ_ R s=>s.heap.get? l=some {cls:= .type "tuple",dict:=I,data:= .seq items n,slots:=sl}/\
  R (.ok (.ret (.ref s.heap.objs.size))) {s with heap:=s.heap.push {cls:= .type "tuple",data:= .seq ((zii a.toNat items).foldl (· ++ ·) #[])}}):=
 .of_wp λprog w A R s h=>by
  obtain⟨Z,g,d,tk,os⟩:=s;obtain⟨z,h⟩:=h
  wp_walk using zjX z
  rw [if_neg h1];refine zid (zly (s:=⟨Z,g,d,tk,os⟩) ⟨_,z,rfl,n,rfl⟩ ?_);dsimp only;rw [if_neg h2,if_neg O,if_neg S,if_neg U];refine zid (m:=zjP _) (zjD ?_ Y);exact zik ⟨_,rfl,h⟩
theorem wE(a:Int)(t:Tok)(l:Addr)(items:Array Value)(n:Nat)(I:Option Addr)(sl:Array (Option Value))(h1 : ¬(decide (a < -(2 ^ 63)) || decide (a>=2 ^ 63))=true)(h2 : ¬(items.isEmpty || a==1)=true)
 (O:(decide (a<=0) || items.isEmpty)=true) :
 Meets (Builtin.«tuple.__mul__» ⟨[.ref l,.int a t],[]⟩) (λ_ R s=>s.heap.get? l=some {cls:= .type "tuple",dict:=I,data:= .seq items n,slots:=sl}/\
  R (.ok (.ret (.ref s.heap.objs.size))) {s with heap:=s.heap.push {cls:= .type "tuple",data:= .seq #[]}}):=
 .of_wp λprog w A R s h=>by
  obtain⟨S,g,d,tk,os⟩:=s;obtain⟨z,h⟩:=h
  wp_walk using zjX z
  rw [if_neg h1];refine zid (zly (s:=⟨S,g,d,tk,os⟩) ⟨_,z,rfl,n,rfl⟩ ?_);dsimp only;rw [if_neg h2,if_pos O];refine zid (m:=zjP _) (zjD ?_ (zjj _));exact zik ⟨_,rfl,h⟩
theorem wD(a:Int)(t:Tok)(l:Addr)(items:Array Value)(n:Nat)(I:Option Addr)(sl:Array (Option Value))(h1 : ¬(decide (a < -(2 ^ 63)) || decide (a>=2 ^ 63))=true)(h2:(items.isEmpty || a==1)=true) :
 Meets (Builtin.«tuple.__mul__» ⟨[.ref l,.int a t],[]⟩) (λ_ R s=>s.heap.get? l=some {cls:= .type "tuple",dict:=I,data:= .seq items n,slots:=sl}/\R (.ok (.ret (.ref l))) s):=
 .of_wp λprog w A R s h=>by
  obtain⟨O,g,d,tk,os⟩:=s;obtain⟨z,h⟩:=h
  wp_walk using zjX z
  rw [if_neg h1];refine zid (zly (s:=⟨O,g,d,tk,os⟩) ⟨_,z,rfl,n,rfl⟩ ?_);dsimp only;rw [if_pos h2];refine zid (m:=zkc _) ?_;unfold zkc;refine zid (zlj (T:="tuple") ⟨_,z,rfl⟩ (zik ?_));rw [if_pos ⋯];exact zid (zkG (zik ⟨_,rfl,h⟩))
section
variable{X:Cx}
def zd7(K:PySem.W.Frag):R2:=λx y H Q=>∃l k xs,x = .ref l/\y = .int k/\SqT K H l xs/\ -(2 ^ 62)<=k/\k<2 ^ 62/\xs.length*k.toNat<=sizeLine/\(xs=[]\/k=1->Q (.ref l) H)/\
 ∀p,H p=none->Q (.ref p) (upd H p (.tup (zii k.toNat xs).flatten))
theorem zcK:OpR X (binaryOp .Mult) (zd7 X.K):=by
 intro pins s σ H x y v u Q I rx ry h;obtain⟨l,k,xs,rfl,rfl,hq,h1,h2,hz,q1,q2⟩:=h;cases rx;obtain⟨t,rfl⟩:=ry;obtain⟨z,r,ht,z1⟩:=I.tuple hq;obtain⟨⟨cls,Y,data,sl⟩,O,hc,n,hd⟩:=id ht;simp only at hc hd;subst hc hd;have ac:=r.length;have Z : ¬(decide (k < -(2 ^ 63)) || decide (k>=2 ^ 63))=true:=by simp;omega
 refine wpAny_binaryOp_repeat_ref (T:="tuple") (U:="int") ⋯ ⟨_,O,rfl⟩ (λs'=>zme s' k t) y9 F.fills_int_mul zlF JG F.slot_int_index.lookup
  (zkS zlF (zme s k t) F.entry_int_rmul (F.args_int_rmul_2 _ _) (wM k t l z.toArray n Y sl) ⟨O,rfl,⟨_,O,rfl⟩,?_⟩)
 have f0 : ∀m:Nat,zl1 (λx1 x2=>x1++x2) #[] (zii m z.toArray)=(zii m z).flatten.toArray:=λm=>by
  have:=wg z m [];rw [zkA]at this;exact this
 by_cases g2:(z.toArray.isEmpty || k==1)=true
 ·refine zkS zkY ⟨_,O,rfl⟩ zmc (zl7 _ _) (wD k t l z.toArray n Y sl Z g2) ⟨O,⟨.ref l,H,I,rfl,q1 ?_⟩⟩
  rw [zjF]at g2;rcases g2 with g | g
  ·left
   have:z=[]:=by simpa using g
   exact(r.nil_iff).mp this
  ·right;simpa using g
 ·have a1:=g2
  simp only [zjF,not_or]at a1;have ad:z ≠ []:=by intro e;exact a1.1 (by rw [e];rfl)
  have ah:0<z.length:=List.length_pos_iff.mpr ad;by_cases S:(decide (k<=0) || z.toArray.isEmpty)=true
  ·have hk:k.toNat=0:=by
    rw [zjF]at S;rcases S with g | g
    ·have:=of_decide_eq_true g;omega
    ·exact absurd g a1.1
   refine zkS zkY ⟨_,O,rfl⟩ zmc (zl7 _ _) (wE k t l z.toArray n Y sl Z g2 S) ⟨O,?_⟩;refine⟨.ref s.heap.objs.size,_,I.laid (t':=s.toks) (o:= .tup (zii k.toNat xs).flatten) (λc ob q=>zif _ q) (zim _) ?_,rfl,q2 _ (I.hok.fresh (zim _))⟩;rw [hk];exact⟨zjj _,[],.nil,IsTupD.new _ _⟩
  ·have hk : ¬k<=0:=by intro g;exact S (by rw [zjF];exact .inl (decide_eq_true g))
   have hsz:z.length*k.toNat<=sizeLine:=by rw [<- ac];exact hz
   have ai:((z.toArray.size:Nat):Int)*k<=(sizeLine:Int):=by
    rw [zir];have e:((z.length*k.toNat:Nat):Int)=(z.length:Int)*k:=by
     rw [Int.natCast_mul,zlP ⋯]
    omega
   have aj:sizeLine=16777216:=zkr;have af:(zl1 (λx1 x2=>x1++x2) #[] (zii k.toNat z.toArray)).size<=sizeLine:=by
    rw [f0,zir,Q1,zlA];exact hsz
   refine zkS zkY ⟨_,O,rfl⟩ zmc (zl7 _ _) (Zz k t l z.toArray n Y sl Z g2 S ⋯ (by unfold Builtin.Tuple.tupleTooMany;simp only [decide_eq_true_eq];omega) af) ⟨O,?_⟩;rw [f0];refine⟨.ref s.heap.objs.size,_,I.laid (t':=s.toks) (o:= .tup (zii k.toNat xs).flatten) (λc ob q=>zif _ q) (zim _) ?_,rfl,q2 _ (I.hok.fresh (zim _))⟩;exact⟨by rw [Q1,zlA];exact hz,_,r.rep k.toNat,IsTupD.new _ _⟩
theorem zcd{K:PySem.W.Frag}:Snd K (λx y H Q=>rI CMul (λi j=> .int (i*j)) x y H Q\/zd7 K x y H Q) qH:=λH0 H x y dx Y d Q s O S z q=>by
 cases dx<;>cases Y<;>simp [qH]at z
 ·obtain⟨e1,I⟩:=z
  subst I;exact .inl ⟨_,_,ji O,ji S,zbg e1,q _ H H0 (Ext.refl s) rfl⟩
 ·rename_i ds j
  obtain⟨⟨Z,hj⟩,rfl⟩:=z;obtain⟨a,xs,rfl,h1,h2⟩:=xA O;obtain⟨q1,q2⟩:=wc hj;refine .inr ⟨a,j,xs,rfl,ji S,sameT s h1,q1,q2,xI (by rw [h2.length];exact Z),λe=>?_,λp U=>?_⟩
  ·refine q _ H H0 (Ext.refl s) ?_
   rcases e with e | e
   ·have I:ds=[]:=by
     have:=h2.length;rw [e]at this;exact zje this.symm
    subst I;rw [show(zii j.toNat ([]:List D)).flatten=[]by simp];exact qy h1 h2
   ·subst e
    rw [show(zii (1:Int).toNat ds).flatten=ds by simp];exact qy h1 h2
  ·exact q _ _ _ (Ext.alloc s U _) (qy (SqT.of zL) ((ZH h2 _).mono (jt (jm s U) _)))
theorem qV{a b:Expr}{pos:Pos}{fa fb:CO D}(ha:PV X a fa)(z:PV X b fb):PV X (.BinOp a .Mult b pos) (zq qH fa fb):=w6 (op_mul.or zcK) zcd ha z
end
end DL
namespace L2
open PySem PySem.Spec PyProof.Rows
open AutoSeq1 (wpAny_loadPart')
section
variable{prog:Program}{w:World}{A:Around}{E:Value->Shared->Prop}{s:Shared}
theorem Yf{z it l:Addr}{n:Nat}{xs:Array Value}{x S:Value}{Q:Value->Shared->Prop}(hz:IsEnum s.heap z it n S)(h1:ItAt .T s.heap it l n)(hl:SqAt .T s.heap l xs)(hx:xs[n]? = some x)(Z:z≠it)
 (hQ : ∀g,IsEnumOut g z it ((n:Int)+1) x s.heap.objs.size->ItAt .T g it l (n+1)->IsPair g s.heap.objs.size (.int n s.toks) x->g.objs.size=s.heap.objs.size+1->
   (∀c o,c≠z->c≠it->s.heap.get? c=some o->g.get? c=some o)->Q (.ref s.heap.objs.size) {s with heap:=g,toks:=s.toks+1}) :
 wpAny (model prog w) A (Builtin.«enumerate.__next__» ⟨[.ref z],[]⟩) (λal s'=>∃v,al = .done (.ret v)/\Q v s') E s:=by
 refine zid (m:=field (.ref z) 2) (ziX hz rfl (x:= .ref it) rfl ?_);refine zid (m:=ziz (.ref it)) (qm h1 hl hx λg1 am a4=>?_);have a5:IsEnum g1 z it n S:=a4.extBut _ _ Z hz;refine zid (m:=field (.ref z) 3) (ziX a5 rfl (x:=rawInt n) rfl ?_);refine zid (m:=field (.ref z) 4) (ziX a5 rfl (x:= .none) rfl ?_);refine zid (m:=mkInt n) (wpAny_mkInt ?_);refine zid (m:=setField (.ref z) 3 (rawInt ((n:Int)+1))) (zi4 a5 ⋯ λg2 a6 a7=>?_);replace a6:IsEnum g2 z it ((n:Int)+1) S:=a6;refine zid (m:=setField (.ref z) 4 .none) (zi4 a6 ⋯ λU a8 a9=>?_);replace a8:IsEnum U z it ((n:Int)+1) S:=a8;refine zid (m:=newTuple [.int n s.toks,x]) (zln ?_);have a0:IsEnum (U.push {cls:= .type "tuple",data:= .seq #[.int n s.toks,x]}) z it ((n:Int)+1) S:=zif _ a8;generalize a1:U.push {cls:= .type "tuple",data:= .seq #[.int n s.toks,x]}=O at a0;have y1:g1.objs.size=s.heap.objs.size:=a4.1;have y2:g2.objs.size=g1.objs.size:=a7.1;have y3:U.objs.size=g2.objs.size:=a9.1;have hsz:U.objs.size=s.heap.objs.size:=by rw [y3,y2,y1]
 have aq:z<s.heap.objs.size:=ziw hz;have ar:IsPair O s.heap.objs.size (.int n s.toks) x:=by
  show O.get? _=_;rw [<- a1,<- hsz];exact zix _ rfl
 have y4:O.objs.size=s.heap.objs.size+1:=by rw [<- a1,ziP,hsz]
 have au : ∀c o,c≠z->c≠it->s.heap.get? c=some o->O.get? c=some o:=λc o I c2 e=>by
  rw [<- a1];exact zif _ (a9.extBut _ _ I (a7.extBut _ _ I (a4.extBut _ _ c2 e)))
 have av:ItAt .T O it l (n+1):=am.at λo e=>by rw [<- a1];exact zif _ (a9.extBut _ _ Z.symm (a7.extBut _ _ Z.symm e))
 refine zid (m:=ziJ (.ref z)) ?_;unfold ziJ;refine zid (ziX a0 rfl (x:= .none) rfl (zik ?_));simp only [if_true];refine zid (zkG (zid (ziX a0 rfl (x:=S) rfl ?_)));refine zid (zi4 a0 ⋯ λg5 ac ag=>?_);replace ac:IsEnum g5 z it ((n:Int)+1) x:=ac;rw [hsz];refine zid (m:=zjg (.ref z) (.ref s.heap.objs.size)) ?_;unfold zjg;refine zid (zi4 ac ⋯ λg6 ad ah=>?_);replace ad:IsEnumOut g6 z it ((n:Int)+1) x s.heap.objs.size:=ad;refine zi4 ad ⋯ λY ae ai=>?_;replace ae:IsEnumOut Y z it ((n:Int)+1) x s.heap.objs.size:=ae;have up : ∀c o,c≠z->O.get? c=some o->Y.get? c=some o:=λc o I e=>ai.extBut _ _ I (ah.extBut _ _ I (ag.extBut _ _ I e));have y7:Y.objs.size=s.heap.objs.size+1:=by
  have q5:g5.objs.size=O.objs.size:=ag.1;have q6:g6.objs.size=g5.objs.size:=ah.1;have q7:Y.objs.size=g6.objs.size:=ai.1;rw [q7,q6,q5,y4]
 exact zid (zkq (zik ⟨_,rfl,hQ Y ae (av.at λo e=>up _ o Z.symm e) (up _ _ (zjI aq) ar) y7 λc o I c2 e=>up c o I (au c o I c2 e)⟩))
theorem V2{z it l:Addr}{n:Nat}{xs:Array Value}{I:Value}{Q:Fin->Shared->Prop}(O:A.handled=none)(S:IsEnum s.heap z it n I)(h1:ItAt .T s.heap it l n)(U:SqAt .T s.heap l xs)(hx:xs[n]? = none)
 (Y : ∀g e,Heap.ExtBut it s.heap g->(∃o,g.get? e=some o/\o.cls = .type "StopIteration")->E (.ref e) {s with heap:=g}) :
 wpAny (model prog w) A (Builtin.«enumerate.__next__» ⟨[.ref z],[]⟩) Q E s:=
 zid (m:=field (.ref z) 2) (ziX S rfl (x:= .ref it) rfl (zid (m:=ziz (.ref it)) (kt O h1 U hx Y)))
end
def zdd(i:Addr):Obj:={cls:= .type "enumerate",data:= .fields #[.none,.bool false,.ref i,rawInt 0,.none,.none]}
def wm(h:Heap)(l:Addr):Heap:=ziA (ziA h (itO .T l)) (zdd h.objs.size)
theorem V1(l:Addr)(xs:Array Value) :
 Meets (Builtin.«enumerate.__new__» ⟨[.type "enumerate",.ref l],[]⟩) (λ_ R s=>SqAt .T s.heap l xs/\R (.ok (.ret (.ref (s.heap.objs.size+1)))) {s with heap:=wm s.heap l}):=
 .of_wp λprog w A R s h=>by
  obtain⟨S,g,d,tk,os⟩:=s;obtain⟨U,h⟩:=h;have Y:=sub_enumerate;have z:Heap.IsTuple (zlf ⟨S,g,d,tk,os⟩) l xs:=U;obtain⟨o,I,O,m,hd⟩:=id z;obtain⟨cls,Z,a0,sl⟩:=o;simp only at O hd;subst O hd;simp only [wm,zdd,itO,ziP]at h
  wp_walk using zjX I
  refine wpAny_stack_any λst=>zik ?_;split
  ·rename_i c _ _ _ _ _
   cases (c==zkm "enumerate")<;>(wp_walk using zjX I,zlk z;exact⟨_,rfl,by simpa [ziP,zk3]using h⟩)
  ·wp_walk using zjX I,zlk z
   exact⟨_,rfl,by simpa [ziP,zk3]using h⟩
def Ite(K:PySem.W.Frag)(a:Addr):It:=
 ⟨λi H=>∃xs,SqK .T K H a xs/\i<xs.length,
  λi H x H'=>∃p u,x = .ref p/\H p=none/\H'=upd H p (.tup [.int i,u])/\(∀xs,SqK .T K H a xs->xs[i]? = some u),
  λi H=>∃xs,SqK .T K H a xs/\xs.length<=i⟩
theorem xu{prog:Program}{w:World}{A:Around}{E:Value->Shared->Prop}{s:Shared}{z it:Addr}{n:Int}{S:Value}{Q:Value->Shared->Prop}(U:IsEnum s.heap z it n S)(h:Q (.ref z) s):wpAny (model prog w) A (pyIter (.ref z)) Q E s:=by
 have I:s.TypeIs (.ref z) "enumerate":=⟨_,U,rfl⟩;refine wpAny_pyIter_slot I F.slot_enumerate_iter (zjC F.slot_enumerate_iter I F.entry_enumerate_iter ?_ (F.args_enumerate_iter_1 _));have O:wpAny (model prog w) A.in1 (ret (.ref z)) (λO s'=>∃v,O = .done (.ret v)/\∃T m,s'.TypeIs v T/\typeLookup (.type T) "__next__" = pure (some m)/\Q v s') E s:=zik ⟨_,rfl,"enumerate",_,I,zkp.lookup,h⟩;exact O
theorem Yz{P:Program}{w:World}{K:PySem.W.Frag}{elts:List Expr}{x1:Nat}{tpos:Pos}{z it a:Addr}(ad:z≠it) :
 Turn P w K (.Tuple elts x1 tpos) (Ite K a) [z,it] z (λi h=>(∃Y,IsEnum h z it i Y)/\ItAt .T h it a i) where
 mem:=by simp
 obj:=λi h ⟨⟨Y,O⟩,h1⟩ y hy=>by
  simp only [ziq,ziH,or_false]at hy;rcases hy with rfl | rfl
  ·exact⟨_,O,λv q=>by cases q⟩
  ·exact h1.obj
 keep:=λi h h' ⟨⟨Y,O⟩,h1⟩ k=>⟨⟨Y,k z ⋯ _ O⟩,h1.at λo e=>k it ⋯ o e⟩
 item:=by
  rintro X hP hw hK hc i pins s σ H E I hf ⟨⟨Y,O⟩,h1⟩ ⟨xs,a6,ag⟩;subst hP hw hK;obtain⟨ah,a9,p1,z1⟩:=I.sq a6;have hx:xs[i]? = some xs[i]:=zih ag;obtain⟨u1,aj,ak⟩:=a9.get hx;have Z:s.TypeIs (.ref z) "enumerate":=⟨_,O,rfl⟩;unfold pyNext;refine zid (zke (zjh (name:=zi0 "__next__") Z zkp (zjC zkp Z F.entry_enumerate_next
   (Yf O h1 p1 (x:=u1) (by simpa using aj) ad λg a1 a2 a3 a4 a5=>zik ⟨_,rfl,?_⟩) (F.args_enumerate_next_1 _))))
  refine wpAny_letOwnedTupleGo_enum a1 λg2 ap ac=>?_;have lt : ∀{c o},s.heap.get? c=some o->s.heap.objs.size≠c:=λe=>zjI (ziw e);have aq:IsPair g2 s.heap.objs.size (.int i s.toks) u1:=ac.extBut _ _ (lt O) a3;have kk : ∀U u,U ∉ [z,it]->s.heap.get? U=some u->g2.get? U=some u:=λU u S e=>by
   simp only [ziq,ziH,or_false,not_or]at S;exact ac.extBut _ _ S.1 (a5 U u S.1 S.2 e)
  have I1:Inv X pins σ (upd H s.heap.objs.size (.tup [.int i,xs[i]])) {s with heap:=g2,toks:=s.toks+1}:=
   I.turnLaid (fp:=[z,it]) kk hf (zim _) ⟨by show 2<=sizeLine;decide,[.int i s.toks,u1],.cons ⟨_,rfl⟩ (.cons ak .nil),⟨_,aq,rfl,_,rfl⟩⟩
  have as:H s.heap.objs.size=none:=I.fresh;refine⟨.ref s.heap.objs.size,_,I1,rfl,⟨_,_,rfl,as,rfl,λb5 au=>by rw [I.sq_inj au a6];exact hx⟩,?_,λU S=>?_⟩
  ·exact⟨⟨_,by have:=ap;rwa [show((i:Int)+1)=((i+1:Nat):Int)by omega]at this⟩,a2.at λo e=>ac.extBut _ _ ad.symm e⟩
  ·have av:U≠s.heap.objs.size:=by
    simp only [ziq,ziH,or_false]at S;rcases S with rfl | rfl
    ·exact(lt O).symm
    ·obtain⟨o,e,_⟩:=h1.obj;exact(lt e).symm
   rw [zG av];exact(hf U S).1
 done:=by
  rintro X hP hw hK hc i pins s σ H E I hf ⟨⟨Y,O⟩,h1⟩ ⟨xs,a6,hi⟩;subst hP hw hK;obtain⟨ah,a9,p1,z1⟩:=I.sq a6;have Z:s.TypeIs (.ref z) "enumerate":=⟨_,O,rfl⟩;have l1:=a9.length;unfold pyNext;refine zid (zke (zjh (name:=zi0 "__next__") Z zkp (zjC zkp Z F.entry_enumerate_next
   (V2 (show X.A.handled=none from I.ok.hd hc) O h1 p1 (by simp;omega) λg e hk he=>?_) (F.args_enumerate_next_1 _))))
  obtain⟨o,ho,az⟩:=he;refine zid (zmh (T:="StopIteration") (b:=true) ⟨o,ho,az⟩ isSubtype_stop (zik ⟨rfl,?_⟩));refine I.turnedL (t':=s.toks) (fp:=[z,it]) (λU u S e=>?_) hf;simp only [ziq,ziH,or_false,not_or]at S;exact hk U u S.2 e
 self:=λ_ _ _ _ _ st h=>xu st.1.choose_spec h
def zgH(K:PySem.W.Frag)(ta:TA):TI:=λσ H R=>ta σ H λvs H1=>∃a,vs=[.ref a]/\(∃xs,SqK .T K H1 a xs)/\R (Ite K a) H1
theorem zcE{X:Cx}{e1:Expr}{ta:TA}{p pos:Pos}{elts:List Expr}{x1:Nat}{tpos:Pos}(Z:Gl X "enumerate")(hm:X.mg "enumerate" = none)(ha:PA X [e1] ta)
 (hv:bootBuiltins "enumerate" = some (.type "enumerate")) (hs:starEach [e1] X.env=[(false,eval e1 X.env)]:=by rfl) :
 PI X (.Tuple elts x1 tpos) (.Call (.Name "enumerate" p) [e1] [] pos) (zgH X.K ta):=by
 intro pins s σ H R I h;refine Call_ (xt I Z hm hv (zi7 (thn (ha pos pins s σ H _ I h) λus s1 hZ=>?_) (by rw [hs];rfl) rfl));obtain⟨vs,H1,z,r1,q1⟩:=hZ;obtain⟨a,e,⟨xs,a5⟩,q⟩:=q1;subst e;obtain⟨w1,eu,a7⟩:=xR r1;subst eu;cases a7;obtain⟨a8,ac,S,z1⟩:=z.sq a5;have la:=S.lt;refine callType_new F.called_enumerate ⋯ (F.typeCall_enumerate_1 _) (F.newCall_enumerate_1 _) (λobj=>F.args_object_init_2 obj _) F.entry_enumerate_new (V1 a a8.toArray) ⟨S,?_⟩;have keep : ∀c o,s1.heap.get? c=some o->(wm s1.heap a).get? c=some o:=λc o e=>zif _ (zif _ e);have y1:(ziA s1.heap (itO .T a)).objs.size=s1.heap.objs.size+1:=ziP ..;have g0:ItAt .T (wm s1.heap a) s1.heap.objs.size a 0:=(k8 .T s1.heap a).at λo e=>zif _ e;have O:IsEnum (wm s1.heap a) (s1.heap.objs.size+1) s1.heap.objs.size 0 .none:=by
  have q:=zix (ziA s1.heap (itO .T a)) (o:=zdd s1.heap.objs.size) rfl;rw [y1]at q;exact q
 refine⟨⟨_,O,rfl⟩,xu (s:={s1 with heap:=wm s1.heap a}) O ?_⟩;have I2:Inv X pins σ H1 {s1 with heap:=wm s1.heap a,toks:=s1.toks}:=z.kept keep;refine⟨_,[s1.heap.objs.size+1,s1.heap.objs.size],_,_,H1,rfl,I2,Yz (zjI (zjM _)),⟨⟨_,O⟩,g0⟩,λc U=>?_,q⟩;have Y:s1.heap.objs.size<=c:=by
  simp only [ziq,ziH,or_false]at U;rcases U with rfl | rfl
  ·exact ziL _ _
  ·exact zim _
 exact z.fpOk Y (z.hok.fresh Y)
end L2
namespace DL
open PySem PySem.Spec PyProof.Rows L2
theorem J4{K:PySem.W.Frag}{H:Hp} : ∀{ds:List D} {xs:List V} {l:List Int},Reps K H ds xs->Q7 ds=some l->xs=l.map V.int
 | [],xs,l,r,e=>by cases e;rw [show xs=[]from r];rfl
 | d::ds,xs,l,r,e=>by
  obtain⟨x,r',rfl,z,r2⟩:=(show ∃x r,xs=x::r/\Rep K H d x/\Reps K H ds r from r);cases d with
  | int i=>
   obtain⟨l',e1,rfl⟩:=zy (show(Q7 ds).map (λl=>i::l)=some l from e);rw [J4 r2 e1,show x = .int i from z];rfl
  | _=>cases e
theorem Qc : ∀l:List Int,(l.map V.int).all ZY=true
 | []=>rfl
 | i::l=>by simp only [ziK,zkV,Qc l,zlm];rfl
theorem VP(i:Int) : ∀l:List Int,inV (.int i) (l.map V.int)=decide (i∈l)
 | []=>rfl
 | j::l=>by
  have z:=VP i l;unfold inV at z ⊢;rw [ziK,zkU,z];have e:eqV (.int j) (.int i)=(j==i):=rfl;rw [e];by_cases h:i=j
  ·subst h
   rw [beq_self_eq_true,Bool.true_or];exact(decide_eq_true ziv).symm
  ·rw [beq_false_of_ne (zi6 h),Bool.false_or]
   exact decide_eq_decide.mpr ⟨λq=>ziu _ q,λq=>(ziq.mp q).resolve_left h⟩
theorem Yu{K:PySem.W.Frag}{H0 Hs:Hp}{a:Addr}{xs:List V}{ds:List D}(h:SqT K Hs a xs)(r:Reps K H0 ds xs):Walk K H0 Hs (Ite K a) (j4 ds):=by
 have Y:=r.length;have Z:(j4 ds).length=ds.length:=by simp [j4]
 refine⟨λi H1 s hi=>?_,λH1 s=>?_,λi H1 x H1' s hi y=>?_⟩
 ·exact⟨xs,sameT s h,by omega⟩
 ·exact⟨xs,sameT s h,by omega⟩
 ·obtain⟨p,u,e1,z,I,O⟩:=y
  obtain⟨d,hd,S⟩:=r.getV (O xs (sameT s h));refine⟨.tup [.int i,d],?_,λG0 s1 s2=>⟨upd G0 p (.tup [.int i,u]),?_,?_⟩⟩
  ·have U:i<ds.length:=by omega
   unfold j4;rw [zja,zkZ U,ziC,hd];rfl
  ·rw [I];exact Ext.alloc s2 z _
  ·rw [e1]
   exact qy (SqT.of zL) (Reps.cons (show V.int i = .int i from rfl) (Reps.cons ((S.mono s1).mono (jt (jm s2 z) _)) Reps.nil))
section
variable{X:Cx}{sc:Scope}{N L:List Str}{k:Nat}{a b c:Expr}{pos p:Pos}{f fa fb fc:CO D}
theorem XT{elts:List Expr}{x1:Nat}{tpos:Pos}(h:SX X sc N L k)(c:kx sc "enumerate" = true)(z:X.mg "enumerate" = none)(ha:PV X a f)(O:starEach [a] X.env=[(false,eval a X.env)]:=by rfl) :
 PIF X (.Tuple elts x1 tpos) (.Call (.Name "enumerate" p) [a] [] pos) (wG f):=
 wH (zcE (h.gl c).1 z (jr ha qg O) boot_enumerate O) λσ H R U=>by
  obtain⟨H0,γ,ds,rc,I,q⟩:=U;obtain⟨d,Y,I⟩:=bind_some I;cases d with
  | tup es=>
   cases I;refine⟨H0,γ,_,rc,Y,λv H' H0' x r=>?_⟩;obtain⟨Z,xs,rfl,S,g2⟩:=xA r;exact⟨Z,rfl,⟨xs,sameT x.sub S⟩,q _ H' H0' x (Yu S g2)⟩
  | _=>cases I
theorem XQ{S U:CmpOp}{r r':R2}{F G:D->D->Option D}(ho:OpR X (compareOp S) r)(a4:OpR X (compareOp U) r')(s1:Snd X.K r F)(s2:Snd X.K r' G)(ha:PV X a fa)(hb:PV X b fb)(hc:PV X c fc)
 (hm:lastMarks [S,U] [b,c]=false:=by with_unfolding_all rfl):PV X (.Compare a [S,U] [b,c] pos) (xP F G fa fb fc):=
 j3 (zaA ho a4 ha hb hc hm) λσ H Q hZ=>by
  obtain⟨H0,γ,d,rc,I,q⟩:=hZ;obtain⟨x,e1,I⟩:=bind_some I;obtain⟨y,e2,I⟩:=bind_some I;obtain⟨k,e3,I⟩:=bind_some I;obtain⟨Z,e4,e5⟩:=bind_some e3;refine⟨H0,γ,x,rc,e1,λv1 H1 ac x1 r1=>⟨ac,γ,y,rc.ext x1,e2,λv2 H2 ae O r2=>s1 ae H2 v1 v2 x y Z _ O.sub (r1.mono O.s0) r2 e4 λv3 H3 a2 x3 r3=>?_⟩⟩;cases Z with
  | bl k'=>
   cases e5;refine⟨k,show v3 = .bl k from r3,?_⟩;cases k with
   | true=>
    rw [if_pos rfl];rw [if_pos rfl]at I;obtain⟨z,e6,e7⟩:=bind_some I;exact⟨a2,γ,z,((rc.ext x1).ext O).ext x3,e6,λv4 H4 am Y r4=>s2 am H4 v2 v4 y z d _ Y.sub ((r2.mono x3.s0).mono Y.s0) r4 e7 λv5 H5 aq x5 r5=>q v5 H5 aq (((x1.trans O).trans x3).trans (Y.trans x5)) r5⟩
   | false=>
    rw [if_neg ⋯];rw [if_neg ⋯]at I;cases I;exact q _ H3 a2 ((x1.trans O).trans x3) rfl
  | _=>cases e5
end
theorem kP : ∀{l:List Int} {us:List Value},Vals (l.map V.int) us->∀i,i<us.toArray.size->∃z u,us.toArray[i]? = some (.int z u)/\l[i]? = some z
 | [],us,r,i,hi=>by cases r;exact absurd hi (ziU _)
 | z::l,u::us,.cons r t,i,hi=>by
  cases i with
  | zero=>
   obtain⟨tk,rfl⟩:=r;exact⟨z,tk,by simp,by simp⟩
  | succ i=>
   obtain⟨I,O,e1,S⟩:=kP t i (by simpa using hi);exact⟨I,O,by simpa using e1,by simpa using S⟩
theorem ye{o:Option Cell}{rows:List (List D)}(h:xh o=some rows):o=some (.nest rows):=by
 cases o with
 | none=>cases h
 | some c=>cases c<;>first | cases h;rfl | cases h
def tN(K:PySem.W.Frag)(f:CO (List (List D))):TE:=λσ H Q=>∃H0 γ rows,RC K H0 H σ γ/\f γ=some rows/\
 ∀a bs H' H0',Ext H0 H H0' H'->(∀b∈a::bs,H b=none)->Nest K H0' H' rows a bs->Q (.ref a) H'
def Rws(K:PySem.W.Frag)(H0 H:Hp)(rows:List (List D))(bs:List Addr):Prop:=bs.length=rows.length/\∀(k:Nat) b row,bs[k]? = some b->rows[k]? = some row->H0 b=none/\∃xs,H b=some (.lst xs)/\Reps K H0 row xs
theorem Rws.at{K:PySem.W.Frag}{H0 H:Hp}{rows:List (List D)}{bs:List Addr}(n:Rws K H0 H rows bs){b:Addr}(O:b∈bs):H0 b=none/\∃xs,H b=some (.lst xs):=by
 obtain⟨k,z⟩:=List.getElem?_of_mem O;have I:=(zit.mp z).1;rw [n.1]at I;obtain⟨h1,xs,h2,_⟩:=n.2 k b _ z (zih I);exact⟨h1,xs,h2⟩
theorem Rws.ext{K:PySem.W.Frag}{H0 H H0' H':Hp}{rows:List (List D)}{bs:List Addr}(n:Rws K H0 H rows bs)(e:Ext H0 H H0' H'):Rws K H0' H' rows bs:=
 ⟨n.1,λk b row h1 h2=>by
  obtain⟨z,xs,g2,I⟩:=n.2 k b row h1 h2;exact⟨e.new b z (by rw [g2];simp),xs,e.s1 _ _ g2,I.mono e.s0⟩⟩
theorem Rws.add{K:PySem.W.Frag}{H0 H:Hp}{rows:List (List D)}{bs:List Addr}{b:Addr}{row:List D}{xs:List V}(n:Rws K H0 H rows bs)(h1:H0 b=none)(h2:H b=some (.lst xs))(S:Reps K H0 row xs):Rws K H0 H (rows++[row]) (bs++[b]):=
 ⟨by simp [n.1],λk c r e1 I=>by
  rcases ziN k bs.length with z | z
  ·rw [zi9 z]at e1
   rw [zi9 (by rw [<- n.1];exact z)]at I;exact n.2 k c r e1 I
  ·rw [ziW z]at e1
   rw [ziW (by rw [<- n.1];exact z)]at I;have O:k - bs.length=0:=by
    have:=(zit.mp e1).1;simp at this;omega
   rw [O]at e1;rw [<- n.1,O]at I;cases e1;cases I;exact⟨h1,xs,h2,S⟩⟩
theorem Rws.hide{K:PySem.W.Frag}{H0 H:Hp}{rows:List (List D)}{bs:List Addr}{z:Addr}{o:HO}(n:Rws K H0 H rows bs)(h:z∉bs):Rws K H0 (upd H z o) rows bs:=
 ⟨n.1,λk b row h1 h2=>by
  obtain⟨I,xs,g2,O⟩:=n.2 k b row h1 h2;exact⟨I,xs,by rw [zG (λq=>h (by rw [<- q];exact zjs h1))];exact g2,O⟩⟩
section
variable{K:PySem.W.Frag}{own:List Str}{fr:List (Str×Nat)}{src:CO (List D)}{T:Tg}{f:CO (List D)}
theorem Yi(hT : ∀i∈T.idx,i<own.length){tt:TT}(b7 : ∀σ H Q,tT K zV σ H Q->tt σ H Q) : ∀σ H Q,tN K (yO src T own.length (fr.map (·.2)) f) σ H Q->YG (tIc K src) own fr (gOf K T) tt (tO K f) σ H Q:=λσ H Q hZ=>by
 obtain⟨H0,γ,rows,rc,Y,q⟩:=hZ;obtain⟨items,e1,Y⟩:=bind_some Y;by_cases hl:items.length<=lim
 ·rw [if_pos hl]at Y
  refine⟨H0,γ,items,rc,e1,λJ H1 aa x1 wk D hD=>?_⟩;have ac : ∀(i:Nat) es,(zT own.length (fr.map (·.2)) γ)[i]? ≠ some (.own es):=λi es h=>by rcases qf h with z | ⟨d',j,z,_⟩<;>cases z
  have ad : ∀(i:Nat) es,(zT own.length (fr.map (·.2)) γ)[i]? ≠ some (.nest es):=λi es h=>by rcases qf h with z | ⟨d',j,z,_⟩<;>cases z
  have ak:aa D=none:=jm x1.sub hD;have al : ∀c,H1 c=none->H c=none:=λc hc=>by
   cases z:H c with
   | none=>rfl
   | some o=>rw [x1.s1 c o z]at hc;cases hc
  refine⟨λi m ys σ' H'=>m=items.length - i/\i<=items.length/\ys.length<=i/\H' D=some (.lst ys)/\∃H0' bs r1 r2,ys=bs.map V.ref/\RC K H0' H' σ' (zT own.length (fr.map (·.2)) γ)/\H0' D=none/\Ext aa H1 H0' H'/\Rws K H0' H' r1 bs/\(D::bs).Nodup/\(∀b∈bs,H1 b=none)/\kf T f (zT own.length (fr.map (·.2)) γ) (items.drop i)=some r2/\rows=r1++r2,
   ⟨_,rfl,zjj _,zim _,zL,aa,[],[],rows,rfl,((rc.ext x1).pull).upd ak ac ad,ak,Ext.hide x1.sub hD _,⟨rfl,λk b row h=>by simp at h⟩,by simp,λb S=>by simp at S,Y,rfl⟩,?_⟩
  rintro i m ys σ' H' ⟨rfl,hi,hy,a7,H0',bs,r1,r2,b9,ae,an,Z,a8,nd,ao,I,rfl⟩;subst b9;refine⟨a7,?_⟩;by_cases a0:i<items.length
  ·refine .inr ⟨wk.go i H' Z.s1 a0,?_,λx af y=>?_⟩
   ·have:=xI (zim lim);omega
   obtain⟨d,hd,hx⟩:=wk.yld i H' x af Z.s1 a0 y;obtain⟨G0,O,rg⟩:=hx H0' Z.s0 ae.sub;have bb:items.drop i=d::items.drop (i+1):=by
    have bc:d=items[i]:=by rw [zih a0]at hd;exact(zji hd).symm
    rw [bc];exact zku a0
   rw [bb]at I;simp only [kf]at I;obtain⟨γ1,eb,I⟩:=bind_some I;obtain⟨e,ee,I⟩:=bind_some I;obtain⟨rest,er,I⟩:=zy I;have bf:G0 D=none:=O.new D an (by rw [a7];simp);have aq:af D=some (.lst (bs.map V.ref)):=O.s1 _ _ a7;obtain⟨bl,bg⟩:=Qn eb;have bh : ∀{σ2:St} {G2 H2:Hp},RC K G2 H2 σ2 γ1->RC K G2 H2 σ2 (zT own.length (fr.map (·.2)) γ):=λr=>r.weak bl.symm (λj d' hj=>by
    by_cases hm:j∈T.idx
    ·rcases qf hj with z | ⟨d2,j2,_,hn,_⟩
     ·cases z
     ·exact absurd (hT j hm) ⋯
    ·rw [bg j hm];exact hj) ac ad
   refine yh O.sub rg eb λσ1 av _=>b7 σ1 af _ ⟨G0,γ1,true,av (ae.ext O),rfl,λH3 aw x3=>?_⟩;have ax:=(av (ae.ext O)).ext x3;have xa:=Z.trans (O.trans x3);have bm:aw D=none:=x3.new D bf (by rw [aq];simp);have ah:H3 D=some (.lst (bs.map V.ref)):=x3.s1 _ _ aq;dsimp only;rw [if_pos rfl];refine⟨aw,γ1,e,ax,ee,λU c2 H4 az x4 g1 g2 g3 g4=>?_⟩;have ai:az D=none:=x4.new D bm (by rw [ah];simp);have bq:H4 D=some (.lst (bs.map V.ref)):=x4.s1 _ _ ah;have xb:=xa.trans x4;have br:=((a8.ext O).ext x3).ext x4;have bt:=(a8.ext O).ext x3;have b0:D∉bs:=(zjc.mp nd).1;have b5:D≠U:=λz=>by rw [<- z,ah]at g1;cases g1
   have bu:U∉bs:=λhm=>by
    obtain⟨_,c3,z⟩:=bt.at hm;rw [g1]at z;cases z
   have bv:H1 U=none:=by
    cases z:H1 U with
    | none=>rfl
    | some o=>rw [xa.s1 _ _ z]at g1;cases g1
   refine⟨bq,items.length - (i+1),by omega,rfl,a0,by rw [zjo,zkk];omega,zL,az,bs++[U],r1++[e],rest,by simp,(bh (ax.ext x4)).upd ai ac ad,ai,?_,?_,?_,?_,er,?_⟩
   ·exact⟨xb.s0,λc o z=>by rw [zG (λw=>by rw [w,hD]at z;cases z)];exact xb.s1 c o z,λc o z=>by rw [zG (λw=>by rw [w,ai]at z;cases z)];exact xb.sub c o z,xb.new⟩
   ·exact(br.add g2 g3 g4).hide (by simp [b0,b5])
   ·refine zjc.mpr ⟨by simp [b0,b5],List.nodup_append.mpr ⟨(zjc.mp nd).2,by simp,λc hc c' bx=>?_⟩⟩
    have:c'=U:=by simpa using bx
    subst this;exact λz=>bu (by rw [<- z];exact hc)
   ·intro b S
    rcases zkB.mp S with z | z
    ·exact ao b z
    ·have:b=U:=by simpa using z
     subst this;exact bv
   ·rw [<- I];simp
  ·have e:i=items.length:=by omega
   subst e;rw [zl8]at I;cases I;rw [zkD]at q;refine .inl ⟨wk.stop H' Z.s1,q D bs H' H0' (x1.trans Z) (λb S=>?_) ⟨an,a7,nd,a8.1,a8.2⟩⟩;rcases ziq.mp S with rfl | S
   ·exact al _ hD
   ·exact al b (ao b S)
 ·rw [if_neg hl]at Y;cases Y
end
section
variable{K:PySem.W.Frag}{E0 E H0 H:Hp}{σ:St}{γ:Ctx}
theorem vx{γ:Ctx}(h:γ.any jL=false)(i:Nat)(rows:List (List D)):γ[i]? ≠ some (.nest rows):=λe=>by
 have hm:Cell.nest rows∈γ:=zjs e;have:=zl3.mp h _ hm;exact this rfl
theorem RS.setNest{i:Nat}{rows:List (List D)}{a:Addr}{bs:List Addr}{G0 G:Hp}(r:RS K E0 E G0 G σ γ)(e:Ext G0 G H0 H)(hf : ∀b∈a::bs,G b=none)(n:Nest K H0 H rows a bs)(Y:γ.any jL=false) :
 RS K E0 E H0 H (σ.set i (some (.ref a))) (γ.set i (.nest rows)):=by
 have rc:=r.rc.ext e;have ef : ∀b∈a::bs,E b=none:=λb hb=>by
  cases q:E b with
  | none=>rfl
  | some o=>have:=hf b hb;rw [r.ext.s1 b o q]at this;cases this
 refine⟨⟨rc.sub,by simp [rc.len],λj d' g=>?_,λj ds g=>?_,λj k b ds fs e1 Z e3 e4=>?_,⟨λj a1 g=>?_,λj k r1 r2 I g2=>?_⟩⟩,r.ext.trans e,λj ds b I g2=>?_,λj a1 b xs I g2 O=>?_⟩
 ·rcases zM g with⟨_,z,_⟩ | ⟨S,z⟩
  ·cases z
  ·obtain⟨v',I,g2⟩:=rc.val j d' z
   exact⟨v',by rw [zis (zi6 S)];exact I,g2⟩
 ·rcases zM g with⟨_,z,_⟩ | ⟨S,z⟩
  ·cases z
  ·obtain⟨b,ys,I,g2⟩:=rc.own j ds z
   exact⟨b,ys,by rw [zis (zi6 S)];exact I,g2⟩
 ·rcases zM e1 with⟨_,z,_⟩ | ⟨S,U⟩
  ·cases z
  ·rcases zM Z with⟨_,z,_⟩ | ⟨hk,z2⟩
   ·cases z
   ·rw [zis (zi6 S)]at e3
    rw [zis (zi6 hk)]at e4;exact rc.ne j k b ds fs U z2 e3 e4
 ·rcases zM g with⟨rfl,z,hl⟩ | ⟨S,z⟩
  ·cases z
   refine⟨a,bs,ziM (by rw [rc.len];exact hl),n,λk ds c e1 Z=>?_⟩;rcases zM e1 with⟨_,z,_⟩ | ⟨hk,U⟩
   ·cases z
   ·rw [zis (zi6 hk)]at Z
    obtain⟨c',ys,I,g2,O,_⟩:=r.rc.own k ds U;rw [Z]at I;cases I;intro hm;rw [hf c hm]at O;cases O
  ·exact absurd z (vx Y j a1)
 ·rcases zM I with⟨rfl,_,_⟩ | ⟨_,U⟩
  ·rcases zM g2 with⟨rfl,_,_⟩ | ⟨_,z2⟩
   ·rfl
   ·exact absurd z2 (vx Y k r2)
  ·exact absurd U (vx Y j r1)
 ·rcases zM I with⟨_,z,_⟩ | ⟨S,z⟩
  ·cases z
  ·rw [zis (zi6 S)]at g2;exact r.fresh j ds b z g2
 ·rcases zM I with⟨rfl,z,hl⟩ | ⟨S,z⟩
  ·rw [ziM (by rw [rc.len];exact hl)]at g2;cases g2
   rw [n.ha]at O;injection O with O;injection O with O;subst O;refine⟨ef a ziv,λb hb=>?_⟩;obtain⟨c,hc,q⟩:=ziB.mp hb;cases q;exact ef b (ziu _ hc)
  ·exact absurd z (vx Y j a1)
theorem JV : ∀{l:List Addr} {m t:Nat} {b:Addr},l.Nodup->l[m]? = some b->l[t]? = some b->m=t
 | [],m,t,b,_,h,_=>by simp at h
 | c::l,m,t,b,nd,h1,h2=>by
  obtain⟨n1,I⟩:=zjc.mp nd;cases m with
  | zero=>
   cases t with
   | zero=>rfl
   | succ t=>
    have e1:c=b:=by simpa using h1
    have z:l[t]? = some b:=by simpa using h2
    exact absurd (zjs z) (e1 ▸ n1)
  | succ m=>
   cases t with
   | zero=>
    have e1:c=b:=by simpa using h2
    have z:l[m]? = some b:=by simpa using h1
    exact absurd (zjs z) (e1 ▸ n1)
   | succ t=>exact congrArg (· + 1) (JV (b:=b) I (by simpa using h1) (by simpa using h2))
theorem RS.nestSet{j t:Nat}{R:List (List D)}{a b:Addr}{bs:List Addr}{a4:List D}{ys:List V}(r:RS K E0 E H0 H σ γ)(O:γ[j]? = some (.nest R))(hs:σ[j]? = some (some (.ref a)))(hn:Nest K H0 H R a bs)
 (a8 : ∀(k:Nat) ds c,γ[k]? = some (.own ds)->σ[k]? = some (some (.ref c))->c∉a::bs) (Z:bs[t]? = some b) (h4:Reps K H0 a4 ys) :
 RS K E0 E H0 (upd H b (.lst ys)) σ (γ.set j (.nest (R.set t a4))):=by
 have ac:j<γ.length:=(zit.mp O).1;have a1:b∈bs:=zjs Z;have a9:b≠a:=λq=>(zjc.mp hn.nd).1 (by rw [<- q];exact a1);obtain⟨b0,_⟩:=hn.at (ziu a a1);obtain⟨ea,er⟩:=r.fr2 j R a _ O hs hn.ha;have eb:E b=none:=er b (ziB.mpr ⟨b,a1,rfl⟩);have S : ∀{k:Nat} {c:Cell},(∀rows,c ≠ .nest rows)->(γ.set j (.nest (R.set t a4)))[k]? = some c->γ[k]? = some c:=λ{k c} U g=>by
  rcases zM g with⟨_,z,_⟩ | ⟨hk,z⟩
  ·exact absurd z (U _)
  ·exact z
 refine⟨⟨λc o q=>?_,by simp [r.rc.len],λk d g=>r.rc.val k d (S ⋯ g),λk ds g=>?_,λk m c ds es e1 e2 e3 e4=>r.rc.ne k m c ds es (S ⋯ e1) (S ⋯ e2) e3 e4,⟨λk rows g=>?_,λk m r1 r2 I g2=>?_⟩⟩,⟨r.ext.s0,λc o q=>?_,λc o q=>?_,r.ext.new⟩,λk ds c I g2=>r.fresh k ds c (S ⋯ I) g2,λk rows c xs I g2 Y=>?_⟩
 ·rw [zG (λz=>by rw [z,b0]at q;cases q)];exact r.rc.sub c o q
 ·have z:=S ⋯ g
  obtain⟨c,xs,h1,h2,h3,h5⟩:=r.rc.own k ds z;refine⟨c,xs,h1,h2,?_,h5⟩;rw [zG (λq=>a8 k ds c z h1 (by rw [q];exact ziu _ a1))];exact h3
 ·have hk:k=j:=by
   rcases zM g with⟨z,_,_⟩ | ⟨_,z⟩
   ·exact z
   ·exact r.rc.nst.2 k j rows R z O
  subst hk;rw [ziM ac]at g;cases g;refine⟨a,bs,hs,⟨hn.a0,by rw [zG (zi6 a9)];exact hn.ha,hn.nd,by simp [hn.len],λm c row U hr=>?_⟩,λm ds c I g2=>a8 m ds c (S ⋯ I) g2⟩;by_cases hm:m=t
  ·subst hm
   rw [Z]at U;cases U;have:m<R.length:=by rw [<- hn.len];exact(zit.mp Z).1
   rw [ziM this]at hr;cases hr;exact⟨b0,ys,zL,h4⟩
  ·rw [zis (zi6 hm)]at hr
   obtain⟨h1,xs,h2,h3⟩:=hn.row m c row U hr;have ak:c≠b:=λq=>by
    subst q;have nd:=(zjc.mp hn.nd).2;exact hm (JV nd U Z)
   exact⟨h1,xs,by rw [zG ak];exact h2,h3⟩
 ·have h1:k=j:=by
   rcases zM I with⟨z,_,_⟩ | ⟨_,z⟩
   ·exact z
   ·exact r.rc.nst.2 k j r1 R z O
  have h2:m=j:=by
   rcases zM g2 with⟨z,_,_⟩ | ⟨_,z⟩
   ·exact z
   ·exact r.rc.nst.2 m j r2 R z O
  rw [h1,h2]
 ·rw [zG (λz=>by rw [z,eb]at q;cases q)];exact r.ext.s1 c o q
 ·rw [zG (λz=>by rw [z,b0]at q;cases q)];exact r.ext.sub c o q
 ·have hk:k=j:=by
   rcases zM I with⟨z,_,_⟩ | ⟨_,z⟩
   ·exact z
   ·exact r.rc.nst.2 k j rows R z O
  subst hk;rw [hs]at g2;cases g2;rw [zG (zi6 a9),hn.ha]at Y;injection Y with Y;injection Y with Y;subst Y;exact⟨ea,er⟩
end
section
variable{K:PySem.W.Frag}{E0 E H0 H:Hp}{σ:St}{γ:Ctx}
open Classical in
def Q4(H0 H:Hp)(L:List Addr):Hp:=λc=>if c∈L then H c else H0 c
theorem ZV{H0 H:Hp}{L:List Addr}{c:Addr}(h:c∈L):Q4 H0 H L c=H c:=by unfold Q4;rw [if_pos h]
theorem k7{H0 H:Hp}{L:List Addr}{c:Addr}(h:c∉L):Q4 H0 H L c=H0 c:=by unfold Q4;rw [if_neg h]
theorem JE{K:PySem.W.Frag}{G:Hp} : ∀{rows:List (List D)} {bs:List Addr},bs.length=rows.length->(∀(k:Nat) b row,bs[k]? = some b->rows[k]? = some row->∃xs,G b=some (.lst xs)/\Reps K G row xs)->Reps K G (rows.map D.lst) (bs.map V.ref)
 | [],[],_,_=>Reps.nil
 | [],_::_,h,_=>by simp at h
 | _::_,[],h,_=>by simp at h
 | row::rows,b::bs,h,f=>by
  obtain⟨xs,z,g2⟩:=f 0 b row rfl rfl;exact Reps.cons (ZI (SqL.of z) g2) (JE (by simpa using h) λk c r e1 I=>f (k+1) c r (by simpa using e1) (by simpa using I))
theorem RS.freezeN{i:Nat}{rows:List (List D)}(r:RS K E0 E H0 H σ γ)(e:γ[i]? = some (.nest rows)) : ∃H0',RS K E0 E H0' H σ (γ.set i (.val (.lst (rows.map D.lst)))):=by
 obtain⟨a,bs,h1,hn,a2⟩:=r.rc.nst.1 i rows e;obtain⟨ea,er⟩:=r.fr2 i rows a _ e h1 hn.ha;have ef : ∀b∈a::bs,E b=none:=λb Y=>by
  rcases ziq.mp Y with rfl | Y
  ·exact ea
  ·exact er b (ziB.mpr ⟨b,Y,rfl⟩)
 have s0:Same H0 (Q4 H0 H (a::bs)):=λc o q=>by
  rw [k7 (λhm=>by rw [(hn.at hm).1]at q;cases q)];exact q
 have sub:Same (Q4 H0 H (a::bs)) H:=λc o q=>by
  by_cases hm:c∈a::bs
  ·rw [ZV hm]at q;exact q
  ·rw [k7 hm]at q;exact r.rc.sub c o q
 have rp:Rep K (Q4 H0 H (a::bs)) (.lst (rows.map D.lst)) (.ref a):=ZI (SqL.of (by rw [ZV ziv];exact hn.ha)) (JE hn.len λk b row I g2=>by
  obtain⟨_,xs,Z,U⟩:=hn.row k b row I g2;exact⟨xs,by rw [ZV (ziu _ (zjs I))];exact Z,U.mono s0⟩)
 have nn : ∀{j:Nat} {O:List (List D)},(γ.set i (.val (.lst (rows.map D.lst))))[j]? ≠ some (.nest O):=λ{j O} g=>by
  rcases zM g with⟨_,z,_⟩ | ⟨hj,z⟩
  ·cases z
  ·exact hj (r.rc.nst.2 j i O rows z e)
 have S : ∀{j:Nat} {ds:List D},(γ.set i (.val (.lst (rows.map D.lst))))[j]? = some (.own ds)->γ[j]? = some (.own ds):=λ{j ds} g=>by
  rcases zM g with⟨_,z,_⟩ | ⟨hj,z⟩
  ·cases z
  ·exact z
 refine⟨_,⟨sub,by simp [r.rc.len],λj d g=>?_,λj ds g=>?_,λj k c ds es e1 e2 e3 e4=>r.rc.ne j k c ds es (S e1) (S e2) e3 e4,NestOk.nil0 λj O=>nn⟩,⟨r.ext.s0.trans s0,r.ext.s1,sub,λc Z U=>?_⟩,λj ds b I g2=>r.fresh j ds b (S I) g2,λj O b ys I=>absurd I nn⟩
 ·rcases zM g with⟨rfl,z,hl⟩ | ⟨hj,z⟩
  ·cases z;exact⟨_,h1,rp⟩
  ·obtain⟨v,I,g2⟩:=r.rc.val j d z
   exact⟨v,I,g2.mono s0⟩
 ·obtain⟨b,ys,I,g2,g3,g4⟩:=r.rc.own j ds (S g)
  exact⟨b,ys,I,by rw [k7 (a2 j ds b (S g) I)];exact g2,g3,g4.mono s0⟩
 ·rw [k7 (λhm=>U (ef c hm))];exact r.ext.new c Z U
end
section
variable{X:Cx}{st:Stmt}{F:CO Fl}
theorem zao(i:Nat)(h:PSD X st F):PSD X st (KM i F):=xF h λD σ H I=>by
 obtain⟨E0,E,H0,γ,O,S,z,U⟩:=I;obtain⟨rows,e1,z⟩:=bind_some z;obtain⟨H0',Y⟩:=S.freezeN (ye e1);exact⟨E0,E,H0',_,O,Y,z,U⟩
end
section
variable{X:Cx}{sc:Scope}{N L:List Str}{k:Nat}
theorem zal{scope:Scope}{own:List Str}{fr:List (Str×Nat)}{elt tg iter:Expr}{cpos U Y:Pos}{src:CO (List D)}{T:Tg}{y:Str}{f:CO (List D)}(i:Nat)(h:SX X sc N L k)(c:QE sc N L i y=true)
 (Z:X.calm=true) (ok:CompOk X scope fr) (hT : ∀i∈T.idx,i<own.length) (hi:PIC X tg iter src) (hg : ∀fp s2 H2,PG (jp X scope (own++fr.map (·.1)) fp s2 H2) tg (gOf X.K T))
 (he : ∀fp s2 H2,PO (jp X scope (own++fr.map (·.1)) fp s2 H2) elt f) (hs : ∀x,foldedSetIterable iter X.env x=pure x:=by intro _;rfl) :
 PSD X (.Assign [.Name y Y] (.ListComp elt [⟨tg,iter,[],0⟩] scope cpos) U) (KJ i (yO src T own.length (fr.map (·.2)) f)):=by
 obtain⟨h1,h2,h3⟩:=h.loc c;refine xF (yw (te:=tO X.K f) h.ndX h1 h2 h3 Z ok hi hg (λ_ _ _=>ZP) he hs) λD σ H I=>?_;obtain⟨E0,E,H0,γ,fl,S,z,a5⟩:=I;obtain⟨rows,e1,z⟩:=bind_some z;by_cases O:γ.any jL=false
 ·rw [if_pos O]at z;cases z
  exact Yi hT (λσ H Q I=>by obtain⟨H0,γ,b,rc,z,q⟩:=I;cases z;exact q H H0 (Ext.refl rc.sub)) σ H _ ⟨H0,γ,rows,S.rc,e1,λa bs H' H0' x hf n=>a5 _ _ H0' (S.setNest x hf n O)⟩
 ·rw [if_neg O]at z;cases z
end
end DL
namespace L2
open PySem PySem.Spec PyProof.Rows
def zgo(K:PySem.W.Frag):V->List V->Hp->VK->Prop:=λx vs H Q=>∃z p zs,x = .str z/\vs=[.ref p]/\SqL K H p (zs.map V.str)/\Builtin.Str.tooLong (zs.toArray.foldl (λa p=>a+p.length+z.length) 0)=false/\Q (.str (zlV z zs)) H
theorem Jm : ∀{zs:List Str} {us:List Value},Vals (zs.map V.str) us->∃l:List (Str×Tok),strValues l=us/\l.map (·.1)=zs
 | [],us,r=>by cases r;exact⟨[],rfl,rfl⟩
 | z::zs,u::us,.cons r t=>by
  obtain⟨tk,rfl⟩:=r;obtain⟨l,rfl,h⟩:=Jm t;exact⟨(z,tk)::l,rfl,by simp [h]⟩
theorem zcT{X:Cx}:MtR X "str.join" (zgo X.K):=by
 intro pins s σ H x vs v us Q I S U h;obtain⟨z,p,zs,rfl,rfl,Y,O,q⟩:=h;obtain⟨t,rfl⟩:=S;obtain⟨w1,rfl,rw⟩:=xR U;cases rw;obtain⟨a1,r,Z,hz⟩:=I.list Y;obtain⟨l,rfl,e⟩:=Jm r;subst e;refine zkS F.slot_str_join (typeIs_str _ _ _) F.entry_str_join (F.args_str_join_2 _ _) (meets_str_join_list z t p l O) ⟨Z.isList,post_join l ⟨joinFit_length O,λt' k=>?_⟩⟩;refine⟨.str (zlV z (l.map (·.1))),H,(I.kept (h':=s.heap) (t':=k) λb o e=>e),⟨t',?_⟩,q⟩;show zlL (Builtin.Str.glued z (l.map (·.1))) t'=_;rw [StrLaws.glued_eq_join]
end L2
namespace DL
open PySem PySem.Spec PyProof.Rows L2
theorem Jv{K:PySem.W.Frag}{H:Hp} : ∀{ds:List D} {xs:List V} {l:List Str},Reps K H ds xs->wF ds=some l->xs=l.map V.str
 | [],xs,l,r,e=>by cases e;rw [show xs=[]from r];rfl
 | d::ds,xs,l,r,e=>by
  obtain⟨x,r',rfl,z,r2⟩:=(show ∃x r,xs=x::r/\Rep K H d x/\Reps K H ds r from r);cases d with
  | str i=>
   obtain⟨l',e1,rfl⟩:=zy (show(wF ds).map (λl=>i::l)=some l from e);rw [Jv r2 e1,show x = .str i from z];rfl
  | _=>cases e
section
variable{X:Cx}{sc:Scope}{N L:List Str}{k:Nat}{o e a b:Expr}{apos cpos pos p:Pos}{f g:CO D}{q:CO (Sk×List D)}
theorem ZD{x:Str}(h:jF x=true):x.length<=1000:=of_decide_eq_true h
theorem wZ{x:Str}(h:jF x=true):x.length<=sizeLine:=zjt (ZD h) ⋯
theorem zco(U:PV X o f)(Y:PQ X e q)(Z:attributeBase o "join" X.env (eval o X.env)=eval o X.env:=by rfl)
 (a0:((backTo cpos (starEach [e] X.env)).all (λx=> !x.1) && (backToKw cpos (keywordEach [] X.env)).all (λx=>x.1.isSome) && decide ([e].length+([]:List Keyword).length+(if ([]:List Keyword).isEmpty then 0 else 1)<30))=true:=by rfl)
 (a1:(apos.endLine==cpos.line)=true:=by rfl) (S:starEach [e] X.env=[(false,eval e X.env)]:=by rfl):PV X (.Call (.Attribute o "join" apos) [e] [] cpos) (YT f q):=
 j3 (zeD PySem.F.plainAttrs_str PySem.F.slot_str_join PySem.F.type_str_join zcT U (jr Y qg S) Z a0 a1 S rfl) λσ H Q hZ=>by
  obtain⟨H0,γ,d,rc,z,qq⟩:=hZ;obtain⟨d1,e1,z⟩:=bind_some z;obtain⟨⟨kk,ds⟩,e2,z⟩:=bind_some z;cases d1 with
  | str O=>
   cases kk with
   | L=>
    obtain⟨l,e3,z⟩:=bind_some z;by_cases I:l.length<=lim/\l.all jF=true/\jF O=true
    ·rw [if_pos I]at z;cases z
     refine⟨H0,γ,_,rc,e1,λv H' H0' x r=>?_⟩;rw [show v = .str O from r];refine⟨rfl,H0',γ,.L,ds,rc.ext x,e2,λa xs H2 a7 x2 h1 h2 r2=>?_⟩;have ex:=Jv r2 e3;subst ex;refine⟨O,a,l,rfl,rfl,h1,StrLaws.joinFits (B:=1000) (λy hy=>ZD (zjG.mp I.2.1 y hy)) ?_,qq _ H2 a7 (x.trans x2) rfl⟩;have hl:=I.1;have:lim=2500:=rfl;have h3:=ZD I.2.2;have:l.length*O.length<=2500*1000:=Nat.mul_le_mul ⋯ h3;omega
    ·rw [if_neg I]at z;cases z
   | T=>cases z
  | _=>cases z
theorem zad(ha:PV X a f)(U:PV X b g)(Y:yL b:=by intro _ _;rfl):PV X (.Subscript a b pos) (vJ f g):=
 j3 (zay ze3 ha U Y) λσ H Q Z=>by
  obtain⟨H0,γ,d,rc,I,q⟩:=Z;obtain⟨d1,e1,I⟩:=bind_some I;obtain⟨i,O,I⟩:=bind_some I;obtain⟨di,e3,O⟩:=bind_some O;cases d1 with
  | str z=>
   by_cases S:jF z=true
   ·have I:(if jF z=true then (ixD z.cps.toList.length i).bind λk=>z.cps.toList[k]?.map λc=>D.str ⟨#[c]⟩else none)=some d:=I
    rw [if_pos S]at I;obtain⟨j,e4,I⟩:=bind_some I;obtain⟨c,e5,rfl⟩:=zy I;refine⟨H0,γ,_,rc,e1,λv H' H0' x r=>⟨H0',γ,di,rc.ext x,e3,λv2 H2 a5 x2 r2=>?_⟩⟩;rw [jw O]at r2;refine⟨z,i,c,r,ji r2,wZ S,?_,q _ H2 a5 (x.trans x2) rfl⟩;unfold atI;rw [Zf e4];exact e5
   ·have I:(if jF z=true then (ixD z.cps.toList.length i).bind λk=>z.cps.toList[k]?.map λc=>D.str ⟨#[c]⟩else none)=some d:=I
    rw [if_neg S]at I;cases I
  | _=>cases I
theorem zcn(h:SX X sc N L k)(c:kx sc "len" = true)(z:X.mg "len" = none)(ha:PV X e f)(S:starEach [e] X.env=[(false,eval e X.env)]:=by rfl):PV X (.Call (.Name "len" p) [e] [] pos) (QO f):=
 j3 (xG Qi (h.gl c).1 z PySem.boot_len (jr ha qg S) ⋯ ⋯ S rfl) λσ H Q U=>by
  obtain⟨H0,γ,d,rc,I,q⟩:=U;obtain⟨Y,e1,I⟩:=bind_some I;cases Y with
  | str z=>
   by_cases O:jF z=true
   ·have I:(if jF z=true then some (D.int z.length)else none)=some d:=I
    rw [if_pos O]at I;cases I;refine⟨H0,γ,_,rc,e1,λv H' H0' x r=>⟨z,by rw [show v = .str z from r],wZ O,q _ H' H0' x rfl⟩⟩
   ·have I:(if jF z=true then some (D.int z.length)else none)=some d:=I
    rw [if_neg O]at I;cases I
  | _=>cases I
end
section
variable{X:Cx}{sc:Scope}{N L:List Str}{k:Nat}{b:Expr}{f:CO D}
theorem zee{a:Expr}{g:CO D}{p pos:Pos}(h:SX X sc N L k)(c:kx sc "min" = true)(z:X.mg "min" = none)(ha:PV X a f)(Y:PV X b g)(U:starEach [a,b] X.env=[(false,eval a X.env),(false,eval b X.env)]:=by rfl)(O:starEach [b] X.env=[(false,eval b X.env)]:=by rfl) :
 PV X (.Call (.Name "min" p) [a,b] [] pos) (zcj f g):=
 j3 (xG (Wk h.calm) (h.gl c).1 z PyProof.Rows.boot_min (jr ha (jr Y qg O) (by rw [U,O])) ⋯ ⋯ (by rw [U,O]) (by rw [O];rfl)) λσ H Q Z=>by
  obtain⟨H0,γ,d,rc,I,q⟩:=Z;obtain⟨i,e1,I⟩:=bind_some I;obtain⟨d1,e0,e1⟩:=bind_some e1;obtain⟨j,S,I⟩:=zy I;obtain⟨d2,e2,S⟩:=bind_some S;subst I;refine⟨H0,γ,d1,rc,e0,λv H' H0' x r=>⟨H0',γ,d2,rc.ext x,e2,λv2 H2 a4 x2 r2=>⟨i,j,?_,q _ H2 a4 (x.trans x2) rfl⟩⟩⟩;rw [jw e1]at r;rw [jw S]at r2;rw [ji r,ji r2]
end
section ap
variable(γ:Ctx)
@[simp] theorem vw(f):zH f γ=(f γ).bind jE:=rfl
@[simp] theorem Zq(f):jq f γ=(f γ).map D.lst:=rfl
@[simp] theorem kN(f):zX f γ=(f γ).map λds=>(Sk.L,ds):=rfl
@[simp] theorem qi(i):ze i γ=Xh γ[i]? :=rfl
@[simp] theorem j5(i):zf i γ=kh γ[i]? :=rfl
@[simp] theorem xz(d):zk d γ=some d:=rfl
@[simp] theorem kj(F a b):zq F a b γ=(a γ).bind λx=>(b γ).bind λy=>F x y:=rfl
@[simp] theorem WL(f):sB f γ=(f γ).bind asB:=rfl
@[simp] theorem zg8(f g):JD f g γ=(f γ).bind λb=>if b=true then g γ else some false:=rfl
@[simp] theorem Qu(f g):qX f g γ=(f γ).bind λb=>if b=true then some true else g γ:=rfl
@[simp] theorem Jc(f):jc f γ=(f γ).map λb=> !b:=rfl
@[simp] theorem zhH(f g):YU f g γ=((f γ).bind asB).bind λb=>if b=true then g γ else some (.bl false):=rfl
@[simp] theorem zhD(f):zdX f γ=((f γ).bind asB).map λb=> .bl (!b):=rfl
@[simp] theorem zbU(c f g):XJ c f g γ=(c γ).bind λb=>if b=true then f γ else g γ:=rfl
@[simp] theorem xy:zC γ=some []:=rfl
@[simp] theorem j6(f g):zb f g γ=(f γ).bind λx=>(g γ).map λr=>x::r:=rfl
@[simp] theorem yW(f):qj f γ=(f γ).bind λds=>if ds.length<=lim then some (.tup ds)else none:=rfl
@[simp] theorem zg2(f):qF f γ=(f γ).bind λds=>if ds.length<=lim then some ds else none:=rfl
@[simp] theorem zg0:jh γ=some (.next γ):=rfl
@[simp] theorem Zp(f):jK f γ=(f γ).map λd=> .ret (.val d):=rfl
@[simp] theorem Xl(f):xC f γ=(f γ).map λd=> .ret (.own d):=rfl
@[simp] theorem zgY(i):QM i γ=Z8 γ[i]? :=rfl
@[simp] theorem zg6:W7 γ=some (.cont γ):=rfl
@[simp] theorem yJ(k F G):sIf k F G γ=(k γ).bind λb=>if b=true then F γ else G γ:=rfl
@[simp] theorem yX(i f):z5 i f γ=(f γ).map λd=> .next (γ.set i (.val d)):=rfl
@[simp] theorem zgW(i f):xS i f γ=(f γ).map λds=> .next (γ.set i (.own ds)):=rfl
@[simp] theorem ww(i f):jY i f γ=(xM γ[i]?).bind λds=>(f γ).bind λd=>if ds.length<lim then some (.next (γ.set i (.own (ds++[d]))))else none:=rfl
@[simp] theorem yK(F g):zA F g γ=(g γ).bind λds=>(F ds).map zbC:=rfl
@[simp] theorem zbn(F g):zY F g γ=(g γ).bind λds=>(F ds).bind zgl:=rfl
@[simp] theorem qQ(f):zD f γ=(f γ).map (·.2):=rfl
@[simp] theorem xx(f):zR f γ=((f γ).bind asI).bind λn=>if inR n=true then some (q8 0 n.toNat)else none:=rfl
@[simp] theorem zfs(f g):yn f g γ=((f γ).bind asI).bind λm=>((g γ).bind asI).bind λn=>if inR m=true/\inR n=true then some (q8 m (n - m).toNat)else none:=rfl
@[simp] theorem zfp(f g):Jh f g γ=((f γ).bind jE).bind λm=>((g γ).bind jE).map λn=>Jg m.2 n.2:=rfl
@[simp] theorem Qv(src T F):xT src T F γ=(src γ).bind λds=>qh T F ds γ:=rfl
@[simp] theorem qr(src T n fr k f):zE src T n fr k f γ=(src γ).bind λds=>if ds.length<=lim then zO T k f (zT n fr γ) ds else none:=rfl
@[simp] theorem zhB:zV γ=some true:=rfl
@[simp] theorem zg7(f g):yp f g γ=(f γ).bind λa=>(g γ).bind λb=>match a.1,b.1 with
 | .L,.L=>if a.2.length+b.2.length<=lim then some (a.2++b.2)else none
 | _,_=>none:=rfl
@[simp] theorem zgZ(f g):W6 f g γ=(f γ).bind λa=>((g γ).bind asI).bind λj=>match a.1 with
 | .L=>if a.2.length*j.toNat<=lim/\inR j=true then some (zii j.toNat a.2).flatten else none
 | _=>none:=rfl
@[simp] theorem yI(f g):sIx f g γ=(f γ).bind λa=>((g γ).bind asI).bind λi=>(ixD a.2.length i).bind λk=>a.2[k]? :=rfl
@[simp] theorem zf3(i g f):XH i g f γ=(f γ).bind λd=>(xM γ[i]?).bind λds=>((g γ).bind asI).bind λk=>(ixD ds.length k).map λj=> .next (γ.set i (.own (ds.set j d))):=rfl
@[simp] theorem zhE:KK γ=some none:=rfl
@[simp] theorem zh8(f):sBd f γ=((f γ).bind asI).map some:=rfl
@[simp] theorem zhC(f l h):KI f l h γ=(f γ).bind λd=>(l γ).bind λlo=>(h γ).bind λhi=>match d with
 | .tup xs=>some (.tup (WK xs lo hi))
 | _=>none:=rfl
@[simp] theorem Wu(f):qw f γ=(f γ).map λa=> .int a.2.length:=rfl
@[simp] theorem zg3(T f):sIs T f γ=(f γ).map λd=> .bl (zaY T d):=rfl
@[simp] theorem qT(f):zF f γ=(f γ).map λa=> .tup a.2:=rfl
@[simp] theorem zft(f):kJ f γ=(f γ).map λa=>a.2:=rfl
@[simp] theorem zfq(f):zbz f γ=(f γ).bind λa=>(WG a.2).map D.int:=rfl
@[simp] theorem zfv(f):WH f γ=(f γ).bind λa=>(yl a.2).map λs=> .bl (s.all id):=rfl
@[simp] theorem zhG(f):zbB f γ=(f γ).bind λa=>(yl a.2).map λs=> .bl (s.any id):=rfl
@[simp] theorem Wv(f):qJ f γ=(f γ).bind λd=>match d with
 | .int i=>some (.int i)
 | .bl b=>some (.int (if b then 1 else 0))
 | _=>none:=rfl
@[simp] theorem zgU(f):W5 f γ=(f γ).map λa=> !a.2.isEmpty:=rfl
theorem jb(F G):zJ F G γ=(F γ).bind λz=>match z with
 | .next γ'=>G γ'
 | f=>some f:=rfl
end ap
@[simp] theorem zhz(ds):jE (.tup ds)=some (.T,ds):=rfl
@[simp] theorem zfo(ds):jE (.lst ds)=some (.L,ds):=rfl
@[simp] theorem zQ(d):Xh (some (.val d))=some d:=rfl
@[simp] theorem z6(d):kh (some (.val d))=jE d:=rfl
@[simp] theorem wr(d):kh (some (.own d))=some (.L,d):=rfl
@[simp] theorem Xi(d):xM (some (.own d))=some d:=rfl
@[simp] theorem zdm(d):Z8 (some (.val d))=some (.ret (.val d)):=rfl
@[simp] theorem zdn(d):Z8 (some (.own d))=some (.ret (.own d)):=rfl
@[simp] theorem Zo(b):asB (.bl b)=some b:=rfl
@[simp] theorem qc(b):asI (.int b)=some b:=rfl
@[simp] theorem zfE(d):zbC (.val d)=d:=rfl
@[simp] theorem zfF(d):zbC (.own d) = .lst d:=rfl
@[simp] theorem zaa(d):zgl (.own d)=some d:=rfl
@[simp] theorem zfX(i j):wo (.int i) (.int j)=some (.int (i - j)):=rfl
@[simp] theorem zbc(i j):jx (.int i) (.int j)=some (.int (i+j)):=rfl
@[simp] theorem zf0(i j):jW (.int i) (.int j)=if 0<j then some (.int (i%j))else none:=by
 show(if zfk i j=true then _ else _)=_;simp [zfk]
@[simp] theorem zf1(i j):kB (.int i) (.int j)=if 0<j/\j<1073741824 then some (.int (i/j))else none:=by
 show(if zfl i j=true then _ else _)=_;have e:(zfl i j=true)=(0<j/\j<1073741824):=by
  unfold zfl;rw [Bool.and_eq_true,decide_eq_true_eq,decide_eq_true_eq];apply propext;constructor<;>intro h<;>exact⟨h.1,by omega⟩
 simp only [e]
@[simp] theorem zfZ(i j):qH (.int i) (.int j)=if wB i j=true then some (.int (i*j))else none:=rfl
@[simp] theorem zfY(i j):zdg (.int i) (.int j)=if zfj i j=true then some (.int (i ^ j.toNat))else none:=rfl
@[simp] theorem zdh(i j):dLt (.int i) (.int j)=some (.bl (decide (i<j))):=rfl
@[simp] theorem zdi(i j):dLe (.int i) (.int j)=some (.bl (decide (i<=j))):=rfl
@[simp] theorem zgO(i j):dGt (.int i) (.int j)=some (.bl (decide (j<i))):=rfl
@[simp] theorem zgP(i j):dGe (.int i) (.int j)=some (.bl (decide (j<=i))):=rfl
@[simp] theorem zgQ(i j):dEq (.int i) (.int j)=some (.bl (decide (i=j))):=by
 unfold dEq;rw [if_pos ⟨rfl,rfl⟩];exact congrArg (λb=>some (D.bl b)) (by rw [zlx];simp [eqD])
@[simp] theorem zgN(i j):dNe (.int i) (.int j)=some (.bl (!decide (i=j))):=by
 unfold dNe;rw [if_pos ⟨rfl,rfl⟩];exact congrArg (λb=>some (D.bl !b)) (by rw [zlx];simp [eqD])
@[simp] theorem zdV(i is d ds γ):qx (i::is) (d::ds) γ=qx is ds (γ.set i (.val d)):=rfl
@[simp] theorem zdU(ds γ):qx [] ds γ=γ:=by cases ds<;>rfl
@[simp] theorem ky(i d γ):qB (.nm i) d γ=some (γ.set i (.val d)):=rfl
@[simp] theorem Qm(i j a b γ):qB (.tp [i,j]) (.tup [a,b]) γ=some ((γ.set i (.val a)).set j (.val b)):=rfl
@[simp] theorem ZF(γ:Ctx)(G:CO Fl):(some (Fl.next γ)).bind (λz=>match z with
 | .next γ'=>G γ'
 | f=>some f)=G γ:=rfl
theorem yV(i j:Int)(h1 : -(2 ^ 64)<j)(h2:j<2 ^ 64):wB i j=true:=by
 unfold wB;rw [zjF];right;exact decide_eq_true ⋯
theorem yf(i j:Int)(h1 : -(2 ^ 64)<i)(h2:i<2 ^ 64):wB i j=true:=by
 unfold wB;rw [zjF];left;exact decide_eq_true ⋯
theorem Zk{i:Int}(h1 : -(2 ^ 62)<i)(h2:i<2 ^ 62):inR i=true:=by
 unfold inR;exact decide_eq_true ⋯
@[simp] theorem qL(n k:Nat):ixD n (k:Int)=if k<n then some k else none:=by
 unfold ixD;by_cases h:k<n
 ·rw [if_pos ⟨Int.natCast_nonneg k,by omega⟩,if_pos h];simp
 ·rw [if_neg ⋯,if_neg ⋯,if_neg h]
theorem jD:lim=2500:=rfl
@[simp] theorem zfV:0<=lim:=zjj _
@[simp] theorem zfU:1<=lim:=by decide
@[simp] theorem zfT:2<=lim:=by decide
@[simp] theorem zfS:3<=lim:=by decide
@[simp] theorem zfR:4<=lim:=by decide
@[simp] theorem zfQ:5<=lim:=by decide
@[simp] theorem zfP:6<=lim:=by decide
@[simp] theorem zfO:7<=lim:=by decide
@[simp] theorem zfN:8<=lim:=by decide
@[simp] theorem zfL:0<lim:=by decide
@[simp] theorem yC{n:Nat}(h:n<=lim):inR (n:Int)=true:=Zk ⋯ (by have:=jD;omega)
@[simp] theorem ix0(n:Nat):ixD (n+1) 0=some 0:=qL (n+1) 0 ▸ rfl
@[simp] theorem ix1(n:Nat):ixD (n+2) 1=some 1:=by
 have:=qL (n+2) 1;simpa using this
@[simp] theorem ix2(n:Nat):ixD (n+3) 2=some 2:=by
 have:=qL (n+3) 2;simpa using this
theorem zw{α:Type}{T:Tg}{k:CO Bool}{f:CO D}{γ:Ctx}{g:α->D}(r:α->D) : ∀(l:List α),(∀x∈l,zO T k f γ [g x]=some [r x])->zO T k f γ (l.map g)=some (l.map r)
 | [],_=>rfl
 | x::l,h=>by
  have h1:=h x ziv;have h2:=zw r l λy I=>h y (ziu _ I);simp only [ziK,zO]at h1 ⊢;cases e1:qB T (g x) γ with
  | none=>rw [e1]at h1;simp at h1
  | some z=>
   rw [e1]at h1;simp only [zij]at h1 ⊢;cases e2:k z with
   | none=>rw [e2]at h1;simp at h1
   | some b=>
    rw [e2]at h1;simp only [zij]at h1 ⊢;cases b with
    | false=>simp at h1
    | true=>
     simp only [if_pos]at h1 ⊢;cases e3:f z with
     | none=>rw [e3]at h1;simp at h1
     | some e=>
      rw [e3]at h1;simp at h1;rw [h2];simp [h1]
theorem zx{k:CO Bool}{f:CO D}{γ z:Ctx}{T:Tg}{d e:D}(h1:qB T d γ=some z)(h2:k z=some true)(I:f z=some e):zO T k f γ [d]=some [e]:=by
 simp [zO,h1,h2,I]
theorem jQ(T F d ds γ):qh T F (d::ds) γ=(qB T d γ).bind λI=>(F I).bind λO=>match O with
 | .next z=>qh T F ds z
 | .cont z=>qh T F ds z
 | .brk z=>some (.next z)
 | .ret r=>some (.ret r):=rfl
theorem ka{T:Tg}{F:CO Fl}(P:Nat->Ctx->Prop) : ∀(ds:List D) (k:Nat) (γ:Ctx),P k γ->(∀i d γ,ds[i]? = some d->P (k+i) γ->∃γ',((qB T d γ).bind F=some (.next γ')\/(qB T d γ).bind F=some (.cont γ'))/\P (k+i+1) γ')->
 ∃γ',qh T F ds γ=some (.next γ')/\P (k+ds.length) γ'
 | [],k,γ,h,_=>⟨γ,rfl,h⟩
 | d::ds,k,γ,h,step=>by
  obtain⟨z,e,h1⟩:=step 0 d γ rfl h;obtain⟨γ',I,h2⟩:=ka P ds (k+1) z (by simpa using h1) (λi d' O hd S=>by
   have:=step (i+1) d' O (by simpa using hd) (by rw [show k+(i+1)=k+1+i by omega];exact S);rw [show k+(i+1)+1=k+1+i+1 by omega]at this;exact this)
  refine⟨γ',?_,by rw [show k+(d::ds).length=k+1+ds.length by simp;omega];exact h2⟩;rw [jQ];cases eb:qB T d γ with
  | none=>rw [eb]at e;simp at e
  | some U=>
   rw [eb]at e;simp only [zij]at e ⊢;rcases e with e | e<;>rw [e]<;>exact I
def zB(n:Nat)(f:Nat->Int):List D:=(zie n).map λi=>D.int (f i)
theorem jg(n f):zB n f=(zie n).map λi=>D.int (f i):=rfl
def zS(h w:Nat)(f:Nat->Nat->Int):List D:=(zie h).map λi=>D.tup (zB w (f i))
def jf(h w:Nat)(f:Nat->Nat->Int):D:= .tup [.int h,.int w,.tup (zS h w f)]
@[simp] theorem vi(n f):(zB n f).length=n:=by simp [zB]
@[simp] theorem Ke(h w f):(zS h w f).length=h:=by simp [zS]
@[simp] theorem zgK{n i:Nat}(f)(h:i<(zB n f).length):(zB n f)[i] = .int (f i):=by simp [zB]
theorem Z1{n i:Nat}(f)(h:i<n):(zB n f)[i]? = some (.int (f i)):=by simp [zB,h]
@[simp] theorem zgL{h w i:Nat}(f)(hi:i<(zS h w f).length):(zS h w f)[i] = .tup (zB w (f i)):=by simp [zS]
theorem xL{n:Nat}{f g:Nat->Int}(h : ∀i,i<n->f i=g i):zB n f=zB n g:=by
 unfold zB;apply ziy;intro i hi;rw [h i (zig.mp hi)]
theorem Z3{h w:Nat}{f g:Nat->Nat->Int}(e : ∀i j,i<h->j<w->f i j=g i j):zS h w f=zS h w g:=by
 unfold zS;apply ziy;intro i hi;rw [xL λj z=>e i j (zig.mp hi) z]
theorem Z2{h w:Nat}{f g:Nat->Nat->Int}(e : ∀i j,i<h->j<w->f i j=g i j):jf h w f=jf h w g:=by
 unfold jf;rw [Z3 e]
theorem jI(n:Nat):q8 0 n=zB n λi=>(i:Int):=by simp [q8,zB]
theorem kO(n:Nat)(f g:Nat->Int):Jg (zB n f) (zB n g)=(zie n).map λi=>D.tup [.int (f i),.int (g i)]:=by
 unfold Jg zB;rw [zkz];simp
theorem WN(n w:Nat)(f g:Nat->Nat->Int):Jg (zS n w f) (zS n w g)=(zie n).map λi=>D.tup [.tup (zB w (f i)),.tup (zB w (g i))]:=by
 unfold Jg zS;rw [zkz];simp
def zo(f:Nat->Int):Nat->Int
 | 0=>0
 | n+1=>zo f n+f n
theorem vD : ∀(xs:List Int) (y:Int),WG (xs.map D.int++[.int y])=(WG (xs.map D.int)).map λs=>s+y
 | [],y=>by simp [WG]
 | x::xs,y=>by
  simp only [ziK,zlp,WG];rw [vD xs y];cases e:WG (xs.map D.int)<;>simp [Int.add_assoc]
theorem vC(f:Nat->Int) : ∀n,WG (zB n f)=some (zo f n)
 | 0=>rfl
 | n+1=>by
  have z:=vC f n;have e : ∀m,zB m f=((zie m).map f).map D.int:=λm=>by simp [zB]
  rw [e]at z ⊢;rw [zjE,zjf,zjf,zlS,zlS,vD,z];simp [zo]
def F_rests:List D->Option Res:=jC 2 (jK (zF (zX (zE (zD (zf 1)) (.nm 0) 1 [0] zV (zq jW (ze 0) (ze 1))))))
def F_led:List D->Option Res:=jC 3 (jK (zA F_rests (zb (ze 0) (zb (jq (zE (zD (zH (sIx (zf 1) (zk (.int 2))))) (.nm 0) 1 [2] zV (zbz (zX (zE (Jh (ze 0) (ze 1)) (.tp [0,1]) 2 [] zV (zq qH (ze 0) (ze 1))))))) zC))))
def F_turned_over:List D->Option Res:=jC 2 (zJ (z5 1 (jq (zE (zR (sIx (zf 0) (zk (.int 1)))) (.nm 0) 1 [0] zV (zF (zX (zE (zD (zH (sIx (zf 1) (zk (.int 2))))) (.nm 0) 1 [0] zV (sIx (zf 0) (ze 1)))))))) (jK (qj (zb (sIx (zf 0) (zk (.int 1))) (zb (sIx (zf 0) (zk (.int 0))) (zb (zF (zf 1)) zC))))))
def F_same_table:List D->Option Res:=jC 2 (zJ (z5 1 (jq (zE (zR (ze 0)) (.nm 0) 1 [0] zV (zF (zX (zE (zR (ze 1)) (.nm 0) 1 [0] zV (XJ (sB (zq dEq (ze 1) (ze 0))) (zk (.int 1)) (zk (.int 0))))))))) (jK (qj (zb (ze 0) (zb (ze 0) (zb (zF (zf 1)) zC))))))
def F_law_whole:List D->Option Res:=jC 1 (jK (YU (sIs .int (ze 0)) (zdX (sIs .bool (ze 0)))))
def F_inverse:List D->Option Res:=jC 3 (zJ (xT (yn (zk (.int 1)) (ze 0)) (.nm 2) (sIf (sB (zq dEq (zq jW (zq qH (ze 1) (ze 2)) (ze 0)) (zk (.int 1)))) (QM 2) jh)) XI)
def F_cleared:List D->Option Res:=jC 5 (zJ (z5 4 (sIx (zf 1) (ze 3))) (zJ (sIf (sB (zq dEq (ze 4) (zk (.int 0)))) (QM 1) jh) (jK (zA F_rests (zb (ze 0) (zb (jq (zE (Jh (ze 1) (ze 2)) (.tp [0,1]) 2 [4] zV (zq wo (ze 0) (zq qH (ze 2) (ze 1))))) zC))))))
def F_base_of:List D->Option Res:=jC 9 (zJ (z5 3 (jq (zE (zD (zf 2)) (.nm 0) 1 [0] zV (zA F_rests (zb (ze 1) (zb (ze 0) zC)))))) (zJ (xS 4 (qF zC)) (zJ (xT (zR (ze 1)) (.nm 5) (zJ (z5 6 (jq (zE (zD (zf 3)) (.nm 0) 1 [5] (sB (zq dNe (sIx (zf 0) (ze 1)) (zk (.int 0)))) (ze 0)))) (zJ (sIf (jc (W5 (zf 6))) W7 jh) (zJ (z5 7 (zA F_inverse (zb (ze 0) (zb (sIx (zH (sIx (zf 6) (zk (.int 0)))) (ze 5)) zC)))) (zJ (z5 8 (zA F_rests (zb (ze 0) (zb (jq (zE (zD (zH (sIx (zf 6) (zk (.int 0))))) (.nm 0) 1 [7] zV (zq qH (ze 1) (ze 0)))) zC)))) (zJ (z5 3 (jq (zE (zD (zf 3)) (.nm 0) 1 [0,5,8] zV (zA F_cleared (zb (ze 1) (zb (ze 0) (zb (ze 3) (zb (ze 2) zC)))))))) (xS 4 (yp (zX (zE (zD (zf 4)) (.nm 0) 1 [0,5,8] zV (zA F_cleared (zb (ze 1) (zb (ze 0) (zb (ze 3) (zb (ze 2) zC))))))) (zX (qF (zb (ze 8) zC))))))))))) (QM 4))))
def Zs:List D->Option Res:=jC 13 (zJ (z5 3 (jq (qF zC))) (zJ (xT (zD (zH (ze 2))) (.nm 4) (zJ (z5 5 (jq (kJ (zf 4)))) (zJ (xT (zD (zH (ze 3))) (.tp [6,7]) (zJ (z5 8 (sIx (zf 5) (ze 6))) (z5 5 (jq (zE (Jh (ze 5) (ze 7)) (.tp [0,1]) 2 [0,8] zV (zq jW (zq wo (ze 0) (zq qH (ze 3) (ze 1))) (ze 2))))))) (zJ (z5 9 (jq (zE (zR (ze 1)) (.nm 0) 1 [5] (sB (zq dNe (sIx (zf 1) (ze 0)) (zk (.int 0)))) (ze 0)))) (sIf (sB (zq dGt (qw (zf 9)) (zk (.int 0)))) (zJ (z5 6 (sIx (zf 9) (zk (.int 0)))) (zJ (z5 10 (sIx (zX (zE (yn (zk (.int 1)) (ze 0)) (.nm 0) 1 [0,5,6] (sB (zq dEq (zq jW (zq qH (ze 0) (sIx (zf 2) (ze 3))) (ze 1)) (zk (.int 1)))) (ze 0))) (zk (.int 0)))) (zJ (z5 5 (jq (zE (zD (zf 5)) (.nm 0) 1 [0,10] zV (zq jW (zq qH (ze 2) (ze 0)) (ze 1))))) (zJ (xS 11 (qF zC)) (zJ (xT (zD (zH (ze 3))) (.tp [12,7]) (zJ (z5 8 (sIx (zf 7) (ze 6))) (jY 11 (qj (zb (ze 12) (zb (jq (zE (Jh (ze 7) (ze 5)) (.tp [0,1]) 2 [0,8] zV (zq jW (zq wo (ze 0) (zq qH (ze 3) (ze 1))) (ze 2)))) zC)))))) (z5 3 (jq (QK (zX (yp (zf 11) (zX (qF (zb (qj (zb (ze 6) (zb (ze 5) zC))) zC))))))))))))) jh))))) (xC (zE (zD (zf 3)) (.tp [0,1]) 2 [] zV (zF (zf 1))))))
def F_behind_noughts:List D->Option Res:=jC 2 (xC (zE (zD (zf 1)) (.nm 0) 1 [0] (jc (sB (zbB (zH (KI (ze 0) KK (sBd (ze 1))))))) (KI (ze 0) (sBd (ze 1)) KK)))
def F_led_into:List D->Option Res:=jC 5 (zJ (z5 3 (jq (zE (Jh (sIx (zH (zA F_turned_over (zb (ze 1) zC))) (zk (.int 2))) (sIx (zH (zA F_same_table (zb (sIx (zf 1) (zk (.int 1))) zC))) (zk (.int 2)))) (.tp [0,1]) 2 [] zV (zq jx (ze 0) (ze 1))))) (zJ (z5 4 (jq (zE (zD (zf 2)) (.nm 0) 1 [1] zV (zq jx (ze 0) (zq qH (qj (zb (zk (.int 0)) zC)) (sIx (zf 1) (zk (.int 1)))))))) (xC (zY F_behind_noughts (zb (sIx (zf 1) (zk (.int 0))) (zb (jq (zY F_base_of (zb (ze 0) (zb (zq jx (sIx (zf 1) (zk (.int 0))) (sIx (zf 1) (zk (.int 1)))) (zb (jq (yp (zf 3) (zf 4))) zC))))) zC))))))
def F_kernel:List D->Option Res:=jC 2 (xC (zY F_led_into (zb (ze 0) (zb (ze 1) (zb (jq (qF zC)) zC)))))
def F_image:List D->Option Res:=jC 2 (xC (zY F_base_of (zb (ze 0) (zb (sIx (zf 1) (zk (.int 0))) (zb (sIx (zH (zA F_turned_over (zb (ze 1) zC))) (zk (.int 2))) zC)))))
def F_lead_of:List D->Option Res:=jC 1 (jK (sIx (zX (zE (wG (ze 0)) (.tp [0,1]) 2 [] (sB (zq dNe (ze 1) (zk (.int 0)))) (ze 0))) (zk (.int 0))))
def F_solved:List D->Option Res:=jC 7 (zJ (z5 3 (sIx (zf 1) (zk (.int 1)))) (zJ (xS 4 (W6 (zX (qF (zb (zk (.int 0)) zC))) (ze 3))) (zJ (xT (zD (zH (jq (zY F_base_of (zb (ze 0) (zb (zq jx (ze 3) (zk (.int 1))) (zb (jq (zE (Jh (sIx (zf 1) (zk (.int 2))) (ze 2)) (.tp [0,1]) 2 [] zV (zq jx (ze 0) (qj (zb (ze 1) zC))))) zC))))))) (.nm 5) (zJ (z5 6 (zA F_lead_of (zb (ze 5) zC))) (zJ (sIf (sB (zq dEq (ze 6) (ze 3))) (jK (zk .non)) jh) (XH 4 (ze 6) (sIx (zf 5) (ze 3)))))) (jK (zF (zf 4))))))
section
variable(γ:Ctx)
@[simp] theorem zg5(f):wG f γ=(f γ).bind λd=>match d with
 | .tup ds=>some (j4 ds)
 | _=>none:=rfl
@[simp] theorem zf6(F G a b c):xP F G a b c γ=(a γ).bind λx=>(b γ).bind λy=>((F x y).bind asB).bind λk=>if k=true then (c γ).bind λz=>G y z else some (.bl false):=rfl
@[simp] theorem zgV(T f):JB T f γ=(f γ).bind λd=>(qB T d γ).map .next:=rfl
end
def F_back_of:List D->Option Res:=jC 5 (zJ (z5 2 (sIx (zf 1) (zk (.int 0)))) (zJ (sIf (sB (zq dNe (sIx (zf 1) (zk (.int 1))) (ze 2))) (jK (zk .non)) jh) (zJ (z5 3 (sIx (zH (zA F_same_table (zb (ze 2) zC))) (zk (.int 2)))) (zJ (z5 4 (jq (zY F_base_of (zb (ze 0) (zb (zq jx (ze 2) (ze 2)) (zb (jq (zE (Jh (sIx (zf 1) (zk (.int 2))) (ze 3)) (.tp [0,1]) 2 [] zV (zq jx (ze 0) (ze 1)))) zC)))))) (zJ (sIf (sB (zq dNe (jq (zE (zD (zf 4)) (.nm 0) 1 [2] zV (KI (ze 0) KK (sBd (ze 1))))) (jq (kJ (zf 3))))) (jK (zk .non)) jh) (jK (qj (zb (ze 2) (zb (ze 2) (zb (zF (zX (zE (zD (zf 4)) (.nm 0) 1 [2] zV (KI (ze 0) (sBd (ze 1)) KK)))) zC))))))))))
section
variable(γ:Ctx)
@[simp] theorem zgX(i f):KJ i f γ=(f γ).bind λrows=>if γ.any jL=false then some (.next (γ.set i (.nest rows)))else none:=rfl
@[simp] theorem zf5(src T n fr f):yO src T n fr f γ=(src γ).bind λds=>if ds.length<=lim then kf T f (zT n fr γ) ds else none:=rfl
@[simp] theorem zg4(i F):KM i F γ=(xh γ[i]?).bind λrows=>F (γ.set i (.val (.lst (rows.map D.lst)))):=rfl
end
@[simp] theorem zbf(r):xh (some (.nest r))=some r:=rfl
section
variable(γ:Ctx)
@[simp] theorem zbj(f g):vJ f g γ=(f γ).bind λd=>((g γ).bind asI).bind λi=>match d with
 | .str z=>if jF z=true then (ixD z.cps.toList.length i).bind λk=>z.cps.toList[k]?.map λc=> .str ⟨#[c]⟩else none
 | _=>none:=rfl
@[simp] theorem zds(f):QO f γ=(f γ).bind λd=>match d with
 | .str z=>if jF z=true then some (.int z.length)else none
 | _=>none:=rfl
@[simp] theorem zdt(f g):YT f g γ=(f γ).bind λd=>(g γ).bind λa=>match d,a.1 with
 | .str sep,.L=>(wF a.2).bind λl=>if l.length<=lim/\l.all jF=true/\jF sep=true then some (.str (zlV sep l))else none
 | _,_=>none:=rfl
end
def zgk(f:CO D):CO D:=λγ=>(f γ).map λd=> .bl (zaY .list d || zaY .tuple d)
def Yo:List D->Option Res:=jC 1 (jK (YU (sIs .int (ze 0)) (zdX (sIs .bool (ze 0)))))
def Qx:List D->Option Res:=jC 2 (jK (YU (zA Yo (zb (ze 1) zC)) (xP dLe dLt (zk (.int 0)) (ze 1) (ze 0))))
def Xr:List D->Option Res:=jC 2 (jK (YU (zgk (ze 0)) (zq dEq (qw (zf 0)) (ze 1))))
theorem xV{X:Cx}{es:List Expr}{n:Nat}{g:CO (List D)}(h:PAn X es n g):PAD X es g:=h.1
section
variable{K:PySem.W.Frag}{E0 E H0 H:Hp}{σ:St}{γ:Ctx}
theorem Reps.dropLast : ∀{ds:List D} {xs:List V},Reps K H ds xs->Reps K H ds.dropLast xs.dropLast
 | [],xs,r=>by rw [r.inv_nil];exact Reps.nil
 | [d],xs,r=>by
  obtain⟨x,r',e,_,r2⟩:=r.inv_cons;rw [e,r2.inv_nil];exact Reps.nil
 | d::d2::ds,xs,r=>by
  obtain⟨x,r',e,z,r2⟩:=r.inv_cons;obtain⟨O,S,I,_,_⟩:=r2.inv_cons;subst e I;exact Reps.cons z (Reps.dropLast r2)
theorem RS.renest{j:Nat}{R R':List (List D)}{a:Addr}{bs O:List Addr}(r:RS K E0 E H0 H σ γ)(hj:γ[j]? = some (.nest R))(hs:σ[j]? = some (some (.ref a)))(hn:Nest K H0 H R a bs)
 (a4 : ∀(k:Nat) ds c,γ[k]? = some (.own ds)->σ[k]? = some (some (.ref c))->c∉a::O) (n':Nest K H0 (upd H a (.lst (O.map V.ref))) R' a O) (ef : ∀b∈O,E b=none) :
 RS K E0 E H0 (upd H a (.lst (O.map V.ref))) σ (γ.set j (.nest R')):=by
 have a7:j<γ.length:=(zit.mp hj).1;obtain⟨ea,er⟩:=r.fr2 j R a _ hj hs hn.ha;have a0:=hn.a0;have S : ∀{k:Nat} {c:Cell},(∀rows,c ≠ .nest rows)->(γ.set j (.nest R'))[k]? = some c->γ[k]? = some c:=λ{k c} hc g=>by
  rcases zM g with⟨_,z,_⟩ | ⟨Y,z⟩
  ·exact absurd z (hc _)
  ·exact z
 have Z : ∀{k rows},(γ.set j (.nest R'))[k]? = some (.nest rows)->k=j:=λ{k rows} g=>by
  rcases zM g with⟨z,_,_⟩ | ⟨_,z⟩
  ·exact z
  ·exact r.rc.nst.2 k j rows R z hj
 refine⟨⟨λc o q=>?_,by simp [r.rc.len],λk d g=>r.rc.val k d (S ⋯ g),λk ds g=>?_,λk m c ds es e1 e2 e3 e4=>r.rc.ne k m c ds es (S ⋯ e1) (S ⋯ e2) e3 e4,⟨λk rows g=>?_,λk m r1 r2 I g2=>?_⟩⟩,⟨r.ext.s0,λc o q=>?_,λc o q=>?_,r.ext.new⟩,λk ds c I g2=>r.fresh k ds c (S ⋯ I) g2,λk rows c xs I g2 U=>?_⟩
 ·rw [zG (λz=>by rw [z,a0]at q;cases q)];exact r.rc.sub c o q
 ·have z:=S ⋯ g
  obtain⟨c,xs,h1,h2,h3,h5⟩:=r.rc.own k ds z;refine⟨c,xs,h1,h2,?_,h5⟩;rw [zG (λq=>a4 k ds c z h1 (by rw [q];exact ziv))];exact h3
 ·have Y:=Z g
  subst Y;rw [ziM a7]at g;cases g;exact⟨a,O,hs,n',λm ds c I g2=>a4 m ds c (S ⋯ I) g2⟩
 ·rw [Z I,Z g2]
 ·rw [zG (λz=>by rw [z,ea]at q;cases q)];exact r.ext.s1 c o q
 ·rw [zG (λz=>by rw [z,a0]at q;cases q)];exact r.ext.sub c o q
 ·have Y:=Z I
  subst Y;rw [hs]at g2;cases g2;rw [zL]at U;injection U with U;injection U with U;subst U;refine⟨ea,λb hb=>?_⟩;obtain⟨c,hc,q⟩:=ziB.mp hb;cases q;exact ef b hc
end
section
variable{X:Cx}{sc:Scope}{N L:List Str}{k:Nat}{a b e:Expr}{pos p p2:Pos}{f g:CO D}
theorem yq{j:Nat}{γ:Ctx}{t:List (List D)×Nat×List D}(h:ZG j g γ=some t):γ[j]? = some (.nest t.1)/\∃d i,g γ=some d/\asI d=some i/\ixD t.1.length i=some t.2.1/\t.1[t.2.1]? = some t.2.2:=by
 obtain⟨R,e1,h⟩:=bind_some h;obtain⟨i,z,h⟩:=bind_some h;obtain⟨d,I,z⟩:=bind_some z;obtain⟨k,O,h⟩:=bind_some h;obtain⟨row,S,h⟩:=zy h;subst h;exact⟨ye e1,d,i,I,z,O,S⟩
theorem YV{K:PySem.W.Frag}{H0 H:Hp}{R:List (List D)}{a:Addr}{bs:List Addr}{i:Int}{t:Nat}(hn:Nest K H0 H R a bs)(hi:ixD R.length i=some t)(I:R[t]? = some row) :
 ∃b xs,bs[t]? = some b/\atI (bs.map V.ref) i=some (.ref b)/\H b=some (.lst xs)/\Reps K H0 row xs:=by
 have O:t<bs.length:=by rw [hn.len];exact(zit.mp I).1
 have z:bs[t]? = some bs[t]:=zih O;obtain⟨h1,xs,h2,S⟩:=hn.row t _ _ z I;refine⟨_,xs,z,?_,h2,S⟩;unfold atI;rw [ziD,hn.len,Zf hi];show(bs.map V.ref)[t]? = _;rw [zja,z];rfl
theorem KQ{c:Expr}{fa:CO D}(ha:PV X a fa){O:CO (Sk×List D)}(U:PQ X c O)(hm:behindInMarks .NotIn c=false:=by with_unfolding_all rfl):PTD X (.Compare a [.NotIn] [c] pos) (sB (vK fa O)):=
 JK (Y3 JS ha U hm) λσ H Q Y=>by
  obtain⟨H0,γ,d,rc,z,q⟩:=Y;obtain⟨db,Z,eb⟩:=bind_some z;obtain⟨x,e1,z⟩:=bind_some Z;obtain⟨⟨kk,ds⟩,e2,z⟩:=bind_some z;obtain⟨i,e3,z⟩:=bind_some z;obtain⟨l,e4,rfl⟩:=zy z;cases eb;refine⟨H0,γ,x,rc,e1,λS H1 a4 x1 I=>⟨a4,γ,kk,ds,rc.ext x1,e2,λp xs H2 a5 x2 h1 h2 r=>?_⟩⟩;rw [jw e3]at I;have ex:=J4 r e4;subst ex;have hq:SqL X.K H2 p (l.map V.int)\/SqT X.K H2 p (l.map V.int):=by
   cases kk with
   | L=>exact .inl h1
   | T=>exact .inr h1
  refine⟨p,_,rfl,hq,by rw [show S = .int i from I];rfl,Qc l,?_⟩;rw [show S = .int i from I,VP];exact⟨_,rfl,q H2 a5 (x1.trans x2)⟩
end
end DL
namespace L2
open PySem PySem.Spec PyProof.Rows
theorem zgC(z:Str):strIterType z = "str_ascii_iterator"\/strIterType z = "str_iterator":=by unfold strIterType;split<;>simp
theorem Kc{X:Cx}{pins:List (Addr×Obj)}{σ:St}{H:Hp}{s:Shared}{E:Value->Shared->Prop}{z it:Addr}{i tk:Nat}{x:Value}{v:V}{g:Heap}{elts:List Expr}{x1:Nat}{tpos:Pos}{Q:Unit->Shared->Prop}
 (I:Inv X pins σ H s) (Y : ∀b ∈ [z,it],FpOk X pins H b) (Z:z<s.heap.objs.size) (hi:it<s.heap.objs.size) (a1:IsEnumOut g z it ((i:Int)+1) x s.heap.objs.size)
 (a3:IsPair g s.heap.objs.size (.int i tk) x) (a5 : ∀b o,b≠z->b≠it->s.heap.get? b=some o->g.get? b=some o) (rx:RelV v x)
 (a7 : ∀g2,IsEnum g2 z it ((i+1:Nat):Int) x->zkl z g g2->Inv X pins σ (upd H s.heap.objs.size (.tup [.int i,v])) {s with heap:=g2,toks:=tk+1}->H s.heap.objs.size=none->
   (∀b ∈ [z,it],upd H s.heap.objs.size (.tup [.int i,v]) b=none)->Q () {s with heap:=g2,toks:=tk+1}) :
 wpAny (model X.prog X.w) X.A (letOwnedTupleGo (.Tuple elts x1 tpos) (.ref z) (.ref s.heap.objs.size)) Q E {s with heap:=g,toks:=tk+1}:=by
 refine wpAny_letOwnedTupleGo_enum a1 λg2 a8 U=>?_;have a9:IsPair g2 s.heap.objs.size (.int i tk) x:=U.extBut _ _ (zjI Z) a3;have kk : ∀O u,O ∉ [z,it]->s.heap.get? O=some u->g2.get? O=some u:=λO u S e=>by
  simp only [ziq,ziH,or_false,not_or]at S;exact U.extBut _ _ S.1 (a5 O u S.1 S.2 e)
 refine a7 g2 (by have:=a8;rwa [show((i:Int)+1)=((i+1:Nat):Int)by omega]at this) U (I.turnLaid (fp:=[z,it]) kk Y (zim _) ⟨by show 2<=sizeLine;decide,[.int i tk,x],.cons ⟨_,rfl⟩ (.cons rx .nil),⟨_,a9,rfl,_,rfl⟩⟩) I.fresh λO S=>?_;have aa:O≠s.heap.objs.size:=by
  simp only [ziq,ziH,or_false]at S;rcases S with rfl | rfl
  ·exact ziI Z
  ·exact ziI hi
 rw [zG aa];exact(Y O S).1
def zhe(K:PySem.W.Frag)(a:Addr):It:=
 ⟨λi H=>∃xs,SqL K H a xs/\i<xs.length,
  λi H x H'=>∃p u,x = .ref p/\H p=none/\H'=upd H p (.tup [.int i,u])/\(∀xs,SqL K H a xs->xs[i]? = some u),
  λi H=>∃xs,SqL K H a xs/\xs.length=i⟩
theorem Kw{P:Program}{w:World}{K:PySem.W.Frag}{elts:List Expr}{x1:Nat}{tpos:Pos}{z it a:Addr}(a9:z≠it) :
 Turn P w K (.Tuple elts x1 tpos) (zhe K a) [z,it] z (λi h=>(∃U,IsEnum h z it i U)/\h.IsListIter it a i) where
 mem:=by simp
 obj:=λi h ⟨⟨U,O⟩,h1⟩ y hy=>by
  simp only [ziq,ziH,or_false]at hy;rcases hy with rfl | rfl
  ·exact⟨_,O,λv q=>by cases q⟩
  ·obtain⟨o,e,c,d⟩:=h1
   exact⟨o,e,λv q=>by rw [d]at q;cases q⟩
 keep:=λi h h' ⟨⟨U,O⟩,h1⟩ k=>⟨⟨U,k z ⋯ _ O⟩,h1.at λo e=>k it ⋯ o e⟩
 item:=by
  rintro X rfl rfl rfl hc i pins s σ H E I hf ⟨⟨U,O⟩,h1⟩ ⟨xs,a0,aj⟩;obtain⟨a6,a7,p1,z1⟩:=I.list a0;have Y:=p1.isList;have hx:xs[i]? = some xs[i]:=zih aj;have l1:=a7.length;have ad:a≠it:=λe=>by
   obtain⟨o,e1,S,_⟩:=Y;obtain⟨o2,Z,c2,_⟩:=h1;rw [e,Z]at e1;cases e1;rw [c2]at S;exact absurd S ⋯
  have al:z≠a:=λe=>by
   obtain⟨o,e1,S,_⟩:=Y;have ah:s.heap.get? z=some _:=O;rw [e,e1]at ah;cases ah;exact absurd S ⋯
  have am:it<s.heap.objs.size:=by obtain⟨o2,Z,_⟩:=h1;exact ziw Z
  have Dr:=Draws.list (prog:=X.prog) (w:=X.w) (A:=X.A.in1) (show X.A.in1.handled=none from I.ok.hd hc) it a ad a6.toArray;refine wpAny_pyNext_enum_itemD Dr O ⟨h1,Y⟩ (by simp;omega) a9 (by simp;exact⟨a9,al⟩) λx g tk hP a1 a2 a3 a4 a5=>⟨_,rfl,?_⟩;obtain⟨u1,au,av⟩:=a7.get hx;obtain rfl:u1=x:=by have:=hP;simp [au]at this;exact this
  refine Kc I hf (ziw O) am a1 a3 a5 av λg2 b1 b2 I1 ax hn=>⟨.ref s.heap.objs.size,_,I1,rfl,⟨_,_,rfl,ax,rfl,λb7 ay=>by rw [I.list_inj ay a0];exact hx⟩,⟨⟨_,b1⟩,a2.1.at λo e=>b2.extBut _ _ a9.symm e⟩,hn⟩
 done:=by
  rintro X rfl rfl rfl hc i pins s σ H E I hf ⟨⟨U,O⟩,h1⟩ ⟨xs,a0,hi⟩;obtain⟨a6,a7,p1,z1⟩:=I.list a0;have Y:=p1.isList;have l1:=a7.length;have ad:a≠it:=λe=>by
   obtain⟨o,e1,S,_⟩:=Y;obtain⟨o2,Z,c2,_⟩:=h1;rw [e,Z]at e1;cases e1;rw [c2]at S;exact absurd S ⋯
  have Dr:=Draws.list (prog:=X.prog) (w:=X.w) (A:=X.A.in1) (show X.A.in1.handled=none from I.ok.hd hc) it a ad a6.toArray;have en:a6.toArray.size=i:=by simp;omega
  rw [en]at Dr;refine wpAny_pyNext_enum_endD Dr O ⟨h1,Y⟩ λg hk=>⟨rfl,?_⟩;refine I.turnedL (t':=s.toks) (fp:=[z,it]) (λb' u hb e=>?_) hf;simp only [ziq,ziH,or_false,not_or]at hb;exact hk b' u hb.2 e
 self:=λ_ _ _ _ _ st h=>xu st.1.choose_spec h
def zhd(z:Str):It:=
 ⟨λi _=>i<z.cps.size,λi H x H'=>∃p c,x = .ref p/\H p=none/\H'=upd H p (.tup [.int i,.str ⟨#[c]⟩])/\z.cps[i]? = some c,λi _=>i=z.cps.size⟩
theorem Qe{prog:Program}{w:World}{A:Around}(z:A.handled=none)(it:Addr)(x:Str)(t:Tok) :
 Draws prog w A it [it] x.cps.size (λi v=>∃c u,x.cps[i]? = some c/\v = .str ⟨#[c]⟩ u) (λi h=>h.IsStrIter it (strIterType x) x t i):=by
 rcases zgC x with q | q
 ·rw [q];exact Draws.strAscii z it x t
 ·rw [q];exact Draws.strWide z it x t
theorem Kv{P:Program}{w:World}{K:PySem.W.Frag}{elts:List Expr}{x1:Nat}{tpos:Pos}{z it:Addr}(x:Str)(t:Tok)(U:z≠it) :
 Turn P w K (.Tuple elts x1 tpos) (zhd x) [z,it] z (λi h=>(∃S,IsEnum h z it i S)/\h.IsStrIter it (strIterType x) x t i) where
 mem:=by simp
 obj:=λi h ⟨⟨S,O⟩,h1⟩ y hy=>by
  simp only [ziq,ziH,or_false]at hy;rcases hy with rfl | rfl
  ·exact⟨_,O,λv q=>by cases q⟩
  ·obtain⟨o,e,c,d⟩:=h1
   exact⟨o,e,λv q=>by rw [d]at q;cases q⟩
 keep:=λi h h' ⟨⟨S,O⟩,h1⟩ k=>⟨⟨S,k z ⋯ _ O⟩,by obtain⟨o,e,r⟩:=h1;exact⟨o,k it ⋯ o e,r⟩⟩
 item:=by
  rintro X rfl rfl rfl Y i pins s σ H E I Z ⟨⟨S,O⟩,h1⟩ a8;have a9:it<s.heap.objs.size:=by obtain⟨o2,e2,_⟩:=h1;exact ziw e2
  have Dr:=Qe (prog:=X.prog) (w:=X.w) (A:=X.A.in1) (show X.A.in1.handled=none from I.ok.hd Y) it x t;refine wpAny_pyNext_enum_itemD Dr O h1 a8 U (by simp;exact U) λu g tk hP a1 a2 a3 a4 a5=>⟨_,rfl,?_⟩;obtain⟨c,tu,ag,rfl⟩:=hP;refine Kc (v:= .str ⟨#[c]⟩) I Z (ziw O) a9 a1 a3 a5 ⟨_,rfl⟩ λg2 b1 b2 I1 ai hn=>⟨.ref s.heap.objs.size,_,I1,rfl,⟨_,_,rfl,ai,rfl,ag⟩,⟨⟨_,b1⟩,?_⟩,hn⟩;obtain⟨o,e,r⟩:=a2;exact⟨o,b2.extBut _ _ U.symm e,r⟩
 done:=by
  rintro X rfl rfl rfl Y i pins s σ H E I Z ⟨⟨S,O⟩,h1⟩ hi;have hi:i=x.cps.size:=hi;subst hi;have Dr:=Qe (prog:=X.prog) (w:=X.w) (A:=X.A.in1) (show X.A.in1.handled=none from I.ok.hd Y) it x t;refine wpAny_pyNext_enum_endD Dr O h1 λg hk=>⟨rfl,?_⟩;refine I.turnedL (t':=s.toks) (fp:=[z,it]) (λb' u hb e=>?_) Z;simp only [ziq,ziH,or_false,not_or]at hb;exact hk b' u hb.2 e
 self:=λ_ _ _ _ _ st h=>xu st.1.choose_spec h
def zfa(K:PySem.W.Frag)(ta:TA):TI:=λσ H R=>ta σ H λvs H1=>∃a,vs=[.ref a]/\(∃xs,SqL K H1 a xs)/\R (zhe K a) H1
def ze9(ta:TA):TI:=λσ H R=>ta σ H λvs H1=>∃z,vs=[.str z]/\R (zhd z) H1
section
variable{X:Cx}{e1:Expr}{ta:TA}{p pos:Pos}{elts:List Expr}{x1:Nat}{tpos:Pos}
theorem zaw(U:Gl X "enumerate")(hm:X.mg "enumerate" = none)(ha:PA X [e1] ta)
 (Y:bootBuiltins "enumerate" = some (.type "enumerate")) (Z:starEach [e1] X.env=[(false,eval e1 X.env)]:=by rfl) :
 PI X (.Tuple elts x1 tpos) (.Call (.Name "enumerate" p) [e1] [] pos) (zfa X.K ta):=by
 intro pins s σ H R I h;refine Call_ (xt I U hm Y (zi7 (thn (ha pos pins s σ H _ I h) λus s1 hZ=>?_) (by rw [Z];rfl) rfl));obtain⟨vs,H1,z,r1,q1⟩:=hZ;obtain⟨a,rfl,⟨xs,a3⟩,q⟩:=q1;obtain⟨w1,rfl,a4⟩:=xR r1;cases a4;obtain⟨a7,a8,p1,z1⟩:=z.list a3;refine call_enumerate_list p1.isList λg b1 b2 b3 b4=>xu (s:={s1 with heap:=g}) b1 ?_;refine⟨_,[s1.heap.objs.size+1,s1.heap.objs.size],_,_,H1,rfl,z.kept (t':=s1.toks) b4,Kw (zjI (zjM _)),⟨⟨_,b1⟩,b2⟩,λc O=>?_,q⟩;have S:s1.heap.objs.size<=c:=by
  simp only [ziq,ziH,or_false]at O;rcases O with rfl | rfl
  ·exact ziL _ _
  ·exact zim _
 exact z.fpOk S (z.hok.fresh S)
theorem zav(Y:Gl X "enumerate")(hm:X.mg "enumerate" = none)(ha:PA X [e1] ta)
 (Z:bootBuiltins "enumerate" = some (.type "enumerate")) (hs:starEach [e1] X.env=[(false,eval e1 X.env)]:=by rfl) :
 PI X (.Tuple elts x1 tpos) (.Call (.Name "enumerate" p) [e1] [] pos) (ze9 ta):=by
 intro pins s σ H R I h;refine Call_ (xt I Y hm Z (zi7 (thn (ha pos pins s σ H _ I h) λus s1 hZ=>?_) (by rw [hs];rfl) rfl));obtain⟨vs,H1,O,r1,q1⟩:=hZ;obtain⟨z,rfl,q⟩:=q1;obtain⟨w1,rfl,a4⟩:=xR r1;obtain⟨t,rfl⟩:=a4;refine call_enumerate_str λg b1 b2 b3 b4=>xu (s:={s1 with heap:=g}) b1 ?_;refine⟨_,[s1.heap.objs.size+1,s1.heap.objs.size],_,_,H1,rfl,O.kept (t':=s1.toks) b4,Kv z t (zjI (zjM _)),⟨⟨_,b1⟩,b2⟩,λc S=>?_,q⟩;have U:s1.heap.objs.size<=c:=by
  simp only [ziq,ziH,or_false]at S;rcases S with rfl | rfl
  ·exact ziL _ _
  ·exact zim _
 exact O.fpOk U (O.hok.fresh U)
end
end L2
namespace DL
open PySem PySem.Spec PyProof.Rows L2
theorem JA(z:Str):(qM z).length=z.cps.size:=by simp [qM]
theorem W2(z:Str){i c:Nat}(h:z.cps[i]? = some c):(qM z)[i]? = some (.str ⟨#[c]⟩):=by simp [qM,h]
theorem Kr{K:PySem.W.Frag}{H0 Hs:Hp}(z:Str):Walk K H0 Hs (zhd z) (j4 (qM z)):=by
 have I:(j4 (qM z)).length=z.cps.size:=by simp [j4,JA]
 refine⟨λi H1 s hi=>?_,λH1 s=>?_,λi H1 x H1' s hi y=>?_⟩
 ·rw [I]at hi;exact hi
 ·rw [I];exact rfl
 ·obtain⟨p,c,rfl,O,rfl,S⟩:=y
  refine⟨.tup [.int i,.str ⟨#[c]⟩],?_,λG0 s1 s2=>⟨upd G0 p (.tup [.int i,.str ⟨#[c]⟩]),Ext.alloc s2 O _,?_⟩⟩
  ·rw [I]at hi
   unfold j4;rw [zja,zkZ (by rw [JA];exact hi),ziC,W2 z S];rfl
  ·exact qy (SqT.of zL) (Reps.cons (show V.int i = .int i from rfl) (Reps.cons (show V.str ⟨#[c]⟩ = .str ⟨#[c]⟩from rfl) Reps.nil))
theorem Ks{K:PySem.W.Frag}{H0 Hs:Hp}{a:Addr}{xs:List V}{ds:List D}(h:SqL K Hs a xs)(r:Reps K H0 ds xs):Walk K H0 Hs (zhe K a) (j4 ds):=by
 have S:=r.length;have U:(j4 ds).length=ds.length:=by simp [j4]
 refine⟨λi H1 s hi=>?_,λH1 s=>?_,λi H1 x H1' s hi y=>?_⟩
 ·exact⟨xs,s.seq h,by omega⟩
 ·exact⟨xs,s.seq h,by omega⟩
 ·obtain⟨p,u,rfl,z,rfl,I⟩:=y
  obtain⟨d,hd,O⟩:=r.getV (I xs (s.seq h));refine⟨.tup [.int i,d],?_,λG0 s1 s2=>⟨upd G0 p (.tup [.int i,u]),Ext.alloc s2 z _,?_⟩⟩
  ·unfold j4
   rw [zja,zkZ ⋯,ziC,hd];rfl
  ·exact qy (SqT.of zL) (Reps.cons (show V.int i = .int i from rfl) (Reps.cons ((O.mono s1).mono (jt (jm s2 z) _)) Reps.nil))
section
variable{X:Cx}{sc:Scope}{N L:List Str}{k:Nat}{a b e:Expr}{pos p p2:Pos}{f fa fb:CO D}
theorem zcC{elts:List Expr}{x1:Nat}{tpos:Pos}(h:SX X sc N L k)(c:kx sc "enumerate" = true)(z:X.mg "enumerate" = none)(ha:PV X a f)(O:starEach [a] X.env=[(false,eval a X.env)]:=by rfl) :
 PIF X (.Tuple elts x1 tpos) (.Call (.Name "enumerate" p) [a] [] pos) (JC f):=
 wH (zav (h.gl c).1 z (jr ha qg O) boot_enumerate O) λσ H R U=>by
  obtain⟨H0,γ,ds,rc,I,q⟩:=U;obtain⟨d,Y,I⟩:=bind_some I;cases d with
  | str z=>
   by_cases S:jF z=true
   ·have I:(if jF z=true then some (j4 (qM z))else none)=some ds:=I
    rw [if_pos S]at I;cases I;exact⟨H0,γ,_,rc,Y,λv H' H0' x r=>⟨z,by rw [show v = .str z from r],q _ H' H0' x (Kr z)⟩⟩
   ·have I:(if jF z=true then some (j4 (qM z))else none)=some ds:=I
    rw [if_neg S]at I;cases I
  | _=>cases I
theorem Va{elts:List Expr}{x1:Nat}{tpos:Pos}(h:SX X sc N L k)(c:kx sc "enumerate" = true)(z:X.mg "enumerate" = none)(ha:PV X a f)(O:starEach [a] X.env=[(false,eval a X.env)]:=by rfl) :
 PIF X (.Tuple elts x1 tpos) (.Call (.Name "enumerate" p) [a] [] pos) (w5 f):=
 wH (zaw (h.gl c).1 z (jr ha qg O) boot_enumerate O) λσ H R U=>by
  obtain⟨H0,γ,ds,rc,I,q⟩:=U;obtain⟨d,Y,I⟩:=bind_some I;cases d with
  | lst es=>
   cases I;refine⟨H0,γ,_,rc,Y,λv H' H0' x r=>?_⟩;obtain⟨Z,xs,rfl,S,g2⟩:=Vu r;exact⟨Z,rfl,⟨xs,x.sub.seq S⟩,q _ H' H0' x (Ks S g2)⟩
  | _=>cases I
end
end DL
namespace DL
open PySem L2 PyProof.Rows
open PySem.W (KasT kas_sort kas_asc kas_desc kas_tail3 kas_descPart kas_count kas_place kas_bin kas_rev)
def Good{α:Type}(n:Nat)(P:α->Prop):KasT α->Prop
 | .ret a=>P a
 | .ask i j k=>i<n/\j<n/\∀b,Good n P (k b)
theorem Good.mono{α:Type}{n:Nat}{P z:α->Prop}(h : ∀a,P a->z a) : ∀{t:KasT α},Good n P t->Good n z t
 | .ret a,g=>h a g
 | .ask i j k,g=>⟨g.1,g.2.1,λb=>(g.2.2 b).mono h⟩
theorem Good.bind{α β:Type}{n:Nat}{P:α->Prop}{z:β->Prop}{f:α->KasT β}(I : ∀a,P a->Good n z (f a)) : ∀{t:KasT α},Good n P t->Good n z (t.bind f)
 | .ret a,g=>I a g
 | .ask i j k,g=>⟨g.1,g.2.1,λb=>(g.2.2 b).bind I⟩
theorem Good.run{α:Type}{n:Nat}{P:α->Prop}{lt:Nat->Nat->Bool} : ∀{t:KasT α},Good n P t->P (qO lt t)
 | .ret a,g=>g
 | .ask i j k,g=>(g.2.2 _).run
def Pm(n:Nat)(p:Array Nat):Prop:=p.toList.Perm (zie n)
theorem Pm.lt{n:Nat}{p:Array Nat}(h:Pm n p)(hn:0<n)(i:Nat):p.getD i 0<n:=by
 by_cases hi:i<p.size
 ·have e:p.getD i 0=p[i]:=by simp [Array.getD,hi]
  rw [e];exact zig.mp (h.mem_iff.mp ⋯)
 ·have e:p.getD i 0=0:=by simp [Array.getD,hi]
  rw [e];exact hn
theorem Pm.rev{n:Nat}{p:Array Nat}(h:Pm n p)(i j:Nat):Pm n (kas_rev p i j):=(Array.perm_iff_toList_perm.mp (mirror_perm p i j _)).trans h
theorem Pm.bub{n:Nat}{p:Array Nat}(h:Pm n p)(i j:Nat):Pm n (bubble p i j):=(Array.perm_iff_toList_perm.mp (bubble_perm p i j)).trans h
theorem ZW{n:Nat}{p:Array Nat}(h:Pm n p)(hn:0<n) : ∀f m,Good n (λ_=>True) (kas_asc p f m)
 | 0,m=>trivial
 | f+1,m=>⟨h.lt hn _,h.lt hn _,λb=>by
  cases b with
  | true=>exact trivial
  | false=>exact ZW h hn f (m+1)⟩
theorem k9{n:Nat}(hn:0<n) : ∀f p m q,Pm n p->Good n (λr=>Pm n r.1) (kas_desc f p m q)
 | 0,p,m,q,h=>h
 | f+1,p,m,q,h=>⟨h.lt hn _,h.lt hn _,λb=>by
  cases b with
  | true=>
   show Good n _ (if q>0 then _ else _);split
   ·exact k9 hn f _ _ _ (h.rev _ _)
   ·exact k9 hn f _ _ _ h
  | false=>exact⟨h.lt hn _,h.lt hn _,λd=>by
   cases d with
   | true=>exact h
   | false=>exact k9 hn f _ _ _ h⟩⟩
theorem J7{n:Nat}(hn:0<n)(m r:Nat){p:Array Nat}(h:Pm n p):Good n (λr=>Pm n r.2) (kas_tail3 m r p):=by
 unfold kas_tail3;refine Good.bind (P:=λ_=>True) (λa _=>?_) (ZW (h.rev _ _) hn _ _);exact(show Pm n (kas_rev p 0 m)from h.rev _ _)
theorem J8{n:Nat}(hn:0<n)(m r:Nat){p:Array Nat}(h:Pm n p):Good n (λr=>Pm n r.2) (kas_descPart m r p):=
 (k9 hn _ _ _ _ h).bind λa ha=>by
   show Good n _ (if a.2.2>0 then _ else _);split
   ·exact J7 hn _ _ (Pm.rev ha _ _)
   ·exact J7 hn _ _ ha
theorem Yd{n:Nat}(hn:0<n)(r:Nat){p:Array Nat}(h:Pm n p):Good n (λr=>Pm n r.2) (kas_count r p):=
 (ZW h hn _ _).bind λm _=>by
   show Good n _ (if (m==r)=true then _ else if m>1 then _ else _);split
   ·exact h
   ·split
    ·exact⟨h.lt hn _,h.lt hn _,λc=>by
      cases c with
      | true=>exact h
      | false=>exact J8 hn _ _ (h.rev _ _)⟩
    ·exact J8 hn _ _ h
theorem yD{n:Nat}(hn:0<n){p:Array Nat}(h:Pm n p)(k:Nat) : ∀f l r,Good n (λ_=>True) (kas_place p k f l r)
 | 0,l,r=>trivial
 | f+1,l,r=>by
  show Good n _ (if l>=r then _ else _);split
  ·exact trivial
  ·exact⟨h.lt hn _,h.lt hn _,λc=>by
    cases c with
    | true=>exact yD hn h k f _ _
    | false=>exact yD hn h k f _ _⟩
theorem X8{n:Nat}(hn:0<n) : ∀f p k,Pm n p->Good n (Pm n) (kas_bin f p k)
 | 0,p,k,h=>h
 | f+1,p,k,h=>(yD hn h k k 0 k).bind λl _=>X8 hn f _ _ (h.bub _ _)
theorem we{n:Nat}(hn:0<n):Good n (Pm n) (kas_sort n):=
 (Yd hn n (show Pm n (zkj (zie n))from List.Perm.refl _)).bind λr z=>by
   show Good n _ (if r.1<n then _ else _);split
   ·exact X8 hn _ _ _ z
   ·exact z
theorem jA(ps:List (Int×Int)):(jO ps).Perm (zie ps.length):=by
 unfold jO;split
 ·exact List.Perm.refl _
 ·exact(we ⋯).run
theorem JQ : ∀{ds:List D} {ps:List (Int×Int)},yR ds=some ps->ps.length=ds.length
 | [],ps,h=>by cases h;rfl
 | d::ds,ps,h=>by
  unfold yR at h;cases e1:zaC d with
  | none=>rw [e1]at h;cases h
  | some x=>
   cases e2:yR ds with
   | none=>rw [e1,e2]at h;cases h
   | some l=>rw [e1,e2]at h;cases h;simp [JQ e2]
theorem z9{α:Type}(d:α) : ∀ds:List α,(zie ds.length).map (λi=>ds.getD i d)=ds:=λds=>by
 apply zkK;intro i;by_cases hi:i<ds.length
 ·simp [hi]
 ·simp [hi,Nat.not_lt.mp hi]
end DL
namespace DL
open PySem PySem.Spec PyProof.Rows L2
open PySem.W (KasT kas_sort kas_ask kat_run kat_snds kat_lt kat_cons kat_no kat_yes kat_nil kat_go kat_one kat_kind KatTups KatGo)
theorem Q9{α:Type}{n:Nat}{P:α->Prop}{lt:Nat->Nat->Bool}{z:Nat->Nat->(Bool->Shared->Prop)->Shared->Prop}{s:Shared}(I : ∀i j C,i<n->j<n->C (lt i j) s->z i j C s){Q:α->Shared->Prop} :
 ∀{t:KasT α},Good n P t->Q (qO lt t) s->t.kasWp z Q s
 | .ret _,_,q=>q
 | .ask i j k,g,q=>I i j _ g.1 g.2.1 (Q9 I (g.2.2 _) q)
def TupAt2(h:Heap)(v:Value)(k l:Int):Prop:=∃x o xs m t u,v = .ref x/\h.get? x=some o/\o.cls = .type "tuple"/\o.data = .seq xs m/\xs.toList=[.int k t,.int l u]
theorem TupAt2.keep{h h':Heap}{v:Value}{k l:Int}(a:TupAt2 h v k l)(e : ∀b o,h.get? b=some o->o.cls = .type "tuple"->h'.get? b=some o):TupAt2 h' v k l:=by
 obtain⟨x,o,xs,m,t,u,h1,h2,z,I,O⟩:=a;exact⟨x,o,xs,m,t,u,h1,e x o h2 z,z,I,O⟩
theorem TupAt2.one{h:Heap}{v:Value}{k l:Int}(a:TupAt2 h v k l):zfy h v k:=by
 obtain⟨x,o,xs,m,t,u,h1,h2,z,I,O⟩:=a;exact⟨x,o,xs,m,t,h1,h2,z,I,by rw [<- Array.getElem?_toList,O];rfl⟩
section
variable{prog:Program}{w:World}{A:Around}{E:Value->Shared->Prop}{s:Shared}
theorem vV{a:Addr}{vs:List Value}{ps:List (Int×Int)}{n:Nat}{P:PySem.Fin->Shared->Prop}(Y:s.heap.get? a=some (seqObj "list" vs.toArray n))(a6:ps.length=vs.length)(ae:vs.length<64)
 (hT : ∀i (hi:i<vs.length),TupAt2 s.heap vs[i] (ps.getD i (0,0)).1 (ps.getD i (0,0)).2)
 (h:P (.done (.ret .none)) {s with heap:=sortedHeap s.heap a vs (zkj ((jO ps).map λi=>vs.getD i ziV))}) :
 wpAny (model prog w) A (Builtin.«list.sort» ⟨[.ref a],[]⟩) P E s:=by
 rw [list_sort_plain];have ha:a<s.heap.objs.size:=ziw Y;have hz:vs.length<=sizeLine:=by rw [zkr];omega
 refine zid (listItems_at Y rfl ?_);refine zid (zkM Y rfl ?_ (by rw [zir];exact hz) (zjj _));obtain⟨e1,a8⟩ : ∃e1,(s.heap.update a (ziT λ_=>#[])).get? a=some (seqObj "list" #[] e1):=⟨_,zlJ Y (λ_=>#[])⟩;refine zid (zl4 a8 rfl ?_);refine zid (zln ?_ (by show vs.length<=_;exact hz));refine zid (zmb ?_ (zjj _));refine zjH ?_;have Z:(((s.heap.update a (ziT λ_=>#[])).push (seqObj "tuple" vs.toArray 0)).push (seqObj "list" #[] 0)).get? a=some (seqObj "list" #[] e1):=by
  rw [zko _ _ _ (by rw [zmf,zkb];exact ziI (zjb ha)),zko _ _ _ (by rw [zkb];exact ziI ha)];exact a8
 show wpAny (model prog w) A _ P E {s with heap:=((s.heap.update a (ziT λ_=>#[])).push (seqObj "tuple" vs.toArray 0)).push (seqObj "list" #[] 0)};dsimp only;have hsz:vs.toArray.size=vs.length:=by simp
 by_cases h2:vs.toArray.size<2
 ·rw [if_pos h2,if_pos h2]
  refine zid (zik ?_);rw [StateT.run_pure];refine zid (zik ?_);dsimp only;refine zid (zl4 Z rfl ?_);have e7:Array.map (λx=>x.snd) (arrOf (SortSt.mk' general' (vs.toArray.zip vs.toArray) #[] 7 none))=vs.toArray:=by
   show Array.map (λx=>x.snd) (vs.toArray.zip vs.toArray)=_;apply Array.ext';simp [Array.toList_map,Array.toList_zip];rw [List.map_snd_zip (zim _)]
  have ev:(jO ps).map (λi=>vs.getD i ziV)=vs:=by
   unfold jO;rw [if_pos ⋯,a6];exact z9 _ _
  rw [ev]at h;refine zid (zkM Z rfl ?_ (zjj _) (by rw [e7,hsz];exact zlh hz));simp only [bne_self_eq_false,zjR,if_false];have e8:({s with heap:=(((s.heap.update a (ziT λx=>#[])).push (seqObj "tuple" vs.toArray 0)).push (seqObj "list" #[] 0)).update a (ziT λx=>Array.map (λx=>x.snd) (arrOf (SortSt.mk' general' (vs.toArray.zip vs.toArray) #[] 7 none)))}:Shared) = {s with heap:=sortedHeap s.heap a vs vs.toArray}:=by
   rw [e7];rfl
  refine zik ?_;rw [<- e8]at h;exact h
 ·rw [if_neg h2,if_neg h2]
  have n2:2<=vs.length:=by rw [<- hsz];omega
  have keep : ∀b o,s.heap.get? b=some o->o.cls = .type "tuple"->(((s.heap.update a (ziT λ_=>#[])).push (seqObj "tuple" vs.toArray 0)).push (seqObj "list" #[] 0)).get? b=some o:=λb o e hc=>by
   have ak:b≠a:=λz=>by rw [z,Y]at e;cases e;exact absurd hc (by show ¬(zkm "list" = zkm "tuple");decide)
   exact zif _ (zif _ ((zlI _ _ _ _ ak).trans e))
  generalize hg:((s.heap.update a (ziT λ_=>#[])).push (seqObj "tuple" vs.toArray 0)).push (seqObj "list" #[] 0)=g at Z keep ⊢;have a7 : ∀i (hi:i<vs.length),TupAt2 g vs[i] (ps.getD i (0,0)).1 (ps.getD i (0,0)).2:=λi hi=>(hT i hi).keep keep;obtain⟨fs,f1,f2,f3⟩:=VG (ks:=λi=>(ps.getD i (0,0)).1) λi hi=>(a7 i hi).one;refine zid (kat_kind (T:=zkm "int") (s:={s with heap:=g}) f1 ⋯ (λv hv=>?_) ⋯ ?_)
  ·obtain⟨k,t,rfl⟩:=f3 v hv
   exact PySem.W.Looks.of_pure rfl
  have ep:(qO (λi j=>kG (ps.getD i (0,0)) (ps.getD j (0,0))) (kas_sort vs.length)).toList=jO ps:=by
   unfold jO;rw [if_neg ⋯,a6]
  refine zid (zjW (kat_run (E:=E) (ks:=vs) (Q:=λa5 s'=>∃p:Array Nat,arrOf a5=p.map (PySem.W.kas_item (vs.toArray.zip vs.toArray))/\failedOf a5=none/\p.toList=jO ps/\s' = {s with heap:=g})
   (G:=λp s'=>p.toList=jO ps/\s' = {s with heap:=g})
   rfl n2 ae (λp a5 s' a1 a2 a3 a4=>⟨p,a2,a3,a4.1,a4.2⟩) (Q9 (lt:=λi j=>kG (ps.getD i (0,0)) (ps.getD j (0,0))) (λi j C hi hj I=>?_) (we ⋯) ⟨ep,rfl⟩)) ?_ λ_ _ e=>e)
  ·show wpAny _ _ (keyLt' _ (vs.getD i ziV) (vs.getD j ziV)) C _ _
   rw [show vs.getD i ziV=vs[i]by simp [hi],show vs.getD j ziV=vs[j]by simp [hj]];obtain⟨x,ox,xs,m,t,u,e1,e2,e3,e4,e5⟩:=a7 i hi;obtain⟨y,oy,ys,m',t',u',d1,d2,d3,d4,d5⟩:=a7 j hj;rw [e1,d1];refine kat_lt e2 e4 d2 d4 ?_;have az:xs.size=2:=by rw [<- zjA,e5];rfl
   have b0:ys.size=2:=by rw [<- zjA,d5];rfl
   rw [e5,d5,az,b0,zkf,zkf];unfold kG at I;generalize ps.getD i (0,0)=S at I ⊢;generalize ps.getD j (0,0)=U at I ⊢;refine kat_cons (zks S.1 t U.1 t' _ _ _ _ ?_);refine kat_go (λO=>?_) λO=>?_
   ·have O:S.1=U.1:=by simpa using O
    rw [if_pos O]at I;refine kat_yes (kat_cons (zks S.2 u U.2 u' _ _ _ _ (kat_go (λhd=>?_) λhd=>?_)))
    ·have hd:S.2=U.2:=by simpa using hd
     refine kat_yes (kat_nil ?_);rw [show decide (S.2<U.2)=false by rw [hd];simp]at I;exact I
    ·exact kat_no (kat_one _ _ (lt_int I))
   ·have O:S.1≠U.1:=by simpa using O
    rw [if_neg O]at I;exact kat_no (oneLt_int I)
  rintro⟨⟨⟩,a5⟩ s' ⟨p,b5,hf,hp,rfl⟩;dsimp only;have b8:=kat_snds rfl b5;have b9:((jO ps).map λi=>vs.getD i ziV).length=vs.length:=by
   rw [ziD,(jA ps).length_eq,zjm,a6]
  rw [b8,hp];refine zid (zl4 Z rfl ?_);refine zid (zkM Z rfl ?_ (zjj _) (by rw [zir];show((jO ps).map λi=>vs.getD i ziV).length<=_;rw [b9];exact zlh hz));rw [hf];simp only [bne_self_eq_false,zjR,if_false];subst hg;exact zik h
theorem Jy{l:Addr}{vs:List Value}{ps:List (Int×Int)}{Q:Value->Shared->Prop}(S:s.heap.IsList l vs.toArray)(U:ps.length=vs.length)(Y:vs.length<64)
 (Z : ∀i (hi:i<vs.length),TupAt2 s.heap vs[i] (ps.getD i (0,0)).1 (ps.getD i (0,0)).2)
 (h:Q (.ref (s.heap.objs.size+1)) {s with heap:=sortedAll s.heap vs (zkj ((jO ps).map λi=>vs.getD i ziV))}) :
 wpAny (model prog w) A (call (.builtin "sorted") [.ref l]) Q E s:=by
 have I:vs.length<=sizeLine:=by rw [zkr];omega
 refine Calls.call_function_entry kind_sorted plain_sorted entry_sorted (args_sorted1 _) ?_;unfold Builtin.«sorted»;refine zid (m:=checkCount "sorted" 1 1 _) (zik ?_);refine zid (collect_list S ?_ I);refine zid (zmb ?_ I);have hsz:((s.heap.push (seqObj "list" #[] 0)).update s.heap.objs.size (ziT (· ++ vs.toArray))).objs.size=s.heap.objs.size+1:=by
  rw [zkb,zmf]
 have O:(((s.heap.push (seqObj "list" #[] 0)).update s.heap.objs.size (ziT (· ++ vs.toArray))).push (seqObj "list" vs.toArray 0)).get? (s.heap.objs.size+1)=some (seqObj "list" vs.toArray 0):=by
  rw [<- hsz];exact zix _ rfl
 have keep : ∀b o,s.heap.get? b=some o->(((s.heap.push (seqObj "list" #[] 0)).update s.heap.objs.size (ziT (· ++ vs.toArray))).push (seqObj "list" vs.toArray 0)).get? b=some o:=λb o q=>by
  have z:b<s.heap.objs.size:=ziw q;rw [zko _ _ _ (by rw [hsz];exact ziI (zjb z)),zlI _ _ _ _ (ziI z),zko _ _ _ (ziI z)];exact q
 show wpAny _ _ _ _ _ {s with heap:=((s.heap.push (seqObj "list" #[] 0)).update s.heap.objs.size (ziT (· ++ vs.toArray))).push (seqObj "list" vs.toArray 0)};rw [hsz];refine zid (zjH (zjC slot_list_sort ⟨_,O,rfl⟩ entry_list_sort (vV (s:={s with heap:=((s.heap.push (seqObj "list" #[] 0)).update s.heap.objs.size (ziT (· ++ vs.toArray))).push (seqObj "list" vs.toArray 0)}) O U Y (λi hi=>(Z i hi).keep λb o e _=>keep b o e) ⟨_,rfl,?_⟩) (args_list_sort _)));exact zik ⟨_,rfl,h⟩
end
section
variable{X:Cx}
def zd6(K:PySem.W.Frag):List V->Hp->VK->Prop:=λxs H Q=>∃l ys ps,xs=[.ref l]/\SqL K H l ys/\ps.length=ys.length/\ys.length<64/\
 (∀i (hi:i<ys.length),∃a,ys[i]=V.ref a/\SqT K H a [.int ((ps:List (Int×Int)).getD i (0,0)).1,.int (ps.getD i (0,0)).2])/\∀p,H p=none->Q (.ref p) (upd H p (.lst ((jO ps).map λi=>ys.getD i .non)))
theorem Qg:vb X (.builtin "sorted") (zd6 X.K):=by
 intro pins s σ H vs us Q I rv h;obtain⟨l,ys,ps,rfl,hq,a1,aj,hT,a7⟩:=h;obtain⟨u,rfl,ru⟩:=xR rv;cases ru;obtain⟨z,r,pl,hz⟩:=I.list hq;have ak:=r.length;refine Jy (ps:=ps) pl.isList ⋯ ⋯ (λi hi=>?_) ?_
 ·obtain⟨a,e1,e2⟩:=hT i ⋯
  obtain⟨v,O,g2⟩:=r.get (i:=i) (x:=V.ref a) (by rw [zih ⋯,e1]);have hv:z[i]=v:=by rw [zih hi]at O;exact zji O
  rw [hv];cases g2;obtain⟨ad,r2,⟨o,ho,hc,n,hd⟩,_⟩:=I.tuple e2;obtain⟨S,U,rfl,Y,Z⟩ : ∃S U,ad=S::U/\RelV (.int (ps.getD i (0,0)).1) S/\Vals [.int (ps.getD i (0,0)).2] U:=by
   cases r2 with
   | cons Y Z=>exact⟨_,_,rfl,Y,Z⟩
  obtain⟨v2,rfl,q3⟩:=xR Z;obtain⟨t,rfl⟩:=Y;obtain⟨u,rfl⟩:=q3;exact⟨a,o,_,n,t,u,rfl,ho,hc,hd,rfl⟩
 ·obtain⟨e,he⟩:=sortedAll_at s.heap z (zkj ((jO ps).map λi=>z.getD i ziV))
  have a3:((jO ps).map λi=>ys.getD i V.non).length=ys.length:=by rw [ziD,(jA ps).length_eq,zjm,a1]
  refine⟨.ref (s.heap.objs.size+1),_,I.laid (t':=s.toks) (o:= .lst ((jO ps).map λi=>ys.getD i .non)) (λb o q=>sortedAll_old q) (zk1 _) ?_,rfl,a7 _ (I.hok.fresh (zk1 _))⟩;refine⟨by rw [a3];exact hz,(jO ps).map λi=>z.getD i ziV,e,?_,he⟩;have a0 : ∀i∈jO ps,i<ys.length:=λi hi=>by
   have:=(jA ps).mem_iff.mp hi;rw [a1]at this;exact zig.mp this
  generalize jO ps=o at a0;clear a3 he
  induction o with
  | nil=>exact .nil
  | cons i o ih=>
   have hi:=a0 i ziv;refine .cons ?_ (ih λj hj=>a0 j (ziu _ hj));obtain⟨v,O,g2⟩:=r.get (i:=i) (x:=ys[i]) (zih hi);show RelV (ys.getD i V.non) (z.getD i ziV);rw [zil,zil,zih hi,O];exact g2
theorem XU : ∀{ds:List D} {ps:List (Int×Int)},yR ds=some ps->∀(i:Nat) d,ds[i]? = some d->d = .tup [.int (ps.getD i (0,0)).1,.int (ps.getD i (0,0)).2]
 | [],ps,h,i,d,hd=>by simp at hd
 | c::ds,ps,h,i,d,hd=>by
  obtain⟨k,e1,h⟩:=bind_some h;obtain⟨l,z,h⟩:=zy h;subst h;cases i with
  | zero=>
   simp at hd;subst hd;unfold zaC at e1;split at e1
   ·cases e1;rfl
   ·cases e1
  | succ i=>simpa using XU z i d (by simpa using hd)
theorem vL{K:PySem.W.Frag}{H:Hp}{ds:List D}{xs:List V}(r:Reps K H ds xs) : ∀(o:List Nat),(∀i∈o,i<xs.length)->Reps K H (o.map λi=>ds.getD i .non) (o.map λi=>xs.getD i .non)
 | [],_=>Reps.nil
 | i::o,h=>by
  have hi:=h i ziv;obtain⟨d,hd,z⟩:=r.getV (zih hi);refine Reps.cons ?_ (vL r o λj I=>h j (ziu _ I));show Rep K H (ds.getD i .non) (xs.getD i .non);rw [zil,zil,zih hi,hd];exact z
theorem zar{sc:Scope}{N L:List Str}{k:Nat}{e:Expr}{pos p:Pos}{fq:CO (Sk×List D)}(h:SX X sc N L k)(c:kx sc "sorted" = true)(z:X.mg "sorted" = none)(hq:PQ X e fq)(S:starEach [e] X.env=[(false,eval e X.env)]:=by rfl) :
 PO X (.Call (.Name "sorted" p) [e] [] pos) (w4 fq):=
 j3 (xG Qg (h.gl c).1 z ⋯ (jr hq qg S) ⋯ ⋯ S rfl) λσ H Q hZ=>by
  obtain⟨H0,γ,ds,rc,I,q⟩:=hZ;obtain⟨⟨kk,es⟩,e1,I⟩:=bind_some I;cases kk with
  | T=>cases I
  | L=>
   have I:KC es=some ds:=I;unfold KC at I;obtain⟨ps,U,I⟩:=bind_some I;by_cases Y:es.length<64
   ·rw [if_pos Y]at I
    cases I;have ac:=JQ U;refine⟨H0,γ,.L,es,rc,e1,λa xs H' H0' ext h1 h2 r=>?_⟩;have ad:=r.length;refine⟨a,xs,ps,rfl,h1,by omega,by omega,λi hi=>?_,λl O=>?_⟩
    ·obtain⟨d,hd,rd⟩:=r.getV (zih hi)
     have ed:=XU U i d hd;subst ed;obtain⟨b,zs,eb,Z,h4⟩:=xA rd;refine⟨b,eb,?_⟩;obtain⟨y,yr,e5,h5,h6⟩:=h4.inv_cons;obtain⟨y2,ag,e6,h7,h8⟩:=h6.inv_cons;rw [h8.inv_nil]at e6;rw [e5,e6,ji h5,ji h7]at Z;exact sameT ext.sub Z
    ·refine q l _ _ H0' (ext.trans (Ext.hide ext.sub O _)) (xq ext.s1 O) (jm ext.sub O) zL ?_
     refine vL r _ λi hi=>?_;have:=(jA ps).mem_iff.mp hi;have:=zig.mp this;omega
   ·rw [if_neg Y]at I;cases I
end
section
variable{X:Cx}{a b c:Expr}{pos:Pos}{fa fb fc:CO D}
theorem Y2{S U:CmpOp}{r r':R2}{F G:D->D->Option D}(ho:OpR X (compareOp S) r)(a5:OpR X (compareOp U) r')(s1:Snd X.K r F)(s2:Snd X.K r' G)(ha:PV X a fa)(hb:PV X b fb)(hc:PV X c fc)
 (hm:lastMarks [S,U] [b,c]=false:=by with_unfolding_all rfl):PTD X (.Compare a [S,U] [b,c] pos) (sB (xP F G fa fb fc)):=
 JK (zaj ho a5 ha hb hc hm) λσ H Q hZ=>by
  obtain⟨H0,γ,kq,rc,aa,q0⟩:=hZ;obtain⟨d,I,e9⟩:=bind_some aa;have q : ∀v H' H0',Ext H0 H H0' H'->Rep X.K H0' d v->∃k,v = .bl k/\Q k H':=λv H' H0' x Z=>by
   rw [xN e9]at Z;exact⟨kq,Z,q0 H' H0' x⟩
  obtain⟨x,e1,I⟩:=bind_some I;obtain⟨y,e2,I⟩:=bind_some I;obtain⟨k,e3,I⟩:=bind_some I;obtain⟨bb,e4,e5⟩:=bind_some e3;refine⟨H0,γ,x,rc,e1,λv1 H1 ah x1 r1=>⟨ah,γ,y,rc.ext x1,e2,λv2 H2 aj O r2=>s1 aj H2 v1 v2 x y bb _ O.sub (r1.mono O.s0) r2 e4 λv3 H3 a3 x3 r3=>?_⟩⟩;cases bb with
  | bl k'=>
   cases e5;refine⟨k,show v3 = .bl k from r3,?_⟩;cases k with
   | true=>
    rw [if_pos rfl];rw [if_pos rfl]at I;obtain⟨z,e6,e7⟩:=bind_some I;exact⟨a3,γ,z,((rc.ext x1).ext O).ext x3,e6,λv4 H4 ar Y r4=>s2 ar H4 v2 v4 y z d _ Y.sub ((r2.mono x3.s0).mono Y.s0) r4 e7 λv5 H5 aw x5 r5=>q v5 H5 aw (((x1.trans O).trans x3).trans (Y.trans x5)) r5⟩
   | false=>
    rw [if_neg ⋯];rw [if_neg ⋯]at I;cases I;exact q _ H3 a3 ((x1.trans O).trans x3) rfl
  | _=>cases e5
end
end DL
namespace DL
open PySem PySem.Spec PyProof.Rows L2
theorem Yw{H:Hp}{x:Addr}{o o':HO}:upd (upd H x o) x o'=upd H x o':=by
 funext b;by_cases h:b=x
 ·subst h;rw [zL,zL]
 ·rw [zG h,zG h,zG h]
theorem Zj : ∀{ds:List D} {ns:List Int},Q8 ds=some ns->J0 ds=some (ns.map zjU)
 | [],ns,e=>by cases e;rfl
 | d::ds,ns,e=>by
  cases d with
  | int i=>
   obtain⟨l,e1,z⟩:=zy e;subst z;show((ze1 (.int i)).bind λk=>(J0 ds).map λr=>k::r)=_;rw [Zj e1];rfl
  | _=>cases e
theorem w9 : ∀(ps acc:List (Key×V)),((acc++ps).map (·.1)).Nodup->zag acc ps=acc++ps
 | [],acc,_=>by simp [zag]
 | (k,v)::ps,acc,h=>by
  have hn : ¬((acc.any λz=>decide (z.1=k))=true):=λq=>by
   obtain⟨z,h1,h2⟩:=zl9.mp q;rw [zjf,ziK]at h;have:=(List.nodup_append.mp h).2.2 z.1 (ziB.mpr ⟨z,h1,rfl⟩) k ⋯;exact this (of_decide_eq_true h2)
  show zag (Yp acc k v) ps=_;rw [show Yp acc k v=acc++[(k,v)]by unfold Yp;rw [if_neg hn]];rw [w9 ps (acc++[(k,v)]) (by simpa using h)];simp
theorem JU : ∀{ns:List Int},ns.Nodup->(ns.map (zjU (β:=Str))).Nodup
 | [],_=>by simp
 | n::ns,h=>by
  simp only [ziK,zjc,ziB,zjU.injEq,exists_eq_right]at h ⊢;exact⟨h.1,JU h.2⟩
theorem ZX{K:PySem.W.Frag}{H:Hp}{i:Int} : ∀{ks vs:List D} {kk:List Key} {xs:List V},J0 ks=some kk->kk.length=xs.length->Reps K H vs xs->
 (∀d,Ka ks vs i=some d->∃v,Xv (kk.zip xs) (zjU i)=some v/\Rep K H d v)/\(Ka ks vs i=none->Xv (kk.zip xs) (zjU i)=none)
 | [],vs,kk,xs,e,l,r=>by
  cases e;exact⟨(λd q=>by cases q),λ_=>rfl⟩
 | k::ks,[],kk,xs,e,l,r=>by
  rw [r.inv_nil]at l ⊢;rw [List.length_eq_zero_iff.mp l];exact⟨(λd q=>by cases q),λ_=>rfl⟩
 | k::ks,v::vs,kk,xs,e,l,r=>by
  obtain⟨I,e1,Y⟩:=bind_some e;obtain⟨O,Z,e4⟩:=zy Y;subst e4;obtain⟨x,S,rfl,h1,h2⟩:=r.inv_cons;have U:=ZX (i:=i) Z (by simpa using l) h2;have step:I≠zjU i->Xv ((I::O).zip (x::S)) (zjU i)=Xv (O.zip S) (zjU i):=λhn=>by
   rw [zkf];simp [Xv,zj5,hn]
  cases k with
  | int j=>
   cases e1;by_cases z:j=i
   ·subst z
    refine⟨λd q=>⟨x,?_,?_⟩,λq=>?_⟩
    ·rw [zkf];exact Zx rfl
    ·have:v=d:=by simpa [Ka]using q
     exact this ▸ h1
    ·simp [Ka]at q
   ·have hn:(zjU j:Key)≠zjU i:=λq=>z (zjU.inj q)
    rw [step hn];have e5:Ka (.int j::ks) (v::vs) i=Ka ks vs i:=by simp [Ka,z]
    rw [e5];exact U
  | str y=>
   cases e1;rw [step (λq=>by cases q)];exact U
  | _=>cases e1
def yo(F G J:D->D->Option D)(fa fb fc fd:CO D):CO D:=λγ=>(fa γ).bind λx=>(fb γ).bind λy=>((F x y).bind asB).bind λb=>if b=true then (fc γ).bind λz=>((G y z).bind asB).bind λI=>if I=true then (fd γ).bind λw=>J z w else some (.bl false)else some (.bl false)
@[simp] theorem Ww(F G J a b c d):yo F G J a b c d γ=(a γ).bind λx=>(b γ).bind λy=>((F x y).bind asB).bind λk=>if k=true then (c γ).bind λz=>((G y z).bind asB).bind λI=>if I=true then (d γ).bind λw=>J z w else some (.bl false)else some (.bl false):=rfl
def zb5(r r' U:R2)(ta tb tc td:TE):TE:=λσ H Q=>ta σ H λx H1=>tb σ H1 λy H2=>r x y H2 λz I=>∃k,z = .bl k/\
 (if k=true then tc σ I λw' Y=>r' y w' Y λZ O=>∃S,Z = .bl S/\(if S=true then td σ O λw2 H6=>U w' w2 H6 Q else Q (.bl false) O)else Q (.bl false) I)
section
variable{X:Cx}{a b c d:Expr}{ta tb tc td:TE}{pos:Pos}
theorem Y4{O S U:CmpOp}{r r' a0:R2}(ho:OpR X (compareOp O) r)(aa:OpR X (compareOp S) r')(ab:OpR X (compareOp U) a0)(ha:PE X a ta)(hb:PE X b tb)(hc:PE X c tc)(hd:PE X d td)
 (hm:lastMarks [O,S,U] [b,c,d]=false:=by with_unfolding_all rfl):PT X (.Compare a [O,S,U] [b,c,d] pos) (zb3 (zb5 r r' a0 ta tb tc td)):=by
 intro pins s σ H Q I h;refine isTrue_chain (thn (ha pins s σ H _ I h) λv s1 h1=>?_) hm;obtain⟨x,H1,I1,r1,q1⟩:=h1;refine test_link (thn (hb pins s1 σ H1 _ I1 q1) λu s2 h2=>?_);obtain⟨y,H2,I2,r2,q2⟩:=h2;refine thn (ho pins s2 σ H2 x y v u _ I2 r1 r2 q2) λdd s3 h3=>?_;obtain⟨z,H3,I3,r3,k,e,q3⟩:=h3;subst e;cases r3;refine zjp ?_;cases k with
 | false=>
  obtain⟨k',Y,Z⟩:=q3;cases Y;exact ite_ff ⟨H3,I3,Z⟩
 | true=>
  refine ite_tt (test_link (thn (hc pins s3 σ H3 _ I3 q3) λw' s4 h4=>?_));obtain⟨z',H4,I4,r4,q4⟩:=h4;refine thn (aa pins s4 σ H4 y z' u w' _ I4 r2 r4 q4) λd' s5 h5=>?_;obtain⟨z2,H5,I5,r5,k2,e2,q5⟩:=h5;subst e2;cases r5;refine zjp ?_;cases k2 with
  | false=>
   obtain⟨k',Y,Z⟩:=q5;cases Y;exact ite_ff ⟨H5,I5,Z⟩
  | true=>
   refine ite_tt (test_last (thn (hd pins s5 σ H5 _ I5 q5) λw3 s6 h6=>?_));obtain⟨z3,H6,I6,r6,q6⟩:=h6;refine thn (ab pins s6 σ H6 z' z3 w' w3 _ I6 r4 r6 q6) λd3 s7 h7=>?_;obtain⟨z4,H7,I7,r7,k4,e4,q7⟩:=h7;subst e4;cases r7;exact zjp ⟨H7,I7,q7⟩
end
section
variable{X:Cx}{a b c d:Expr}{pos:Pos}{fa fb fc fd:CO D}
theorem KR{S U Y:CmpOp}{r r' a3:R2}{F G J:D->D->Option D}(ho:OpR X (compareOp S) r)(af:OpR X (compareOp U) r')(ag:OpR X (compareOp Y) a3)(s1:Snd X.K r F)(s2:Snd X.K r' G)(s3:Snd X.K a3 J)(ha:PV X a fa)(hb:PV X b fb)(hc:PV X c fc)(hd:PV X d fd)
 (hm:lastMarks [S,U,Y] [b,c,d]=false:=by with_unfolding_all rfl):PTD X (.Compare a [S,U,Y] [b,c,d] pos) (sB (yo F G J fa fb fc fd)):=
 JK (Y4 ho af ag ha hb hc hd hm) λσ H Q hZ=>by
  obtain⟨H0,γ,kq,rc,am,q0⟩:=hZ;obtain⟨dr,I,e9⟩:=bind_some am;have q : ∀v H' H0',Ext H0 H H0' H'->Rep X.K H0' dr v->∃k,v = .bl k/\Q k H':=λv H' H0' x rr=>by
   rw [xN e9]at rr;exact⟨kq,rr,q0 H' H0' x⟩
  obtain⟨x,e1,I⟩:=bind_some I;obtain⟨y,e2,I⟩:=bind_some I;obtain⟨k,e3,I⟩:=bind_some I;obtain⟨bb,e4,e5⟩:=bind_some e3;refine⟨H0,γ,x,rc,e1,λv1 H1 aw x1 r1=>⟨aw,γ,y,rc.ext x1,e2,λv2 H2 ay O r2=>s1 ay H2 v1 v2 x y bb _ O.sub (r1.mono O.s0) r2 e4 λv3 H3 a7 x3 r3=>?_⟩⟩;rw [xN e5]at r3;refine⟨k,show v3 = .bl k from r3,?_⟩;cases k with
  | false=>
   rw [if_neg ⋯];rw [if_neg ⋯]at I;cases I;exact q _ H3 a7 ((x1.trans O).trans x3) rfl
  | true=>
   rw [if_pos rfl];rw [if_pos rfl]at I;obtain⟨z,e6,I⟩:=bind_some I;obtain⟨Z,e7,I⟩:=bind_some I;obtain⟨b2,e8,b8⟩:=bind_some e7;refine⟨a7,γ,z,((rc.ext x1).ext O).ext x3,e6,λv4 H4 ba x4 r4=>s2 ba H4 v2 v4 y z b2 _ x4.sub ((r2.mono x3.s0).mono x4.s0) r4 e8 λv5 H5 ab x5 r5=>?_⟩;rw [xN b8]at r5;refine⟨Z,show v5 = .bl Z from r5,?_⟩;have E5:=((x1.trans O).trans x3).trans (x4.trans x5);cases Z with
   | false=>
    rw [if_neg ⋯];rw [if_neg ⋯]at I;cases I;exact q _ H5 ab E5 rfl
   | true=>
    rw [if_pos rfl];rw [if_pos rfl]at I;obtain⟨w,be,bf⟩:=bind_some I;exact⟨ab,γ,w,rc.ext E5,be,λv6 H6 bi x6 r6=>s3 bi H6 v4 v6 z w dr _ x6.sub ((r4.mono x5.s0).mono x6.s0) r6 bf λv7 H7 bo x7 r7=>q v7 H7 bo (E5.trans (x6.trans x7)) r7⟩
end
end DL
namespace L2
open PySem PySem.Spec PyProof.Rows
theorem Zy(a b c:Value):checkTypeCall "zip" ⟨[a,b,c],[]⟩=pure ():=by kernel_rfl
theorem JY(a b c:Value):checkBuiltinCall "zip.__new__" ⟨[.type "zip",a,b,c],[]⟩=pure ():=by kernel_rfl
abbrev qZ(h:Heap)(T:Addr)(a b c:Value):Prop:=h.get? T=some {cls:= .type "tuple",data:= .seq #[a,b,c]}
structure Zip3A(z TI TO i1 i2 i3 l1 l2 l3:Addr):Prop where
 TIz:TI≠z
 TOz:TO≠z
 i1z:i1≠z
 i2z:i2≠z
 i3z:i3≠z
 TITO:TI≠TO
 TIi1:TI≠i1
 TIi2:TI≠i2
 TIi3:TI≠i3
 TOi1:TO≠i1
 TOi2:TO≠i2
 TOi3:TO≠i3
 i12:i1≠i2
 i13:i1≠i3
 i23:i2≠i3
 l1z:l1≠z
 l2z:l2≠z
 l2TO:l2≠TO
 l2i1:l2≠i1
 l3z:l3≠z
 l3TO:l3≠TO
 l3i1:l3≠i1
 l3i2:l3≠i2
section
variable{prog:Program}{w:World}{A:Around}{E:Value->Shared->Prop}{s:Shared}
theorem Jo{T:Addr}{a b c x:Value}{k:Nat}{Q:Unit->Shared->Prop}(z:qZ s.heap T a b c)
 (h : ∀h',h'.get? T=some {cls:= .type "tuple",data:= .seq ((#[a,b,c]:Array Value).setIfInBounds k x)}->zkl T s.heap h'->Q () {s with heap:=h'}) :
 wpAny (model prog w) A (updateSeq T (·.setIfInBounds k x)) Q E s:=by
 have q:=zkP (ziT λ(t:Array Value)=>t.setIfInBounds k x) z rfl;exact wpAny_updateSeq z rfl (h _ (by rw [q];simp [ziT]) (zll ..))
theorem Yr{k1 k2 k3:Sk}{z TI TO i1 i2 i3 l1 l2 l3:Addr}{n1 n2 n3:Nat}{xs ys zs:Array Value}{x y v a b c:Value}{Q:Value->Shared->Prop}(D:Zip3A z TI TO i1 i2 i3 l1 l2 l3)
 (U:IsZip s.heap z TI TO .none) (az:qZ s.heap TI (.ref i1) (.ref i2) (.ref i3)) (b0:qZ s.heap TO a b c)
 (h1:ItAt k1 s.heap i1 l1 n1) (h2:ItAt k2 s.heap i2 l2 n2) (h3:ItAt k3 s.heap i3 l3 n3) (b6:SqAt k1 s.heap l1 xs) (b7:SqAt k2 s.heap l2 ys) (b8:SqAt k3 s.heap l3 zs) (hx:xs[n1]? = some x) (hy:ys[n2]? = some y) (hv:zs[n3]? = some v)
 (hQ : ∀h',IsZip h' z TI TO (rawInt s.heap.objs.size)->qZ h' TO x y v->ItAt k1 h' i1 l1 (n1+1)->ItAt k2 h' i2 l2 (n2+1)->ItAt k3 h' i3 l3 (n3+1)->qZ h' s.heap.objs.size x y v->h'.objs.size=s.heap.objs.size+1->
   (∀c o,c≠z->c≠TO->c≠i1->c≠i2->c≠i3->s.heap.get? c=some o->h'.get? c=some o)->Q (.ref s.heap.objs.size) {s with heap:=h'}) :
 wpAny (model prog w) A (Builtin.«zip.__next__» ⟨[.ref z],[]⟩) (λbc s'=>∃v,bc = .done (.ret v)/\Q v s') E s:=by
 refine zid (m:=field (.ref z) 2) (ziX U rfl (x:= .bool false) rfl ?_);refine zid (m:=field (.ref z) 3) (ziX U rfl (x:= .ref TI) rfl ?_);refine zid (zjk az rfl ?_);refine zid (m:=ziJ (.ref z)) ?_;unfold ziJ;refine zid (ziX U rfl (x:= .none) rfl (zik ?_));simp only [if_true];refine zid (zkG (zid (ziX U rfl (x:= .ref TO) rfl ?_)));refine zid (zi4 U ⋯ λg1 ae Y=>?_);replace ae:IsZip g1 z TI TO .ellipsis:=ae;refine zid ?_;simp only [zlo,zlt,zk0,zk9];refine zid (zid (zj1 ?_));refine zid (m:=ziz (.ref i1)) (qm (h1.at λo e=>Y.extBut _ _ D.i1z e) (b6.at λo e=>Y.extBut _ _ D.l1z e) hx λg2 be a9=>zik ?_);have ar:qZ g2 TO a b c:=a9.extBut _ _ D.TOi1 (Y.extBut _ _ D.TOz b0);refine zid (zjk ar rfl (zid (Jo ar λg3 ag aa=>?_)));replace ag:qZ g3 TO x b c:=ag;have Z : ∀c o,c≠z->c≠i1->c≠TO->s.heap.get? c=some o->g3.get? c=some o:=λc o O S c3 e=>aa.extBut _ _ c3 (a9.extBut _ _ S (Y.extBut _ _ O e));refine zid (zkq (zik (zid (zid (zj1 ?_)))));refine zid (m:=ziz (.ref i2)) (qm (h2.at λo e=>Z _ o D.i2z D.i12.symm D.TOi2.symm e) (b7.at λo e=>Z _ o D.l2z D.l2i1 D.l2TO e) hy λg4 bg ah=>zik ?_);have as:qZ g4 TO x b c:=ah.extBut _ _ D.TOi2 ag;refine zid (zjk as rfl (zid (Jo as λg5 aj ak=>?_)));replace aj:qZ g5 TO x y c:=aj;have a1 : ∀c o,c≠i2->c≠TO->g3.get? c=some o->g5.get? c=some o:=λc o O S e=>ak.extBut _ _ S (ah.extBut _ _ O e);refine zid (zkq (zik (zid (zid (zj1 ?_)))));refine zid (m:=ziz (.ref i3)) (qm (h3.at λo e=>a1 _ o D.i23.symm D.TOi3.symm (Z _ o D.i3z D.i13.symm D.TOi3.symm e)) (b8.at λo e=>a1 _ o D.l3i2 D.l3TO (Z _ o D.l3z D.l3i1 D.l3TO e)) hv λg6 bh al=>zik ?_);have au:qZ g6 TO x y c:=al.extBut _ _ D.TOi3 aj;refine zid (zjk au rfl (zid (Jo au λI ab am=>?_)));replace ab:qZ I TO x y v:=ab;have ac : ∀c o,c≠i3->c≠TO->g5.get? c=some o->I.get? c=some o:=λc o O S e=>am.extBut _ _ S (al.extBut _ _ O e);refine zid (zkq (zik (zik (zid (zjk ab rfl (zid (zln ?_)))))));have hsz:I.objs.size=s.heap.objs.size:=by rw [am.1,al.1,ak.1,ah.1,aa.1,a9.1,Y.1]
 have av:IsZip I z TI TO .ellipsis:=ac _ _ D.i3z.symm D.TOz.symm (a1 _ _ D.i2z.symm D.TOz.symm (aa.extBut _ _ D.TOz.symm (a9.extBut _ _ D.i1z.symm ae)));have bi : ∀c o,c≠z->c≠TO->c≠i1->c≠i2->c≠i3->s.heap.get? c=some o->I.get? c=some o:=λc o O S c3 c4 c5 e=>ac c o c5 S (a1 c o c4 S (Z c o O c3 S e));have bj:ItAt k1 I i1 l1 (n1+1):=be.at λo e=>ac _ o D.i13 D.TOi1.symm (a1 _ o D.i12 D.TOi1.symm (aa.extBut _ _ D.TOi1.symm e));have bl:ItAt k2 I i2 l2 (n2+1):=bg.at λo e=>ac _ o D.i23 D.TOi2.symm (ak.extBut _ _ D.TOi2.symm e);have bm:ItAt k3 I i3 l3 (n3+1):=bh.at λo e=>am.extBut _ _ D.TOi3.symm e;have aw:z<I.objs.size:=ziw av;refine zid (m:=zjg (.ref z) (.ref I.objs.size)) ?_;unfold zjg;have bn:IsZip (I.push {cls:= .type "tuple",data:= .seq #[x,y,v]}) z TI TO .ellipsis:=zif _ av;refine zid (zi4 bn ⋯ λg9 ao ap=>?_);replace ao:IsZip g9 z TI TO (rawInt I.objs.size):=ao;refine zi4 ao ⋯ λa2 ad aq=>?_;replace ad:IsZip a2 z TI TO (rawInt I.objs.size):=ad;have up : ∀c o,c≠z->I.get? c=some o->a2.get? c=some o:=λc o O e=>aq.extBut _ _ O (ap.extBut _ _ O (zif _ e));have ax:qZ a2 I.objs.size x y v:=aq.extBut _ _ (zjI aw) (ap.extBut _ _ (zjI aw) (zix _ rfl));have ay:a2.objs.size=I.objs.size+1:=by rw [aq.1,ap.1,ziP]
 rw [hsz]at ad ax ay;refine zik ⟨_,rfl,?_⟩;show Q (.ref I.objs.size) _;rw [hsz];exact hQ a2 ad (up _ _ D.TOz ab) (bj.at λo e=>up _ o D.i1z e) (bl.at λo e=>up _ o D.i2z e) (bm.at λo e=>up _ o D.i3z e) ax ay λc o O S c3 c4 c5 e=>up c o O (bi c o O S c3 c4 c5 e)
theorem WS{k1 k2 k3:Sk}{z TI TO i1 i2 i3 l1 l2 l3:Addr}{n1 n2 n3:Nat}{xs ys zs:Array Value}{a b c:Value}{Q:Fin->Shared->Prop}(hh:A.handled=none)(D:Zip3A z TI TO i1 i2 i3 l1 l2 l3)
 (hz:IsZip s.heap z TI TO .none) (ar:qZ s.heap TI (.ref i1) (.ref i2) (.ref i3)) (as:qZ s.heap TO a b c)
 (h1:ItAt k1 s.heap i1 l1 n1) (h2:ItAt k2 s.heap i2 l2 n2) (h3:ItAt k3 s.heap i3 l3 n3) (aj:SqAt k1 s.heap l1 xs) (ak:SqAt k2 s.heap l2 ys) (av:SqAt k3 s.heap l3 zs) (aw:xs[n1]? = none\/ys[n2]? = none\/zs[n3]? = none)
 (hE : ∀h' e,(∀c o,c≠z->c≠TO->c≠i1->c≠i2->c≠i3->s.heap.get? c=some o->h'.get? c=some o)->(∃o,h'.get? e=some o/\o.cls = .type "StopIteration")->E (.ref e) {s with heap:=h'}) :
 wpAny (model prog w) A (Builtin.«zip.__next__» ⟨[.ref z],[]⟩) Q E s:=by
 refine zid (m:=field (.ref z) 2) (ziX hz rfl (x:= .bool false) rfl ?_);refine zid (m:=field (.ref z) 3) (ziX hz rfl (x:= .ref TI) rfl ?_);refine zid (zjk ar rfl ?_);refine zid (m:=ziJ (.ref z)) ?_;unfold ziJ;refine zid (ziX hz rfl (x:= .none) rfl (zik ?_));simp only [if_true];refine zid (zkG (zid (ziX hz rfl (x:= .ref TO) rfl ?_)));refine zid (zi4 hz ⋯ λg1 a9 a0=>?_);replace a9:IsZip g1 z TI TO .ellipsis:=a9;refine zid ?_;simp only [zlo,zlt,zk0,zk9];refine zid (zid (zj1 ?_));have ae : ∀{g e:_} {oe:Obj},IsZip g z TI TO .ellipsis->(∀c o,c≠z->c≠TO->c≠i1->c≠i2->c≠i3->s.heap.get? c=some o->g.get? c=some o)->g.get? e=some oe->oe.cls = .type "StopIteration"->
  wpAny (model prog w) A (setField (.ref z) 0 .none) (λ_ s'=>E (.ref e) s') E {s with heap:=g}:=λ{g e oe} al hk S Y=>by
  have b0:e≠z:=λq=>by subst q;rw [al]at S;cases S;simp at Y
  exact zi4 al ⋯ λg3 _ a5=>hE g3 e (λc o I O U c4 c5 q=>a5.extBut _ _ I (hk c o I O U c4 c5 q)) ⟨oe,a5.extBut _ _ b0 S,Y⟩
 cases hx:xs[n1]? with
 | none=>
  refine zid (m:=ziz (.ref i1)) (kt hh (h1.at λo e=>a0.extBut _ _ D.i1z e) (aj.at λo e=>a0.extBut _ _ D.l1z e) hx λg2 e a3 he=>?_);obtain⟨oe,S,Y⟩:=he;exact ae (a3 _ _ D.i1z.symm a9) (λc o I _ U _ _ q=>a3 _ _ U (a0.extBut _ _ I q)) S Y
 | some x=>
  refine zid (m:=ziz (.ref i1)) (qm (h1.at λo e=>a0.extBut _ _ D.i1z e) (aj.at λo e=>a0.extBut _ _ D.l1z e) hx λg2 b8 a3=>zik ?_);have am:qZ g2 TO a b c:=a3.extBut _ _ D.TOi1 (a0.extBut _ _ D.TOz as);refine zid (zjk am rfl (zid (Jo am λg3 af a5=>?_)));replace af:qZ g3 TO x b c:=af;have Z : ∀c o,c≠z->c≠i1->c≠TO->s.heap.get? c=some o->g3.get? c=some o:=λc o I O U e=>a5.extBut _ _ U (a3.extBut _ _ O (a0.extBut _ _ I e));have an:IsZip g3 z TI TO .ellipsis:=a5.extBut _ _ D.TOz.symm (a3.extBut _ _ D.i1z.symm a9);refine zid (zkq (zik (zid (zid (zj1 ?_)))));cases hy:ys[n2]? with
  | none=>
   refine zid (m:=ziz (.ref i2)) (kt hh (h2.at λo e=>Z _ o D.i2z D.i12.symm D.TOi2.symm e) (ak.at λo e=>Z _ o D.l2z D.l2i1 D.l2TO e) hy λg4 e a8 he=>?_);obtain⟨oe,S,Y⟩:=he;exact ae (a8 _ _ D.i2z.symm an) (λc o I O U c4 _ q=>a8 _ _ c4 (Z c o I U O q)) S Y
  | some y=>
   have hv:zs[n3]? = none:=by
    rcases aw with h | h | h
    ·rw [hx]at h;cases h
    ·rw [hy]at h;cases h
    ·exact h
   refine zid (m:=ziz (.ref i2)) (qm (h2.at λo e=>Z _ o D.i2z D.i12.symm D.TOi2.symm e) (ak.at λo e=>Z _ o D.l2z D.l2i1 D.l2TO e) hy λg4 b9 a8=>zik ?_);have ap:qZ g4 TO x b c:=a8.extBut _ _ D.TOi2 af;refine zid (zjk ap rfl (zid (Jo ap λg5 ba b7=>?_)));have aa : ∀c o,c≠i2->c≠TO->g3.get? c=some o->g5.get? c=some o:=λc o I O e=>b7.extBut _ _ O (a8.extBut _ _ I e);refine zid (zkq (zik (zid (zid (zj1 ?_)))));refine zid (m:=ziz (.ref i3)) (kt hh (h3.at λo e=>aa _ o D.i23.symm D.TOi3.symm (Z _ o D.i3z D.i13.symm D.TOi3.symm e)) (av.at λo e=>aa _ o D.l3i2 D.l3TO (Z _ o D.l3z D.l3i1 D.l3TO e)) hv λg6 e aq he=>?_);obtain⟨oe,S,Y⟩:=he;exact ae (aq _ _ D.i3z.symm (aa _ _ D.i2z.symm D.TOz.symm an)) (λc o I O U c4 c5 q=>aq _ _ c5 (aa c o c4 O (Z c o I U O q))) S Y
end
def Ky(a b c:Value):Obj:={cls:= .type "tuple",data:= .seq #[a,b,c]}
def xX(z I O:Sk)(h:Heap)(l1 l2 l3:Addr):Heap:=
 ziA (ziA (ziA (ziA (ziA (ziA h (itO z l1)) (itO I l2)) (itO O l3)) (Ky (.ref h.objs.size) (.ref (h.objs.size+1)) (.ref (h.objs.size+2)))) (Ky .none .none .none)) (zdy (h.objs.size+3) (h.objs.size+4))
theorem WR(z I O:Sk)(l1 l2 l3:Addr)(xs ys zs:Array Value) :
 Meets (Builtin.«zip.__new__» ⟨[.type "zip",.ref l1,.ref l2,.ref l3],[]⟩) (λ_ R s=>SqAt z s.heap l1 xs/\SqAt I s.heap l2 ys/\SqAt O s.heap l3 zs/\
  R (.ok (.ret (.ref (s.heap.objs.size+5)))) {s with heap:=xX z I O s.heap l1 l2 l3}):=
 .of_wp λprog w A R s h=>by
  obtain⟨S,g,d,tk,os⟩:=s;obtain⟨U,Y,Z,h⟩:=h;have a3:=sub_zip;have a0:SqAt z (zlf ⟨S,g,d,tk,os⟩) l1 xs:=U;have a1:SqAt I (zlf ⟨S.push (itO z l1),g,d,tk,os⟩) l2 ys:=Y.at λo e=>zif _ e;have a2:SqAt O (zlf ⟨(S.push (itO z l1)).push (itO I l2),g,d,tk,os⟩) l3 zs:=Z.at λo e=>zif _ (zif _ e)
  wp_walk using yS a0,yS a1,yS a2
  refine⟨_,rfl,?_⟩;simp only [xX,Ky,zdy,ziP]at h ⊢;exact h
theorem VO(a b c d:Value):argsOk "object.__init__" ⟨[a,b,c,d],[]⟩:=by
 unfold argsOk;have e:=signature?_of (id:="object.__init__") (n:=['_','_','t','i','n','i','_','_']) (o:=['t','c','e','j','b','o']) (by kernel_rfl) F.owner_object;rw [e]
 kernel_rfl
def zhc(z I O:Sk)(K:PySem.W.Frag)(a b c:Addr):It:=
 ⟨λi H=>∃xs ys zs,SqK z K H a xs/\SqK I K H b ys/\SqK O K H c zs/\i<xs.length/\i<ys.length/\i<zs.length,
  λi H x H'=>∃p u v t,x = .ref p/\H p=none/\H'=upd H p (.tup [u,v,t])/\(∀xs,SqK z K H a xs->xs[i]? = some u)/\(∀ys,SqK I K H b ys->ys[i]? = some v)/\(∀zs,SqK O K H c zs->zs[i]? = some t),
  λi H=>∃xs ys zs,SqK z K H a xs/\SqK I K H b ys/\SqK O K H c zs/\(xs.length<=i\/ys.length<=i\/zs.length<=i)⟩
theorem Yx{P:Program}{w:World}{K:PySem.W.Frag}{elts:List Expr}{x1:Nat}{tpos:Pos}(k1 k2 k3:Sk){z TI TO i1 i2 i3 a b c:Addr}(D:Zip3A z TI TO i1 i2 i3 a b c) :
 Turn P w K (.Tuple elts x1 tpos) (zhc k1 k2 k3 K a b c) [z,TI,TO,i1,i2,i3] z (λi h=>IsZip h z TI TO .none/\qZ h TI (.ref i1) (.ref i2) (.ref i3)/\(∃c d e,qZ h TO c d e)/\ItAt k1 h i1 a i/\ItAt k2 h i2 b i/\ItAt k3 h i3 c i) where
 mem:=by simp
 obj:=λi h ah y hy=>by
  obtain⟨S,Y,⟨c,d,e,Z⟩,h1,h2,h3⟩:=ah;simp only [ziq,ziH,or_false]at hy;rcases hy with rfl | rfl | rfl | rfl | rfl | rfl
  ·exact⟨_,S,λv q=>by cases q⟩
  ·exact⟨_,Y,λv q=>by cases q⟩
  ·exact⟨_,Z,λv q=>by cases q⟩
  ·exact h1.obj
  ·exact h2.obj
  ·exact h3.obj
 keep:=λi h h' ah k=>by
  obtain⟨S,Y,⟨c,d,e,Z⟩,h1,h2,h3⟩:=ah;exact⟨k z ⋯ _ S,k TI ⋯ _ Y,⟨c,d,e,k TO ⋯ _ Z⟩,h1.at λo e=>k i1 ⋯ o e,h2.at λo e=>k i2 ⋯ o e,h3.at λo e=>k i3 ⋯ o e⟩
 item:=by
  rintro X hP hw hK hc i pins s σ H E I hf ⟨S,Y,⟨c,d,e,Z⟩,h1,h2,h3⟩ ⟨xs,ys,zs,ae,af,ag,az,b0,b5⟩;subst hP hw hK;obtain⟨b6,ak,p1,z1⟩:=I.sq ae;obtain⟨b8,am,p2,z2⟩:=I.sq af;obtain⟨ba,an,p3,z3⟩:=I.sq ag;have hx:xs[i]? = some xs[i]:=zih az;have hy:ys[i]? = some ys[i]:=zih b0;have hv:zs[i]? = some zs[i]:=zih b5;obtain⟨u1,bc,bd⟩:=ak.get hx;obtain⟨u2,be,bf⟩:=am.get hy;obtain⟨u3,bg,bh⟩:=an.get hv;have hT:s.TypeIs (.ref z) "zip":=⟨_,S,rfl⟩;unfold pyNext;refine zid (zke (zjh (name:=zi0 "__next__") hT zj8 (zjC zj8 hT zlw
   (Yr D S Y Z h1 h2 h3 p1 p2 p3 (x:=u1) (y:=u2) (v:=u3) (by simpa using bc) (by simpa using be) (by simpa using bg) λg a1 a2 a3 a4 a9 a5 a6 a7=>zik ⟨_,rfl,?_⟩) (zlr _))))
  refine wpAny_letOwnedTupleGo_zip a1 λg2 bp a8=>?_;have lt : ∀{c o},s.heap.get? c=some o->s.heap.objs.size≠c:=λe=>zjI (ziw e);have bq:qZ g2 s.heap.objs.size u1 u2 u3:=a8.extBut _ _ (lt S) a5;have kk : ∀U u,U ∉ [z,TI,TO,i1,i2,i3]->s.heap.get? U=some u->g2.get? U=some u:=λU u O e=>by
   simp only [ziq,ziH,or_false,not_or]at O;exact a8.extBut _ _ O.1 (a7 U u O.1 O.2.2.1 O.2.2.2.1 O.2.2.2.2.1 O.2.2.2.2.2 e)
  have I1:Inv X pins σ (upd H s.heap.objs.size (.tup [xs[i],ys[i],zs[i]])) {s with heap:=g2,toks:=s.toks}:=
   I.turnLaid (fp:=[z,TI,TO,i1,i2,i3]) kk hf (zim _) ⟨by show 3<=sizeLine;decide,[u1,u2,u3],.cons bd (.cons bf (.cons bh .nil)),⟨_,bq,rfl,_,rfl⟩⟩
  have bt:H s.heap.objs.size=none:=I.fresh;refine⟨.ref s.heap.objs.size,_,I1,rfl,⟨_,_,_,_,rfl,bt,rfl,λc1 ac=>by rw [I.sq_inj ac ae];exact hx,λc2 ac=>by rw [I.sq_inj ac af];exact hy,λc3 ac=>by rw [I.sq_inj ac ag];exact hv⟩,?_,λU O=>?_⟩
  ·exact⟨bp,a8.extBut _ _ D.TIz (a7 _ _ D.TIz D.TITO D.TIi1 D.TIi2 D.TIi3 Y),⟨_,_,_,a8.extBut _ _ D.TOz a2⟩,a3.at λo e=>a8.extBut _ _ D.i1z e,a4.at λo e=>a8.extBut _ _ D.i2z e,a9.at λo e=>a8.extBut _ _ D.i3z e⟩
  ·have bu:U≠s.heap.objs.size:=by
    simp only [ziq,ziH,or_false]at O;rcases O with rfl | rfl | rfl | rfl | rfl | rfl
    ·exact(lt S).symm
    ·exact(lt Y).symm
    ·exact(lt Z).symm
    ·obtain⟨o,e,_⟩:=h1.obj;exact(lt e).symm
    ·obtain⟨o,e,_⟩:=h2.obj;exact(lt e).symm
    ·obtain⟨o,e,_⟩:=h3.obj;exact(lt e).symm
   rw [zG bu];exact(hf U O).1
 done:=by
  rintro X hP hw hK hc i pins s σ H E I hf ⟨S,Y,⟨c,d,e,Z⟩,h1,h2,h3⟩ ⟨xs,ys,zs,ae,af,ag,hi⟩;subst hP hw hK;obtain⟨b6,ak,p1,z1⟩:=I.sq ae;obtain⟨b8,am,p2,z2⟩:=I.sq af;obtain⟨ba,an,p3,z3⟩:=I.sq ag;have hT:s.TypeIs (.ref z) "zip":=⟨_,S,rfl⟩;have l1:=ak.length;have l2:=am.length;have l3:=an.length;unfold pyNext;refine zid (zke (zjh (name:=zi0 "__next__") hT zj8 (zjC zj8 hT zlw
   (WS (show X.A.handled=none from I.ok.hd hc) D S Y Z h1 h2 h3 p1 p2 p3 (by
     rcases hi with q | q | q
     ·left;simp;omega
     ·right;left;simp;omega
     ·right;right;simp;omega) λg e hk he=>?_) (zlr _))))
  obtain⟨o,ho,bz⟩:=he;refine zid (zmh (T:="StopIteration") (b:=true) ⟨o,ho,bz⟩ isSubtype_stop (zik ⟨rfl,?_⟩));refine I.turnedL (t':=s.toks) (fp:=[z,TI,TO,i1,i2,i3]) (λU u O e=>?_) hf;simp only [ziq,ziH,or_false,not_or]at O;exact hk U u O.1 O.2.2.1 O.2.2.2.1 O.2.2.2.2.1 O.2.2.2.2.2 e
 self:=λ_ _ _ _ _ st h=>zlC st.1 h
theorem zga{x y z:V}{us:List Value}(r:Vals [x,y,z] us) : ∃u w' t,us=[u,w',t]/\RelV x u/\RelV y w'/\RelV z t:=by
 cases r with
 | cons I r2=>
  cases r2 with
  | cons O S=>
   cases S with
   | cons U Y=>cases Y;exact⟨_,_,_,rfl,I,O,U⟩
def zgE(K:PySem.W.Frag)(ta:TA):TI:=λσ H R=>ta σ H λvs H1=>∃z I O a b c,vs=[.ref a,.ref b,.ref c]/\(∃xs,SqK z K H1 a xs)/\(∃ys,SqK I K H1 b ys)/\(∃zs,SqK O K H1 c zs)/\R (zhc z I O K a b c) H1
theorem zcD{X:Cx}{e1 U Y:Expr}{ta:TA}{p pos:Pos}{elts:List Expr}{x1:Nat}{tpos:Pos}(hg:Gl X "zip")(hm:X.mg "zip" = none)(ha:PA X [e1,U,Y] ta)
 (hv:bootBuiltins "zip" = some (.type "zip")) (hs:starEach [e1,U,Y] X.env=[(false,eval e1 X.env),(false,eval U X.env),(false,eval Y X.env)]:=by rfl) (a4:starEach [U,Y] X.env=[(false,eval U X.env),(false,eval Y X.env)]:=by rfl) :
 PI X (.Tuple elts x1 tpos) (.Call (.Name "zip" p) [e1,U,Y] [] pos) (zgE X.K ta):=by
 intro pins s σ H R I h;refine Call_ (xt I hg hm hv (zi7 (thn (ha pos pins s σ H _ I h) λus s1 hZ=>?_) (by rw [hs,a4]) (by rw [a4];rfl)));obtain⟨vs,H1,Z,r1,q1⟩:=hZ;obtain⟨z,O,S,a,b,c,e,⟨xs,aj⟩,⟨ys,ak⟩,⟨zs,al⟩,q⟩:=q1;subst e;obtain⟨w1,w2,w3,eu,an,ao,ap⟩:=zga r1;subst eu;cases an;cases ao;cases ap;obtain⟨aq,b9,p1,z1⟩:=Z.sq aj;obtain⟨ar,bb,p2,z2⟩:=Z.sq ak;obtain⟨as,bd,p3,z3⟩:=Z.sq al;have la:=p1.lt;have lb:=p2.lt;have lc:=p3.lt;refine callType_new F.called_zip ⋯ (Zy _ _ _) (JY _ _ _) (λobj=>VO obj _ _ _) F.entry_zip_new (WR z O S a b c aq.toArray ar.toArray as.toArray) ⟨p1,p2,p3,?_⟩;have ps : ∀(h:Heap) (o:Obj) (c:Addr) (u:Obj),h.get? c=some u->(h.push o).get? c=some u:=λh o c u e=>zif _ e;have keep : ∀c' o,s1.heap.get? c'=some o->(xX z O S s1.heap a b c).get? c'=some o:=λc' o e=>ps _ _ _ _ (ps _ _ _ _ (ps _ _ _ _ (ps _ _ _ _ (ps _ _ _ _ (ps _ _ _ _ e)))));have y1:(ziA s1.heap (itO z a)).objs.size=s1.heap.objs.size+1:=ziP ..;have y2:(ziA (ziA s1.heap (itO z a)) (itO O b)).objs.size=s1.heap.objs.size+2:=by rw [ziP,y1]
 have y3:(ziA (ziA (ziA s1.heap (itO z a)) (itO O b)) (itO S c)).objs.size=s1.heap.objs.size+3:=by rw [ziP,y2]
 have y4:(ziA (ziA (ziA (ziA s1.heap (itO z a)) (itO O b)) (itO S c)) (Ky (.ref s1.heap.objs.size) (.ref (s1.heap.objs.size+1)) (.ref (s1.heap.objs.size+2)))).objs.size=s1.heap.objs.size+4:=by rw [ziP,y3]
 have y5:(ziA (ziA (ziA (ziA (ziA s1.heap (itO z a)) (itO O b)) (itO S c)) (Ky (.ref s1.heap.objs.size) (.ref (s1.heap.objs.size+1)) (.ref (s1.heap.objs.size+2)))) (Ky .none .none .none)).objs.size=s1.heap.objs.size+5:=by rw [ziP,y4]
 have g0:ItAt z (xX z O S s1.heap a b c) s1.heap.objs.size a 0:=(k8 z s1.heap a).at λo e=>ps _ _ _ _ (ps _ _ _ _ (ps _ _ _ _ (ps _ _ _ _ (ps _ _ _ _ e))));have g1:ItAt O (xX z O S s1.heap a b c) (s1.heap.objs.size+1) b 0:=by
  have q:=k8 O (ziA s1.heap (itO z a)) b;rw [y1]at q;exact q.at λo e=>ps _ _ _ _ (ps _ _ _ _ (ps _ _ _ _ (ps _ _ _ _ e)))
 have ay:ItAt S (xX z O S s1.heap a b c) (s1.heap.objs.size+2) c 0:=by
  have q:=k8 S (ziA (ziA s1.heap (itO z a)) (itO O b)) c;rw [y2]at q;exact q.at λo e=>ps _ _ _ _ (ps _ _ _ _ (ps _ _ _ _ e))
 have g2:qZ (xX z O S s1.heap a b c) (s1.heap.objs.size+3) (.ref s1.heap.objs.size) (.ref (s1.heap.objs.size+1)) (.ref (s1.heap.objs.size+2)):=by
  have q:_=some (Ky (.ref s1.heap.objs.size) (.ref (s1.heap.objs.size+1)) (.ref (s1.heap.objs.size+2))):=zix (ziA (ziA (ziA s1.heap (itO z a)) (itO O b)) (itO S c)) (o:=Ky (.ref s1.heap.objs.size) (.ref (s1.heap.objs.size+1)) (.ref (s1.heap.objs.size+2))) rfl;rw [y3]at q;exact ps _ _ _ _ (ps _ _ _ _ q)
 have g3:qZ (xX z O S s1.heap a b c) (s1.heap.objs.size+4) .none .none .none:=by
  have q:_=some (Ky .none .none .none):=zix (ziA (ziA (ziA (ziA s1.heap (itO z a)) (itO O b)) (itO S c)) (Ky (.ref s1.heap.objs.size) (.ref (s1.heap.objs.size+1)) (.ref (s1.heap.objs.size+2)))) (o:=Ky .none .none .none) rfl;rw [y4]at q;exact ps _ _ _ _ q
 have g4:IsZip (xX z O S s1.heap a b c) (s1.heap.objs.size+5) (s1.heap.objs.size+3) (s1.heap.objs.size+4) .none:=by
  have q:=zix (ziA (ziA (ziA (ziA (ziA s1.heap (itO z a)) (itO O b)) (itO S c)) (Ky (.ref s1.heap.objs.size) (.ref (s1.heap.objs.size+1)) (.ref (s1.heap.objs.size+2)))) (Ky .none .none .none)) (o:=zdy (s1.heap.objs.size+3) (s1.heap.objs.size+4)) rfl;rw [y5]at q;exact q
 refine⟨⟨_,g4,rfl⟩,zlC (s:={s1 with heap:=xX z O S s1.heap a b c}) g4 ?_⟩;have I2:Inv X pins σ H1 {s1 with heap:=xX z O S s1.heap a b c,toks:=s1.toks}:=Z.kept keep;have b5 : ∀m:Nat,a≠s1.heap.objs.size+m:=λm=>ziI (ziF la (ziL _ m));have a3 : ∀m:Nat,b≠s1.heap.objs.size+m:=λm=>ziI (ziF lb (ziL _ m));have a1 : ∀m:Nat,c≠s1.heap.objs.size+m:=λm=>ziI (ziF lc (ziL _ m));have ne : ∀m n:Nat,m≠n->(s1.heap.objs.size+m:Nat)≠s1.heap.objs.size+n:=λm n h=>by omega
 have D:Zip3A (s1.heap.objs.size+5) (s1.heap.objs.size+3) (s1.heap.objs.size+4) s1.heap.objs.size (s1.heap.objs.size+1) (s1.heap.objs.size+2) a b c:=
  ⟨ne 3 5 ⋯,ne 4 5 ⋯,ne 0 5 ⋯,ne 1 5 ⋯,ne 2 5 ⋯,ne 3 4 ⋯,ne 3 0 ⋯,ne 3 1 ⋯,ne 3 2 ⋯,ne 4 0 ⋯,ne 4 1 ⋯,ne 4 2 ⋯,ne 0 1 ⋯,ne 0 2 ⋯,ne 1 2 ⋯,
   b5 5,a3 5,a3 4,a3 0,a1 5,a1 4,a1 0,a1 1⟩
 refine⟨_,[s1.heap.objs.size+5,s1.heap.objs.size+3,s1.heap.objs.size+4,s1.heap.objs.size,s1.heap.objs.size+1,s1.heap.objs.size+2],_,_,H1,rfl,I2,Yx z O S D,⟨g4,g2,⟨_,_,_,g3⟩,g0,g1,ay⟩,λc' hc=>?_,q⟩;have ac:s1.heap.objs.size<=c':=by
  simp only [ziq,ziH,or_false]at hc;rcases hc with rfl | rfl | rfl | rfl | rfl | rfl
  ·exact ziL _ _
  ·exact ziL _ _
  ·exact ziL _ _
  ·exact zim _
  ·exact ziL _ _
  ·exact ziL _ _
 exact Z.fpOk ac (Z.hok.fresh ac)
end L2
namespace DL
open PySem L2
def Jl(ds es fs:List D):List D:=(ds.zip (es.zip fs)).map λp=>D.tup [p.1,p.2.1,p.2.2]
def W4(f g h:CO D):CO (List D):=λγ=>((f γ).bind jE).bind λm=>((g γ).bind jE).bind λn=>((h γ).bind jE).map λo=>Jl m.2 n.2 o.2
@[simp] theorem zgT(f g h):W4 f g h γ=((f γ).bind jE).bind λm=>((g γ).bind jE).bind λn=>((h γ).bind jE).map λo=>Jl m.2 n.2 o.2:=rfl
open PySem.Spec PyProof.Rows
theorem Yt{S U Y:Sk}{K:PySem.W.Frag}{H0 Hs:Hp}{a b c:Addr}{xs ys zs:List V}{ds es fs:List D}(h1:SqK S K Hs a xs)(Z:Reps K H0 ds xs)(h2:SqK U K Hs b ys)(r2:Reps K H0 es ys)(z:SqK Y K Hs c zs)(r3:Reps K H0 fs zs) :
 Walk K H0 Hs (zhc S U Y K a b c) (Jl ds es fs):=by
 have l1:=Z.length;have l2:=r2.length;have l3:=r3.length;have hz:(Jl ds es fs).length=min ds.length (min es.length fs.length):=by simp [Jl]
 refine⟨λi H1 s hi=>?_,λH1 s=>?_,λi H1 x H1' s hi y=>?_⟩
 ·exact⟨xs,ys,zs,xm s h1,xm s h2,xm s z,by omega,by omega,by omega⟩
 ·refine⟨xs,ys,zs,xm s h1,xm s h2,xm s z,?_⟩
  rw [hz];omega
 ·obtain⟨p,u,v,t,e1,hp,e2,g1,g2,g3⟩:=y
  obtain⟨d,hd,hr⟩:=Z.getV (g1 xs (xm s h1));obtain⟨I,hc,aa⟩:=r2.getV (g2 ys (xm s h2));obtain⟨f,hf,ac⟩:=r3.getV (g3 zs (xm s z));refine⟨.tup [d,I,f],?_,λG0 s1 s2=>⟨upd G0 p (.tup [u,v,t]),?_,?_⟩⟩
  ·have ad:(ds.zip (es.zip fs))[i]? = some (d,(I,f)):=zk8.mpr ⟨hd,zk8.mpr ⟨hc,hf⟩⟩
   simp [Jl,ad]
  ·rw [e2];exact Ext.alloc s2 hp _
  ·rw [e1]
   have O:=λ{q:D} {y:V} (r:Rep K H0 q y)=>(r.mono s1).mono (jt (jm s2 hp) (.tup [u,v,t]));exact(show ∃a' a3,V.ref p = .ref a'/\SqT K _ a' a3/\Reps K _ [d,I,f] a3 from⟨p,[u,v,t],rfl,SqT.of zL,Reps.cons (O hr) (Reps.cons (O aa) (Reps.cons (O ac) Reps.nil))⟩)
section
variable{X:Cx}{sc:Scope}{N L:List Str}{k:Nat}{a b c:Expr}{p pos:Pos}{f g h:CO D}
theorem zcA{elts:List Expr}{x1:Nat}{tpos:Pos}(hS:SX X sc N L k)(cz:kx sc "zip" = true)(z:X.mg "zip" = none)(ha:PV X a f)(hb:PV X b g)(hc:PV X c h)
 (Z:starEach [a,b,c] X.env=[(false,eval a X.env),(false,eval b X.env),(false,eval c X.env)]:=by rfl) (O:starEach [b,c] X.env=[(false,eval b X.env),(false,eval c X.env)]:=by rfl) (a0:starEach [c] X.env=[(false,eval c X.env)]:=by rfl) :
 PIF X (.Tuple elts x1 tpos) (.Call (.Name "zip" p) [a,b,c] [] pos) (W4 f g h):=
 wH (zcD (hS.gl cz).1 z (jr ha (jr hb (jr hc qg a0) (by rw [O,a0])) (by rw [Z,O])) PyProof.Rows.boot_zip Z O) λσ H R hZ=>by
  obtain⟨H0,γ,ds,rc,I,q⟩:=hZ;obtain⟨⟨k1,m⟩,e1,I⟩:=bind_some I;obtain⟨d,e0,e1⟩:=bind_some e1;obtain⟨⟨k2,n⟩,S,I⟩:=bind_some I;obtain⟨c',e2,S⟩:=bind_some S;obtain⟨⟨k3,o⟩,U,I⟩:=zy I;obtain⟨t,e4,U⟩:=bind_some U;subst I;refine⟨H0,γ,d,rc,e0,λv H' H0' x r=>⟨H0',γ,c',rc.ext x,e2,λv2 H2 aj Y r2=>⟨aj,γ,t,(rc.ext x).ext Y,e4,λv3 H3 al x3 r3=>?_⟩⟩⟩;obtain⟨a1,xs,rfl,g1,g2⟩:=vI ((r.mono Y.s0).mono x3.s0) e1;obtain⟨a2,ys,rfl,g3,g4⟩:=vI (r2.mono x3.s0) S;obtain⟨a3,zs,rfl,g5,g6⟩:=vI r3 U;exact⟨k1,k2,k3,a1,a2,a3,rfl,⟨xs,xm x3.sub g1⟩,⟨ys,xm x3.sub g3⟩,⟨zs,xm x3.sub g5⟩,q _ H3 al ((x.trans Y).trans x3) (Yt g1 g2 g3 g4 g5 g6)⟩
end
theorem JZ:typeLookup (.type "list") "keys" = pure none:=by rw [typeLookup_type,builtinLookup_eq_fast];kernel_rfl
theorem wN:entryFor table "list.__getattribute__" = some Builtin.«object.__getattribute__» :=
 entryFor_alias (id':="object.__getattribute__") (by kernel_rfl) (by first | rfl | decide +kernel) ⋯ (by kernel_rfl)
section
variable{prog:Program}{w:World}{A:Around}{E:Value->Shared->Prop}{h:Heap}{g:Array GenState}{d:Drawn}{t:Nat}{os:OsState}{a:Addr}{o:Obj}
theorem vW{tk:Tok}{Q:Fin->Shared->Prop}{vs:Array Value}{U:Nat}{sl:Array (Option Value)}(hx:h.get? a=some ⟨.type "list",none,.seq vs U,sl⟩)(Y:A.handled=none)
 (Z : ∀h' e t',(∀b u,h.get? b=some u->h'.get? b=some u)->(∃O,h'.get? e=some O/\O.cls = .type "AttributeError")->E (.ref e) ⟨h',g,d,t',os⟩) :
 wpAny (model prog w) A (Builtin.«object.__getattribute__» ⟨[.ref a,.str "keys" tk],[]⟩) Q E ⟨h,g,d,t,os⟩:=by
 have hT:(⟨h,g,d,t,os⟩:Shared).TypeIs (.ref a) "list":=⟨_,hx,rfl⟩;have f4:=JZ
 repeat (any_goals (first | assumption | wp_step))
 unfold raiseAttrError;have hm:((zi0 (toString "'" ++ toString ((Manifest.find? "list").elim "list" λx=>x.tpName)++toString "' object has no attribute '")++zi0 "keys" ++ zi0 "'"):Str).length<=sizeLine:=by decide +kernel
 generalize (zi0 (toString "'" ++ toString ((Manifest.find? "list").elim "list" λx=>x.tpName)++toString "' object has no attribute '")++zi0 "keys" ++ zi0 "'")=z at hm ⊢;refine zid (wpAny_mkStr (hx:=hm) ?_);refine zid ?_;unfold newExc newTuple;refine zid (zjD ?_ (by size_fits));refine zid (m:=firstArgMember _ _) (wpAny_of_eq (a:=ziV) (by first | rfl | (simp only [firstArgMember];rfl)) ?_);refine zjD ?_ (by size_fits);simp only [ziP];have I:((h.push {cls:= .type "tuple",data:= .seq #[.str z t]}).push {cls:= .type "AttributeError",data:= .fields (#[.ref h.objs.size,.none,.none,.none,.bool false,.none]++ownMembersOf (.type "AttributeError") [.str z t])}).get? (h.objs.size+1) =
  some {cls:= .type "AttributeError",data:= .fields (#[.ref h.objs.size,.none,.none,.none,.bool false,.none]++ownMembersOf (.type "AttributeError") [.str z t])}:=by heap_get
 have S : ∀b u,h.get? b=some u->((h.push {cls:= .type "tuple",data:= .seq #[.str z t]}).push {cls:= .type "AttributeError",data:= .fields (#[.ref h.objs.size,.none,.none,.none,.bool false,.none]++ownMembersOf (.type "AttributeError") [.str z t])}).get? b=some u:=λb u e=>zif _ (zif _ e);have hn:h.get? (h.objs.size+1)=none:=Heap.get?_none_of_le (zk1 _);generalize ((h.push {cls:= .type "tuple",data:= .seq #[.str z t]}).push {cls:= .type "AttributeError",data:= .fields (#[.ref h.objs.size,.none,.none,.none,.bool false,.none]++ownMembersOf (.type "AttributeError") [.str z t])})=h2 at I S ⊢;refine zid (wpAny_mkText ?_);unfold noteAttr lacksNameAndObj;have a2:(⟨h2,g,d,t+1+1,os⟩:Shared).TypeIs (.ref (h.objs.size+1)) "AttributeError":=⟨_,I,rfl⟩;have ft:isSubtype (.type "AttributeError") (.type "AttributeError")=pure true:=by rw [isSubtype_type];kernel_rfl
 repeat (any_goals (first | assumption | with_reducible refine wpAny_loadPart_at I ?_ | with_reducible refine wpAny_load I ?_ | wp_step))
 refine wpAny_raiseNew_none Y (Z _ _ _ (λb u e=>?_) ⟨_,zkP _ I (Obj.isFreed_of_fields (zlW rfl _)),Obj.cls_mapFields ..⟩);rw [zju _ _ (λq=>by rw [<- q]at e;rw [hn]at e;cases e)];exact S b u e
theorem wJ{tk:Tok}{R:Result->Shared->Prop}{vs:Array Value}{I:Nat}{sl:Array (Option Value)}(hx:h.get? a=some ⟨.type "list",none,.seq vs I,sl⟩)(O:A.handled=none)
 (S : ∀h' e t',(∀b u,h.get? b=some u->h'.get? b=some u)->(∃z,h'.get? e=some z/\z.cls = .type "AttributeError")->R (.error (.ref e)) ⟨h',g,d,t',os⟩) :
 codeAny (model prog w) A (.call (.builtin "list.__getattribute__") ⟨[.ref a,.str "keys" tk],[]⟩) R ⟨h,g,d,t,os⟩:=
 zlU zkE.plain wN (zkE.check _ _ _ _ _ _ _ _ (show(⟨h,g,d,t,os⟩:Shared).TypeIs (.ref a) "list" from⟨_,hx,rfl⟩) (F.args_list_getattribute_2 _ _) (vW hx O S))
theorem K6:typeLookup (.type "list") "__getattr__" = pure none:=by rw [typeLookup_type,builtinLookup_eq_fast];kernel_rfl
theorem Vz{Q:Option Value->Shared->Prop}{vs:Array Value}{I:Nat}{sl:Array (Option Value)}(hx:h.get? a=some ⟨.type "list",none,.seq vs I,sl⟩)(O:A.handled=none)
 (S : ∀h' t',(∀b u,h.get? b=some u->h'.get? b=some u)->Q none ⟨h',g,d,t',os⟩):wpAny (model prog w) A (getAttr? (.ref a) "keys") Q E ⟨h,g,d,t,os⟩:=by
 have hT:(⟨h,g,d,t+1,os⟩:Shared).TypeIs (.ref a) "list":=⟨_,hx,rfl⟩;have f2:=zkE.lookup;have f3:=zkE.bind (.ref a);have f5:=K6;have ft:isSubtype (.type "AttributeError") (.type "AttributeError")=pure true:=by rw [isSubtype_type];kernel_rfl
 unfold getAttr? getAttrBy? getAttrBy
 repeat (any_goals (first | assumption | wp_step))
 refine wJ (g:=g) (d:=d) (os:=os) hx O λh' e t' U z=>?_;obtain⟨Y,z,Z⟩:=z;have a5:(⟨h',g,d,t',os⟩:Shared).TypeIs (.ref e) "AttributeError":=⟨Y,z,Z⟩;have a6:=S h' t' U;show wpAny _ _ (getattributeRaised _ _ _ _ _ _ _) _ _ _;unfold getattributeRaised hookOrError attributeErrorLeaves
 repeat (any_goals (first | assumption | wp_step))
end
def kQ:List D->Option (List D×List D)
 | []=>some ([],[])
 | d::r=>match d with
  | .tup ds=>match ds with
   | [k,v]=>(kQ r).map λp=>(k::p.1,v::p.2)
   | _=>none
  | _=>none
def XL(f:CO (List D)):CO D:=λγ=>(f γ).bind λps=>(kQ ps).bind λp=>V8 p.1 p.2
@[simp] theorem zf4{γ:Ctx}(f):XL f γ=(f γ).bind λps=>(kQ ps).bind λp=>V8 p.1 p.2:=rfl
def zd0(fd fk:CO D):CO D:=λγ=>(fd γ).bind λd=>(fk γ).bind λk=>match d with
 | .dic ks vs=>(asI k).bind λi=>Ka ks vs i
 | _=>none
def zdA(fk fd:CO D):CO D:=λγ=>(fk γ).bind λk=>(fd γ).bind λd=>match d with
 | .dic ks vs=>(asI k).map λi=> .bl (Ka ks vs i).isSome
 | _=>none
section
variable{X:Cx}{pins:List (Addr×Obj)}{σ:St}{A:Around}{R:Result->Shared->Prop}{H0:Hp}{l it d:Addr}{ks:List Key}{ys xs:List V}
theorem Yg(hh:A.handled=none)(hx:xs.length=ks.length)(hy:ys.length=ks.length)(hp : ∀(n:Nat) (h1:n<xs.length) (h2:n<ks.length) (h3:n<ys.length),∃p,xs[n] = .ref p/\SqT X.K H0 p [kV ks[n],ys[n]])(ae:H0 d=none)(af:l≠d) : ∀(m n:Nat) (s:Shared) (H:Hp) (kvs:List (Key×V)) (i:Int) (t:Tok),n+m=ks.length->
 Inv X pins σ H s->Same H0 H->H l=some (.lst xs)->s.heap.IsListIter it l n->FpOk X pins H it->H d=some (.dK kvs)->kvs.length+m<=sizeLine->
 (∀s',Inv X pins σ (upd H d (.dK (zag kvs ((ks.zip ys).drop n)))) s'->R (.ok (.ret .none)) s')->
 codeAny (model X.prog X.w) A (.builtin "dict.update.loop" ⟨[.ref d,.ref it,.int i t,.none],[]⟩) R s:=by
 intro m
 induction m with
 | zero=>
  intro n s H kvs i t hn I sub U st O hd hz Y;obtain⟨z1,Z,c,rv,ll,el⟩:=I.lstM U;refine codeAny_builtin ke ?_;unfold Builtin.«dict.update.loop»;have il:s.heap.IsList l Z.toArray:=⟨_,el,rfl,_,rfl⟩;refine zid (wpAny_pyNext_list_end (s:=s) hh st il (by simp;omega) λh' eb=>?_);refine zid (zik ?_);have e0:upd H d (.dK (zag kvs ((ks.zip ys).drop n)))=H:=by
   rw [List.drop_eq_nil_of_le (by simp;omega)];funext c;by_cases q:c=d
   ·rw [q,zL,hd];rfl
   ·rw [zG q]
  rw [e0]at Y;exact zik (Y _ (I.turnedL (t':=s.toks) (fp:=[it]) (λb o z e=>eb b o (by simpa using z) e) (λb z=>by rw [zkg.mp z];exact O)))
 | succ m ih=>
  intro n s H kvs i t hn I sub U st O hd hz Y;obtain⟨z1,Z,c,rv,ll,el⟩:=I.lstM U;have il:s.heap.IsList l Z.toArray:=⟨_,el,rfl,_,rfl⟩;have am:n<ks.length:=by omega
  obtain⟨p,ep,ao⟩:=hp n ⋯ am ⋯;obtain⟨u,hu,ru⟩:=rv.get (zih (show n<xs.length by omega));rw [ep]at ru;have eu:u = .ref p:=ru;subst eu;refine codeAny_builtin ke ?_;unfold Builtin.«dict.update.loop»;refine zid (wpAny_pyNext_list_item (s:=s) st il (x:= .ref p) (by simpa using hu) λh' ar sb=>?_);have I1:=I.turnedL (h':=h') (t':=s.toks) (fp:=[it]) (λb o z e=>(sb.2 b (by simpa using z)).trans e) (λb z=>by rw [zkg.mp z];exact O);obtain⟨ts,rt,⟨o,eo,co,nn,au⟩,zt⟩:=I1.tuple (sameT sub ao);obtain⟨S,r3,rfl,av,q2⟩ : ∃S r3,ts=S::r3/\RelV (kV ks[n]) S/\Vals [ys[n]] r3:=by
   cases rt with
   | cons q1 q2=>exact⟨_,_,rfl,q1,q2⟩
  obtain⟨u2,rfl,ax⟩:=xR q2;have ay:({s with heap:=h'}:Shared).TypeIs (.ref p) "tuple":=⟨_,eo,co⟩;refine zid (zjH (zid (wpAny_tryCatch ?_)));unfold Builtin.Dict.pairItems;refine zid (zlj ay ?_);rw [if_pos ⋯];refine zid (zjk eo au (zik ?_));show wpAny _ _ (holding [S,u2] (dictSet d S u2)) _ _ _;obtain⟨zz,b0,vs,a9,dd⟩:=zgM I1.hok hd;have b6:vs.length<=sizeLine:=by rw [<- a9.length];exact zz
  have b7:(Yp kvs ks[n] ys[n]).length<=sizeLine:=by have:=vY kvs ks[n] ys[n];omega
  refine zjH (wpAny_dictSet_pairs (hsz:=b6) (zaV av) dd λb8 aa hs=>?_);have he : ∃q,b8.get? d=some q:=let ⟨q,_,_,hq,_⟩:=aa;⟨q,hq⟩;have I2:=zdf (t':=s.toks+1) I1 (by rw [hd];exact zkd) hs he (zfh b7 b0 (a9.put ks[n] ax) aa);have nd:it≠d:=λq=>by have:=O.1;rw [q,hd]at this;cases this
  refine zik ⟨xZ _,ih (n+1) _ _ (Yp kvs ks[n] ys[n]) (i+1) 0 ⋯ I2 (λc o e=>?_) (by rw [zG af];exact U) (ar.at λo q=>(hs.2 it nd).trans q) ⟨by rw [zG nd];exact O.1,O.2⟩ zL (by have:=vY kvs ks[n] ys[n];omega) λs' I3=>Y s' ?_⟩
  ·rw [zG (λq=>by rw [q,ae]at e;cases e)];exact sub _ _ e
  ·have bd:n<(ks.zip ys).length:=by simp;omega
   have e1:(ks.zip ys).drop n=(ks[n],ys[n])::(ks.zip ys).drop (n+1):=by
    rw [zku bd];simp
   have e2:upd (upd H d (.dK (Yp kvs ks[n] ys[n]))) d (.dK (zag (Yp kvs ks[n] ys[n]) ((ks.zip ys).drop (n+1))))=upd H d (.dK (zag kvs ((ks.zip ys).drop n))):=by
    funext c;by_cases q:c=d
    ·rw [q,zL,zL,e1];rfl
    ·rw [zG q,zG q,zG q]
   rw [<- e2];exact I3
theorem Yj{Q:Value->Shared->Prop}{H:Hp}{s:Shared}(I:Inv X pins σ H s)(Y:X.A.handled=none)(sub:Same H0 H)(z:H l=some (.lst xs))(hx:xs.length=ks.length)(hy:ys.length=ks.length)
 (hp : ∀(n:Nat) (h1:n<xs.length) (h2:n<ks.length) (h3:n<ys.length),∃p,xs[n] = .ref p/\SqT X.K H0 p [kV ks[n],ys[n]]) (hz:ks.length<=sizeLine)
 (hQ : ∀s' p,H p=none->Inv X pins σ (upd H p (.dK (zag [] (ks.zip ys)))) s'->Q (.ref p) s'):wpAny (model X.prog X.w) X.A (call (.type "dict") [.ref l]) Q X.xe s:=by
 have O:H s.heap.objs.size=none:=I.fresh;have a8:H0 s.heap.objs.size=none:=jm sub O;have Z:l≠s.heap.objs.size:=λq=>by rw [q,O]at z;cases z
 refine callType_codes (Q₁:=λobj s₁=>obj = .ref s.heap.objs.size/\s₁ = {s with heap:=s.heap.push {cls:= .type "dict",data:= .dict #[]}}) F.kt_called_dict (F.kt_typeCall_dict_1 _) F.entry_dict_init (kt_code_dict_new _ ⟨rfl,rfl⟩) ?_;rintro obj s₁ ⟨rfl,rfl⟩;have I1:=I.laid (a:=s.heap.objs.size) (o:= .dK []) (t':=s.toks) (λ_ _ q=>zif {cls:= .type "dict",data:= .dict #[]} q) (zim _) (za8 s.heap I.big);have a1:({s with heap:=s.heap.push {cls:= .type "dict",data:= .dict #[]}}:Shared).TypeIs (.ref s.heap.objs.size) "dict":=⟨_,zix _ rfl,rfl⟩;obtain⟨z1,a2,c,rv,ll,el⟩:=I.lstM z;have S:(s.heap.push {cls:= .type "dict",data:= .dict #[]}).get? l=some {cls:= .type "list",data:= .seq a2.toArray c}:=zif _ el;refine⟨a1,F.args_dict_init_2 _ _,?_⟩;unfold Builtin.«dict.__init__»;refine zid ?_;unfold Builtin.Dict.selfAndRest;refine zid (wpAny_notOrdered_dict a1 ?_);show wpAny _ _ (pure (s.heap.objs.size,[zjz l])) _ _ _;refine zik ?_;show wpAny _ _ (Builtin.Dict.updateFrom "dict.__init__" s.heap.objs.size (.ref l) [] .none) _ _ _;unfold Builtin.Dict.updateFrom;refine zid (zlj (T:="list") ⟨_,S,rfl⟩ ?_);rw [if_pos ⋯];refine zid (Vz (g:=s.gens) (d:=s.drawn) (t:=s.toks) (os:=s.os) S (show X.A.in1.in1.handled=none from Y) λh' t' k=>?_);have U:Inv X pins σ (upd H s.heap.objs.size (.dK [])) {s with heap:=h',toks:=t'}:=I1.kept k;have ab:=k _ _ S;simp only [Option.isNone_none,if_true];refine zid (zkG (zid (zmd (items:=a2.toArray) ⟨_,ab,rfl,_,rfl⟩ ?_)));refine zik ⟨xZ _,?_⟩;have I3:=U.kept (h':=h'.push {cls:= .type "list_iterator",data:= .fields #[.ref l,.int 0 0]}) (t':=t') λb o e=>zif _ e;have hsz:s.heap.objs.size<h'.objs.size:=by
  have:=ziw (k _ _ (zix s.heap (o:={cls:= .type "dict",data:= .dict #[]}) rfl));exact this
 have fp:=U.fpOk (b:=h'.objs.size) (H':=upd H s.heap.objs.size (.dK [])) (zim _) U.fresh;refine Yg (H0:=H0) (l:=l) (it:=h'.objs.size) (ks:=ks) (ys:=ys) (xs:=xs) (show X.A.in1.handled=none from Y) hx hy hp a8 Z ks.length 0 _ (upd H s.heap.objs.size (.dK [])) [] 0 0 (zi1 _) I3 (sub.trans (jt O _)) (by rw [zG Z];exact z) ⟨_,zix _ rfl,rfl,rfl⟩ fp zL (by simpa using hz) λs' I4=>?_;rw [Yw,List.drop_zero]at I4;exact⟨rfl,hQ s' _ O I4⟩
end
theorem Jq : ∀{ps ks vs:List D},kQ ps=some (ks,vs)->ks.length=ps.length/\vs.length=ps.length
 | [],ks,vs,h=>by cases h;exact⟨rfl,rfl⟩
 | d::r,ks,vs,h=>by
  unfold kQ at h;split at h
  ·split at h
   ·obtain⟨⟨a,b⟩,e1,z⟩:=zy h
    cases z;obtain⟨i1,i2⟩:=Jq e1;exact⟨by simp [i1],by simp [i2]⟩
   ·cases h
  ·cases h
theorem wR{K:PySem.W.Frag}{H:Hp} : ∀{ps ks vs:List D} {xs:List V} {ns:List Int},kQ ps=some (ks,vs)->Reps K H ps xs->Q8 ks=some ns->
 ∃ys,Reps K H vs ys/\ys.length=ns.length/\xs.length=ns.length/\∀(n:Nat) (h1:n<xs.length) (h2:n<ns.length) (z:n<ys.length),∃p,xs[n] = .ref p/\SqT K H p [.int ns[n],ys[n]]
 | [],ks,vs,xs,ns,h,r,hi=>by
  cases h;cases hi;rw [r.inv_nil];exact⟨[],Reps.nil,rfl,rfl,λn h1=>by cases h1⟩
 | d::ps,ks,vs,xs,ns,h,r,hi=>by
  unfold kQ at h;split at h
  ·split at h
   ·rename_i k v
    obtain⟨⟨a,b⟩,e1,I⟩:=zy h;cases I;obtain⟨x,xr,rfl,h1,h2⟩:=r.inv_cons;cases k with
    | int j=>
     obtain⟨nr,O,S⟩:=zy hi;subst S;obtain⟨ys,i1,i2,i3,U⟩:=wR e1 h2 O;obtain⟨q,zs,rfl,z,Y⟩:=xA h1;obtain⟨y1,yr,rfl,Z,h6⟩:=Y.inv_cons;obtain⟨y2,aa,rfl,h7,h8⟩:=h6.inv_cons;rw [h8.inv_nil,ji Z]at z;refine⟨y2::ys,Reps.cons h7 i1,by simp [i2],by simp [i3],λn g1 g2 g3=>?_⟩;cases n with
     | zero=>exact⟨q,rfl,z⟩
     | succ n=>exact U n (by simpa using g1) (by simpa using g2) (by simpa using g3)
    | _=>cases hi
   ·cases h
  ·cases h
section
variable{X:Cx}{sc:Scope}{N L:List Str}{k:Nat}{a o i:Expr}{f:CO (List D)}{fd fk:CO D}{p pos:Pos}
theorem zaf(h:SX X sc N L k)(cd:kx sc "dict" = true)(zd:X.mg "dict" = none)(ha:PO X a f)(hs:starEach [a] X.env=[(false,eval a X.env)]:=by rfl) :
 PV X (.Call (.Name "dict" p) [a] [] pos) (XL f):=by
 intro pins s σ H Q I Y;obtain⟨H0,γ,d,rc,z,q⟩:=Y;obtain⟨ps,e1,z⟩:=bind_some z;obtain⟨⟨ds,es⟩,e2,z⟩:=bind_some z;have hh:X.A.handled=none:=I.ok.hd h.calm;unfold V8 at z;cases hi:Q8 ds with
 | none=>rw [show(ds,es).1=ds from rfl,hi]at z;cases z
 | some ns=>
  rw [show(ds,es).1=ds from rfl,hi]at z;dsimp only at z;by_cases Z:ds.length=es.length/\ns.Nodup/\ds.length<=lim
  ·rw [if_pos Z]at z
   cases z;refine Call_ (xt I (h.gl cd).1 zd PyProof.Rows.boot_dict (zi7 ?_ (by rw [hs];rfl) rfl));rw [hs];show wpAny _ _ (spliced ((false,eval a X.env)::[])) _ _ s;refine zk2 (thn (ha pins s σ H (λv H1=>∃l xs O,v = .ref l/\Ext H0 H O H1/\O l=none/\H1 l=some (.lst xs)/\Reps X.K O ps xs) I ⟨H0,γ,ps,rc,e1,λl xs H1 O x1 g1 g2 g3 S=>⟨l,xs,O,rfl,x1,g2,g3,S⟩⟩) λv s1 Y=>?_);obtain⟨y,H1,I1,ry,l,xs,O,rfl,x1,g2,g3,S⟩:=Y;cases ry;refine zlZ ?_;obtain⟨ys,r1,r2,r3,r4⟩:=wR e2 S hi;have kl:(ns.map (zjU (β:=Str))).length=ns.length:=by simp
   have nl:ns.length=ds.length:=by
    have:=(Jq e2).1;have:=S.length;omega
   refine Yj (H0:=O) (ks:=ns.map zjU) (ys:=ys) (xs:=xs) I1 hh x1.sub g3 (by rw [kl];exact r3) (by rw [kl];exact r2) (λn h1 h2 h3=>?_) ?_ λs' p U I3=>?_
   ·obtain⟨t,t1,t2⟩:=r4 n h1 (by simpa using h2) h3
    refine⟨t,t1,?_⟩;simpa [kV]using t2
   ·have:lim<=sizeLine:=by decide
    rw [kl];omega
   ·have ag:zag [] ((ns.map (zjU (β:=Str))).zip ys)=(ns.map zjU).zip ys:=by
     rw [w9 _ []]
     ·simp
     ·rw [zkA,List.map_fst_zip ⋯]
      exact JU Z.2.1
    rw [ag]at I3;exact⟨.ref p,_,I3,rfl,q (.ref p) _ _ ((x1.trans (Ext.hide x1.sub U _)).show (xq x1.s1 U) (jm x1.sub U) zL rc.sub)
     (show ∃a xs,V.ref p = .ref a/\DRp (upd O p _) a ds xs/\Reps X.K (upd O p _) es xs from⟨p,ys,rfl,⟨_,Zj hi,by omega,zL⟩,r1.mono (jt (jm x1.sub U) _)⟩)⟩
  ·rw [if_neg Z]at z;cases z
theorem zef(h:SX X sc N L k)(U:PV X o fd)(hi:PV X i fk)(Y:zhb i:=by intro _ _;rfl):PV X (.Subscript o i pos) (zd0 fd fk):=
 j3 (zcG (by have:=h.u64;omega) U hi Y) λσ H Q Z=>by
  obtain⟨H0,γ,d,rc,z,q⟩:=Z;obtain⟨d1,e1,z⟩:=bind_some z;obtain⟨k1,e2,z⟩:=bind_some z;cases d1 with
  | dic ks vs=>
   obtain⟨j,e3,e4⟩:=bind_some z;refine⟨H0,γ,_,rc,e1,λv H1 I x r=>⟨I,γ,_,rc.ext x,e2,λy H2 a4 O r2=>?_⟩⟩;obtain⟨ad,xs,rfl,⟨kk,g1,g2,g3⟩,g4⟩:=(show ∃a xs,v = .ref a/\DRp I a ks xs/\Reps X.K I vs xs from r);rw [jw e3]at r2;have hy:y = .int j:=r2;obtain⟨S,c3,c4⟩:=(ZX (i:=j) g1 g2 (g4.mono O.s0)).1 d e4;refine⟨ad,S,rfl,?_,q S H2 a4 (x.trans O) c4⟩;rw [hy,<- c3];exact .inl ⟨_,zjU j,.inl (O.s1 _ _ (x.sub _ _ g3)),rfl,rfl⟩
  | _=>cases z
theorem zcr(h:SX X sc N L k)(hi:PV X i fk)(Z:PV X o fd)(hm:behindInMarks .In o=false:=by with_unfolding_all rfl):PTD X (.Compare i [.In] [o] pos) (sB (zdA fk fd)):=
 JK (zel (zeF (by have:=h.u64;omega) hi Z) hm) λσ H Q hZ=>by
  obtain⟨H0,γ,b,rc,z,q⟩:=hZ;obtain⟨db,e0,eb⟩:=bind_some z;obtain⟨k1,e1,z⟩:=bind_some e0;obtain⟨d1,e2,z⟩:=bind_some z;cases d1 with
  | dic ks vs=>
   obtain⟨j,e3,e4⟩:=zy z;subst e4;cases eb;refine⟨H0,γ,_,rc,e1,λy H1 a7 x S=>⟨a7,γ,_,rc.ext x,e2,λv H2 I O r=>?_⟩⟩;obtain⟨ad,xs,rfl,⟨kk,g1,g2,U⟩,g4⟩:=(show ∃a xs,v = .ref a/\DRp I a ks xs/\Reps X.K I vs xs from r);rw [jw e3]at S;have Y:y = .int j:=S;obtain⟨c1,c2⟩:=ZX (i:=j) g1 g2 g4;cases hv:Ka ks vs j with
   | none=>
    refine⟨ad,none,rfl,?_,_,rfl,?_⟩
    ·rw [Y,<- c2 hv]
     exact .inl ⟨_,zjU j,.inl (O.sub _ _ U),rfl,rfl⟩
    ·rw [hv]at q;exact q H2 I (x.trans O)
   | some dv=>
    obtain⟨vv,c3,c4⟩:=c1 dv hv;refine⟨ad,some vv,rfl,?_,_,rfl,?_⟩
    ·rw [Y,<- c3]
     exact .inl ⟨_,zjU j,.inl (O.sub _ _ U),rfl,rfl⟩
    ·rw [hv]at q;exact q H2 I (x.trans O)
  | _=>cases z
end
end DL
namespace DL
open PySem PySem.Spec PyProof.Rows L2
open PySem.W (KasT kas_sort kas_ask kat_run kat_snds kat_lt kat_cons kat_no kat_yes kat_nil kat_go kat_one kat_kind KatTups KatGo)
section
variable{prog:Program}{w:World}{A:Around}{E:Value->Shared->Prop}{s:Shared}
theorem X7{a kS:Addr}{O:List Value}{z:List Value}{e e1:Nat}{P:PySem.Fin->Shared->Prop}{st:SortSt}(S:s.heap.get? kS=some (seqObj "list" O.toArray e))(ha:s.heap.get? a=some (seqObj "list" #[] e1))(U:kS≠a)(Y:O.length<=sizeLine)(Z:z.length<=sizeLine)
 (ho:(arrOf st).map (·.2)=z.toArray) (hf:failedOf st=none)
 (h : ∀h' c,h'.objs.size=s.heap.objs.size->(∀b o,b≠a->b≠kS->s.heap.get? b=some o->h'.get? b=some o)->h'.get? a=some (seqObj "list" z.toArray c)->P (.done (.ret .none)) {s with heap:=h'}) :
 wpAny (model prog w) A (ksk_tail a false e1 (.ref kS) st) P E s:=by
 unfold ksk_tail;refine zid (zkM S rfl ?_ (by rw [zir];exact Y) (zjj _));refine zid (zkq ?_);have I:(s.heap.update kS (ziT λ_=>(#[]:Array Value))).get? a=some (seqObj "list" #[] e1):=(zju _ _ U).trans ha;refine zid (zl4 I rfl ?_);simp only [zjR,if_false];rw [ho];refine zid (zkM I rfl ?_ (zjj _) (by show z.toArray.size<=_;rw [zir];exact zlh Z));rw [hf];simp only [bne_self_eq_false,zjR,if_false];obtain⟨c,hc⟩ : ∃c,((s.heap.update kS (ziT λ_=>(#[]:Array Value))).update a (ziT λ_=>z.toArray)).get? a=some (seqObj "list" z.toArray c):=⟨_,zlJ I λ_=>z.toArray⟩;refine zik (h _ c (by rw [zkb,zkb]) (λb o h1 h2 q=>?_) hc);exact(zju _ _ (zi6 h1)).trans ((zju _ _ (zi6 h2)).trans q)
theorem zcY{a kS:Addr}{vs z:List Value}{ps:List (Int×Int)}{e e1:Nat}{P:PySem.Fin->Shared->Prop}(hk:s.heap.get? kS=some (seqObj "list" z.toArray e))(ha:s.heap.get? a=some (seqObj "list" #[] e1))(a6:kS≠a)(a7:z.length=vs.length)(Z:ps.length=vs.length)(ae:vs.length<64)
 (hT : ∀i (hi:i<z.length),TupAt2 s.heap z[i] (ps.getD i (0,0)).1 (ps.getD i (0,0)).2)
 (h : ∀h' c,h'.objs.size=s.heap.objs.size->(∀b o,b≠a->b≠kS->s.heap.get? b=some o->h'.get? b=some o)->h'.get? a=some (seqObj "list" (zkj ((jO ps).map λi=>vs.getD i ziV)) c)->P (.done (.ret .none)) {s with heap:=h'}) :
 wpAny (model prog w) A (ksk_end a false vs.toArray e1 (.ref kS) z.toArray) P E s:=by
 have hz:vs.length<=sizeLine:=by rw [zkr];omega
 have hsz:vs.toArray.size=vs.length:=by simp
 have b6:((jO ps).map λi=>vs.getD i ziV).length=vs.length:=by
  rw [ziD,(jA ps).length_eq,zjm,Z]
 have step : ∀t:Sem PySem.Fin,wpAny (model prog w) A t P E s->wpAny (model prog w) A (if false=true then (do let _ <- rule "list.sort.reverse";t)else t) P E s:=λt ht=>ht;unfold ksk_end
 try dsimp only
 refine step _ ?_;by_cases h2:vs.toArray.size<2
 ·rw [if_pos h2,if_pos h2]
  refine zid (zik ?_);rw [StateT.run_pure];refine zid (zik ?_);dsimp only;have ev:(jO ps).map (λi=>vs.getD i ziV)=vs:=by
   unfold jO;rw [if_pos ⋯,Z];exact z9 _ _
  have e7:Array.map (λx=>x.snd) (arrOf (SortSt.mk' general' (z.toArray.zip vs.toArray) #[] 7 none))=((jO ps).map (λi=>vs.getD i ziV)).toArray:=by
   show Array.map (λx=>x.snd) (z.toArray.zip vs.toArray)=_;rw [ev];apply Array.ext';simp [Array.toList_map,Array.toList_zip];rw [List.map_snd_zip ⋯]
  exact X7 hk ha a6 ⋯ ⋯ e7 rfl h
 ·rw [if_neg h2,if_neg h2]
  have n2:2<=vs.length:=by rw [<- hsz];omega
  obtain⟨fs,f1,f2,f3⟩:=VG (ks:=λi=>(ps.getD i (0,0)).1) λi hi=>(hT i hi).one;refine zid (kat_kind (T:=zkm "int") f1 ⋯ (λv hv=>?_) ⋯ ?_)
  ·obtain⟨k,t,rfl⟩:=f3 v hv
   exact PySem.W.Looks.of_pure rfl
  have ep:(qO (λi j=>kG (ps.getD i (0,0)) (ps.getD j (0,0))) (kas_sort vs.length)).toList=jO ps:=by
   unfold jO;rw [if_neg ⋯,Z]
  refine zid (zjW (kat_run (E:=E) (ks:=z) (Q:=λY s'=>∃p:Array Nat,arrOf Y=p.map (PySem.W.kas_item (z.toArray.zip vs.toArray))/\failedOf Y=none/\p.toList=jO ps/\s'=s)
   (G:=λp s'=>p.toList=jO ps/\s'=s)
   a7 n2 ae (λp Y s' a1 a2 a3 a4=>⟨p,a2,a3,a4.1,a4.2⟩) (Q9 (lt:=λi j=>kG (ps.getD i (0,0)) (ps.getD j (0,0))) (λi j C hi hj I=>?_) (we ⋯) ⟨ep,rfl⟩)) ?_ λ_ _ e=>e)
  ·show wpAny _ _ (keyLt' _ (z.getD i ziV) (z.getD j ziV)) C _ _
   have a9:i<z.length:=by omega
   have aa:j<z.length:=by omega
   rw [show z.getD i ziV=z[i]by simp [a9],show z.getD j ziV=z[j]by simp [aa]];obtain⟨x,ox,xs,m,t,u,e1,e2,e3,e4,e5⟩:=hT i a9;obtain⟨y,oy,ys,m',t',u',d1,d2,d3,d4,d5⟩:=hT j aa;rw [e1,d1];refine kat_lt e2 e4 d2 d4 ?_;have aw:xs.size=2:=by rw [<- zjA,e5];rfl
   have ax:ys.size=2:=by rw [<- zjA,d5];rfl
   rw [e5,d5,aw,ax,zkf,zkf];unfold kG at I;generalize ps.getD i (0,0)=S at I ⊢;generalize ps.getD j (0,0)=U at I ⊢;refine kat_cons (zks S.1 t U.1 t' _ _ _ _ ?_);refine kat_go (λO=>?_) λO=>?_
   ·have O:S.1=U.1:=by simpa using O
    rw [if_pos O]at I;refine kat_yes (kat_cons (zks S.2 u U.2 u' _ _ _ _ (kat_go (λhd=>?_) λhd=>?_)))
    ·have hd:S.2=U.2:=by simpa using hd
     refine kat_yes (kat_nil ?_);rw [show decide (S.2<U.2)=false by rw [hd];simp]at I;exact I
    ·exact kat_no (kat_one _ _ (lt_int I))
   ·have O:S.1≠U.1:=by simpa using O
    rw [if_neg O]at I;exact kat_no (oneLt_int I)
  rintro⟨⟨⟩,Y⟩ s' ⟨p,ay,hf,hp,rfl⟩;dsimp only;have ad:=kat_snds a7 ay;rw [hp]at ad;exact X7 hk ha a6 ⋯ ⋯ ad hf h
end
end DL
namespace DL
open PySem PySem.Spec PyProof.Rows L2
section
variable{X:Cx}{pins:List (Addr×Obj)}{σ:St}{H:Hp}{s:Shared}{a:Addr}{o:HO}
theorem VL(I:Inv X pins σ H s)(f:FpOk X pins H a)(new:ObjOk X.prog X.w (upd H a o) s.heap a o):Inv X pins σ (upd H a o) s:=by
 obtain⟨Z,f2,f3,f4,f5,f6⟩:=f;have ne : ∀b u,H b=some u->b≠a:=λb u q z=>by rw [z,Z]at q;cases q
 refine⟨I.ok,I.os,I.bare,⟨I.base.keep,I.base.slot,λb S q n hx=>?_,I.base.there,λb xs q=>?_,λb S u q=>?_,λb ps q=>?_⟩,I.loc,I.cell,?_,λx c e=>?_,λp Y=>?_,λb u e=>?_,I.len⟩
 ·have O:b≠a:=λz=>by
   rcases f4 with U | U
   ·exact hx (z ▸ U)
   ·have:=ziw q
    rw [z]at this;exact absurd this (Nat.not_lt_of_le U)
  rw [zG O];exact I.base.free b S q n hx
 ·have:=I.base.tups b xs q
  rw [zG (ne b _ this)];exact this
 ·have:=I.base.frzs b S u q
  rw [zG (ne b _ this)];exact this
 ·obtain⟨m,this⟩:=I.base.tbls b ps q
  exact⟨m,by rw [zG (ne b _ this)];exact this⟩
 ·rw [zG (zi6 f2)];exact I.free
 ·rw [zG (f5 x c e)];exact I.freeC x c e
 ·obtain⟨e,n,r⟩:=I.pin p Y
  exact⟨e,by rw [zG (f6 p Y)];exact n,r⟩
 ·by_cases O:b=a
  ·subst O;rw [zL]at e;cases e;exact new
  ·rw [zG O]at e
   exact(I.hok b u e).stay (λ_ _ _ q=>q) (λc q=>by rw [zG (ne c _ q)];exact q) λc xs q=>by rw [zG (ne c _ q)];exact q
theorem zck{A:Around}{Q:VK}{us:List Value}{vs:List V}{CX:CXT}{k:Nat}{f:Addr}{fd:FuncData}{ps:List Str}{sp:Sp}(F:FnOk X.prog X.w X.K X.mg X.base CX0 k f fd ps sp)(O:Room k A)(S:Env0 X.prog X.w X.K X.mg X.base A X.stack s H)(U:Binds X.K fd ps [])
 (I:Inv X pins σ H s) (r:Vals vs us) (h:sp vs H Q E0):wpAny (model X.prog X.w) A (call (.ref f) us) (EP X pins σ Q) (λ_ _=>False) s:=by
 have Y:us.length=ps.length:=by rw [<- r.length];exact F.len _ _ _ _ h
 refine wpAny_call (zlK (F.run A X.stack s H ⟨us,[]⟩ us vs Q E0 O S (by simpa using U s us I.kIn (by simpa using Y)) r h) λr s' z=>?_);cases r with
 | error e=>exact z.elim
 | ok Z=>
  cases Z with
  | ret u=>exact I.after z
  | next=>exact zj2 z
  | brk=>exact zj2 z
  | cont=>exact zj2 z
theorem zd4{kS:Addr}{ok O:Obj}(I:Inv X pins σ H s)(fk:FpOk X pins H kS)(fa:FpOk X pins H a)(S:s.heap.get? kS=some ok)(ha:s.heap.get? a=some O)(U : ∀v,ok.data ≠ .cell v)(Y : ∀v,O.data ≠ .cell v):Inv X (pins++[(kS,ok),(a,O)]) σ H s:=
 I.pins_of λp z=>by
  rcases zkB.mp z with z | z
  ·exact I.pin p (ziG _ z)
  ·rcases ziq.mp z with rfl | z
   ·exact⟨S,fk.1,fk.2.1,fk.2.2.1,U⟩
   ·rw [zkg.mp z];exact⟨ha,fa.1,fa.2.1,fa.2.2.1,Y⟩
theorem zdH{more:List (Addr×Obj)}(I:Inv X (pins++more) σ H s):Inv X pins σ H s:=I.pins_of λp z=>I.pin p (ziG _ (zlD _ z))
end
def JR(ps:List (Int×Int)):List D:=ps.map λp=>D.tup [.int p.1,.int p.2]
section
variable{X:Cx}{pins:List (Addr×Obj)}{σ:St}{F:List D->Option Res}{k:Nat}{f:Addr}{fd:FuncData}{pr:List Str}{A:Around}{E:Value->Shared->Prop}
theorem zb0{H H0:Hp}{s:Shared}{i j:Int}{v:V}{u:Value}(I:Inv X pins σ H s)(sub:Same H0 H)(r:Rep X.K H0 (.tup [.int i,.int j]) v)(ru:RelV v u):TupAt2 s.heap u i j:=by
 obtain⟨b,zs,rfl,Y,h4⟩:=xA r;obtain⟨y,yr,e5,h5,h6⟩:=h4.inv_cons;obtain⟨y2,ad,Z,h7,h8⟩:=h6.inv_cons;rw [h8.inv_nil]at Z;rw [e5,Z,ji h5,ji h7]at Y;cases ru;obtain⟨a7,r2,⟨o,ho,hc,n,hd⟩,_⟩:=I.tuple (sameT sub Y);obtain⟨z,O,rfl,S,U⟩ : ∃z O,a7=z::O/\RelV (.int i) z/\Vals [.int j] O:=by
  cases r2 with
  | cons S U=>exact⟨_,_,rfl,S,U⟩
 obtain⟨v2,rfl,q3⟩:=xR U;obtain⟨t,rfl⟩:=S;obtain⟨u,rfl⟩:=q3;exact⟨b,o,_,n,t,u,rfl,ho,hc,hd,rfl⟩
theorem zaU{a kS:Addr}{vs:List Value}{xs:List V}{ds:List D}{ps:List (Int×Int)}{e1:Nat}{P:PySem.Fin->Shared->Prop}{H0 H:Hp}{s:Shared}
 (G:FnOk X.prog X.w X.K X.mg X.base CX0 k f fd pr (spF X.K pr.length F)) (h1:pr.length=1) (hr:Room k A) (ap:A.frames=some X.stack) (O:Binds X.K fd pr [])
 (I:Inv X pins σ H s) (sub:Same H0 H) (rv:Vals xs vs) (rd:Reps X.K H0 ds xs) (af:ps.length=vs.length) (aq:vs.length<64)
 (hF : ∀(i:Nat) d p,ds[i]? = some d->ps[i]? = some p->F [d]=some (.val (.tup [.int p.1,.int p.2])))
 (hk:s.heap.get? kS=some (seqObj "list" #[] 0)) (ha:s.heap.get? a=some (seqObj "list" #[] e1)) (ag:kS≠a) (fk:FpOk X pins H kS) (fa:FpOk X pins H a)
 (h : ∀s' H' H0' c,Inv X pins σ H' s'->Ext H0 H H0' H'->s'.heap.get? a=some (seqObj "list" (zkj ((jO ps).map λi=>vs.getD i ziV)) c)->FpOk X pins H' a->P (.done (.ret .none)) s') :
 wpAny (model X.prog X.w) A (ksk_rest a (.ref f) false vs.toArray e1 (.ref kS)) P E s:=by
 have bc:=rv.length;have bd:=rd.length;have hz:vs.length<=sizeLine:=by rw [zkr];omega
 unfold ksk_rest;refine zid (zkG ?_);rw [List.forIn_toArray];refine zid (ksk_fold (λj s'=>∃H1 Z S e,Inv X (pins++[(kS,seqObj "list" S e),(a,seqObj "list" #[] e1)]) σ H1 s'/\Ext H0 H Z H1/\∃kvs:List V,Vals kvs S.toList/\Reps X.K Z (JR (ps.take j)) kvs) vs 0 s
  ⟨H,H0,#[],0,zd4 I fk fa hk ha (λv z=>by cases z) (λv z=>by cases z),Ext.refl sub,[],.nil,Reps.nil⟩ ?step ?done)
 case step=>
  rintro j x s' hx ⟨H1,Z,S,e,U,x1,kvs,a1,Y⟩;simp only [zi1]at Y ⊢;have hj:j<vs.length:=(zit.mp hx).1;have hp:ps[j]? = some ps[j]:=zih ⋯;have hd:ds[j]? = some ds[j]:=zih ⋯;have ai:xs[j]? = some xs[j]:=zih ⋯;obtain⟨u',aj,as⟩:=rv.get ai;rw [hx]at aj;cases aj;obtain⟨x',ak,au⟩:=rd.get hd;rw [ai]at ak;cases ak;have env:Env0 X.prog X.w X.K X.mg X.base A X.stack s' H1:=⟨ap,U.env0.mod,U.env0.bs,U.env0.bsz,U.env0.funs,U.env0.frf,U.env0.hok,U.env0.bare⟩;refine zid (zke (zjW (zck (CX:=CX0) (Q:=λv H'=>∃H0',Ext Z H1 H0' H'/\Rep X.K H0' (.tup [.int ps[j].1,.int ps[j].2]) v) G hr env O U (vs:=[xs[j]]) (us:=[x]) (.cons as .nil)
   ⟨Z,[ds[j]],_,x1.sub,Reps.cons (au.mono x1.s0) Reps.nil,by rw [h1];rfl,hF j _ _ hd hp,λv H' H0' x2 r2=>⟨H0',x2,r2⟩⟩) (λv a4 he=>?_) λ_ _ hF=>hF.elim))
  obtain⟨vv,H2,I2,ax,ay,x2,r2⟩:=he
  try dsimp only
  obtain⟨nk,a8,_⟩:=I2.pin (kS,seqObj "list" S e) (ziG _ (ziG _ (.head _)));obtain⟨na,aa,_⟩:=I2.pin (a,seqObj "list" #[] e1) (ziG _ (ziG _ (.tail _ (.head _))));have az:=zdH I2;have a5:FpOk X pins H2 kS:=⟨a8,fk.2⟩;have a6:FpOk X pins H2 a:=⟨aa,fa.2⟩;have kl:S.size=j:=by
   have:=a1.length;have:=Y.length;simp only [JR,ziD,zkR,zjA]at *;omega
  refine zid (zkM nk rfl ?_ (by rw [kl,zkr];omega) (zjt (Nat.le_of_eq (Array.size_push ..)) (by rw [kl,zkr];omega)));obtain⟨c2,b0⟩ : ∃c2,(a4.heap.update kS (ziT (·.push v))).get? kS=some (seqObj "list" (S.push v) c2):=⟨_,zlJ nk (·.push v)⟩;have I3:=az.turnedL (h':=a4.heap.update kS (ziT (·.push v))) (t':=a4.toks) (fp:=[kS]) (λb o O q=>(zju _ _ (λz=>O (by rw [z];exact List.mem_singleton_self _))).trans q) (λb O=>by rw [zkg.mp O];exact a5);have b6:(a4.heap.update kS (ziT (·.push v))).get? a=some (seqObj "list" #[] e1):=(zju _ _ ag).trans na;refine zik ⟨rfl,H2,ay,S.push v,c2,zd4 I3 a5 a6 b0 b6 (λv z=>by cases z) (λv z=>by cases z),x1.trans x2,kvs++[vv],?_,?_⟩
  ·rw [Array.toList_push];exact a1.append (.cons ax .nil)
  ·have ek:ps.take (j+1)=ps.take j++[ps[j]]:=by rw [List.take_add_one,hp];simp
   rw [ek];unfold JR at Y ⊢;rw [zjf];exact(Y.mono x2.s0).append (Reps.cons r2 Reps.nil)
 case done=>
  rintro s' ⟨H1,Z,S,e,U,x1,kvs,a1,Y⟩;rw [zi1,<- af,List.take_length]at Y;obtain⟨nk,a8,_⟩:=U.pin (kS,seqObj "list" S e) (ziG _ (ziG _ (.head _)));obtain⟨na,aa,_⟩:=U.pin (a,seqObj "list" #[] e1) (ziG _ (ziG _ (.tail _ (.head _))));have am:=zdH U;have a5:FpOk X pins H1 kS:=⟨a8,fk.2⟩;have a6:FpOk X pins H1 a:=⟨aa,fa.2⟩
  try dsimp only
  refine zid (listItems_at nk rfl ?_);have l1:=a1.length;have l2:=Y.length;simp only [JR,ziD]at l2;have ek:S=S.toList.toArray:=by simp
  rw [ek]at nk ⊢;refine zcY nk na ag ⋯ af aq (λi hi=>?_) λh' c hsz kp hA=>?_
  ·have b8:i<ps.length:=by omega
   obtain⟨y,ey,ry⟩:=Y.get (i:=i) (d:= .tup [.int (ps.getD i (0,0)).1,.int (ps.getD i (0,0)).2]) (by unfold JR;simp [b8]);obtain⟨u,hu,ru⟩:=a1.get ey;have:S.toList[i]=u:=by rw [zih hi]at hu;exact zji hu
   rw [this];exact zb0 am x1.sub ry ru
  ·have I2:=am.turnedL (h':=h') (t':=s'.toks) (fp:=[a,kS]) (λb o O q=>kp b o (λz=>O (by rw [z];simp)) (λz=>O (by rw [z];simp)) q) (λb O=>by
    rcases ziq.mp O with rfl | O
    ·exact a6
    ·rw [zkg.mp O];exact a5)
   exact h _ H1 Z c I2 x1 hA a6
end
def zcI:Res->Option (Int×Int)
 | .val d=>match d with
  | .tup ds=>match ds with
   | [x,y]=>(asI x).bind λi=>(asI y).map λj=>(i,j)
   | _=>none
  | _=>none
 | .own _=>none
def J2(F:List D->Option Res):List D->Option (List (Int×Int))
 | []=>some []
 | d::r=>((F [d]).bind zcI).bind λp=>(J2 F r).map λl=>p::l
def XG(F:List D->Option Res)(f:CO (Sk×List D)):CO (List D):=λγ=>(f γ).bind λa=>match a.1 with
 | .L=>(J2 F a.2).bind λps=>if a.2.length<64 then some ((jO ps).map λi=>a.2.getD i .non)else none
 | _=>none
theorem Jn{xs:List V}{vs:List Value}(z:Vals xs vs) : ∀(o:List Nat),(∀i∈o,i<xs.length)->Vals (o.map λi=>xs.getD i .non) (o.map λi=>vs.getD i ziV)
 | [],_=> .nil
 | i::o,h=>by
  have hi:=h i ziv;refine .cons ?_ (Jn z o λj I=>h j (ziu _ I));obtain⟨v,O,g2⟩:=z.get (i:=i) (x:=xs[i]) (zih hi);show RelV (xs.getD i V.non) (vs.getD i ziV);rw [zil,zil,zih hi,O];exact g2
section
variable{X:Cx}{pins:List (Addr×Obj)}{σ:St}{F:List D->Option Res}{k:Nat}{f:Addr}{fd:FuncData}{pr:List Str}
theorem K8{l:Addr}{vs:List Value}{xs:List V}{ds:List D}{ps:List (Int×Int)}{H0 H:Hp}{s:Shared}{Q:Value->Shared->Prop}{E:Value->Shared->Prop}
 (G:FnOk X.prog X.w X.K X.mg X.base CX0 k f fd pr (spF X.K pr.length F)) (h1:pr.length=1) (hr:Room (k+1+1) X.A) (O:Binds X.K fd pr [])
 (I:Inv X pins σ H s) (sub:Same H0 H) (hl:s.heap.IsList l vs.toArray) (Y:Vals xs vs) (rd:Reps X.K H0 ds xs) (a0:ps.length=vs.length) (a7:vs.length<64)
 (hF : ∀(i:Nat) d p,ds[i]? = some d->ps[i]? = some p->F [d]=some (.val (.tup [.int p.1,.int p.2])))
 (h : ∀s' H' H0' D,H D=none->H' D=none->Ext H0 H H0' H'->Inv X pins σ (upd H' D (.lst ((jO ps).map λi=>xs.getD i .non))) s'->Q (.ref D) s') :
 wpAny (model X.prog X.w) X.A (call (.builtin "sorted") [.ref l] [(zi0 "key",.ref f)]) Q E s:=by
 have ag:=Y.length;have S:vs.length<=sizeLine:=by rw [zkr];omega
 refine call_function_entry_kw kind_sorted plain_sorted entry_sorted (ksk_s1 _ _) ?_;unfold Builtin.«sorted»;refine zid (m:=checkCount "sorted" 1 1 _) (zik ?_);refine zid (collect_list hl ?_ S);refine zid (zmb ?_ S);have hsz:((s.heap.push (seqObj "list" #[] 0)).update s.heap.objs.size (ziT (· ++ vs.toArray))).objs.size=s.heap.objs.size+1:=by
  rw [zkb,zmf]
 have U:(((s.heap.push (seqObj "list" #[] 0)).update s.heap.objs.size (ziT (· ++ vs.toArray))).push (seqObj "list" vs.toArray 0)).get? (s.heap.objs.size+1)=some (seqObj "list" vs.toArray 0):=by
  rw [<- hsz];exact zix _ rfl
 have keep : ∀b o,s.heap.get? b=some o->(((s.heap.push (seqObj "list" #[] 0)).update s.heap.objs.size (ziT (· ++ vs.toArray))).push (seqObj "list" vs.toArray 0)).get? b=some o:=λb o q=>by
  have Z:b<s.heap.objs.size:=ziw q;rw [zko _ _ _ (by rw [hsz];exact ziI (zjb Z)),zlI _ _ _ _ (ziI Z),zko _ _ _ (ziI Z)];exact q
 have a1:(((s.heap.push (seqObj "list" #[] 0)).update s.heap.objs.size (ziT (· ++ vs.toArray))).push (seqObj "list" vs.toArray 0)).objs.size=s.heap.objs.size+2:=by
  rw [zmf,hsz]
 show wpAny _ _ _ _ _ {s with heap:=((s.heap.push (seqObj "list" #[] 0)).update s.heap.objs.size (ziT (· ++ vs.toArray))).push (seqObj "list" vs.toArray 0)};rw [hsz];generalize ((s.heap.push (seqObj "list" #[] 0)).update s.heap.objs.size (ziT (· ++ vs.toArray))).push (seqObj "list" vs.toArray 0)=g at U keep a1 ⊢;have Ig:Inv X pins σ H {s with heap:=g}:=I.kept (t':=s.toks) keep;have fa:FpOk X pins H (s.heap.objs.size+1):=I.fpOk (zk1 _) (I.hok.fresh (zk1 _));refine zid (zjH (wpAny_call_entry_kw slot_list_sort ⟨_,U,rfl⟩ entry_list_sort ?body (ksk_l1 _ _)))
 case body=>
  show wpAny (model X.prog X.w) X.A.in1.in1 (Builtin.«list.sort» ⟨[.ref (s.heap.objs.size+1)],[(zi0 "key",.ref f)]⟩) _ _ _;rw [ksk_t1];unfold ksk_tree;refine zid (listItems_at U rfl ?_);refine zid (zkM U rfl ?_ (by rw [zir];exact S) (zjj _));obtain⟨e1,a2⟩ : ∃e1,(g.update (s.heap.objs.size+1) (ziT λ_=>(#[]:Array Value))).get? (s.heap.objs.size+1)=some (seqObj "list" #[] e1):=⟨_,zlJ U λ_=>#[]⟩;refine zid (zl4 a2 rfl ?_);refine zid (zln ?_ (by show vs.length<=_;exact S));refine zid (zmb ?_ (zjj _));refine zjH ?_;have I1:=Ig.turnedL (h':=g.update (s.heap.objs.size+1) (ziT λ_=>(#[]:Array Value))) (t':=s.toks) (fp:=[s.heap.objs.size+1]) (λb o O q=>(zju _ _ (λz=>O (by rw [z];exact List.mem_singleton_self _))).trans q) (λb O=>by rw [zkg.mp O];exact fa);have I2:=I1.kept (h':=((g.update (s.heap.objs.size+1) (ziT λ_=>(#[]:Array Value))).push (seqObj "tuple" vs.toArray 0)).push (seqObj "list" #[] 0)) (t':=s.toks) (λb o q=>zif _ (zif _ q));have ks:((g.update (s.heap.objs.size+1) (ziT λ_=>(#[]:Array Value))).push (seqObj "tuple" vs.toArray 0)).objs.size=s.heap.objs.size+3:=by rw [zmf,zkb,a1]
  have fk:FpOk X pins H (s.heap.objs.size+3):=I.fpOk (ziL _ _) (I.hok.fresh (ziL _ _));refine zaU (A:=X.A.in1.in1) (ps:=ps) (xs:=xs) (ds:=ds) (H0:=H0) (H:=H) (s:={s with heap:=((g.update (s.heap.objs.size+1) (ziT λ_=>(#[]:Array Value))).push (seqObj "tuple" vs.toArray 0)).push (seqObj "list" #[] 0)}) (kS:=((g.update (s.heap.objs.size+1) (ziT λ_=>(#[]:Array Value))).push (seqObj "tuple" vs.toArray 0)).objs.size)
   G h1 hr.in1.in1 I.env0.in1.in1.frames O I2 sub Y rd a0 a7 hF (zix _ rfl) (zif _ (zif _ a2)) (by rw [ks];exact λz=>absurd (Nat.add_left_cancel z) ⋯) (by rw [ks];exact fk) fa λs' H' H0' c I3 x3 hA fA=>⟨_,rfl,?_⟩
  refine zik ⟨_,rfl,h s' H' H0' _ (I.hok.fresh (zk1 _)) fA.1 x3 (VL I3 fA ?_)⟩;have ae : ∀i∈jO ps,i<xs.length:=λi hi=>by
   have:=(jA ps).mem_iff.mp hi;have:=zig.mp this;omega
  have af:((jO ps).map λi=>xs.getD i V.non).length=vs.length:=by rw [ziD,(jA ps).length_eq,zjm,a0]
  exact⟨by rw [af];exact S,(jO ps).map λi=>vs.getD i ziV,c,Jn Y _ ae,hA⟩
end
theorem J1{F:List D->Option Res} : ∀{ds:List D} {ps:List (Int×Int)},J2 F ds=some ps->ps.length=ds.length
 | [],ps,h=>by cases h;rfl
 | d::r,ps,h=>by
  obtain⟨p,_,h2⟩:=bind_some h;obtain⟨l,z,I⟩:=zy h2;subst I;simp [J1 z]
theorem K0{r:Res}{p:Int×Int}(h:zcI r=some p):r = .val (.tup [.int p.1,.int p.2]):=by
 unfold zcI at h;split at h
 ·split at h
  ·split at h
   ·obtain⟨i,h1,h2⟩:=bind_some h
    obtain⟨j,z,I⟩:=zy h2;subst I;rw [jw h1,jw z]
   ·cases h
  ·cases h
 ·cases h
theorem X6{F:List D->Option Res} : ∀{ds:List D} {ps:List (Int×Int)},J2 F ds=some ps->∀(i:Nat) d p,ds[i]? = some d->ps[i]? = some p->F [d]=some (.val (.tup [.int p.1,.int p.2]))
 | [],ps,h,i,d,p,hd,hp=>by simp at hd
 | c::r,ps,h,i,d,p,hd,hp=>by
  obtain⟨q,h1,h2⟩:=bind_some h;obtain⟨l,z,I⟩:=zy h2;subst I;cases i with
  | zero=>
   simp at hd hp;subst hd hp;obtain⟨S,e1,O⟩:=bind_some h1;rw [e1,K0 O]
  | succ i=>exact X6 z i d p (by simpa using hd) (by simpa using hp)
section
variable{X:Cx}{sc:Scope}{N L:List Str}{k j:Nat}{e:Expr}{fq:CO (Sk×List D)}{F:List D->Option Res}{x:Str}{p p2 pos kpos:Pos}
theorem zas(hf:FnD X.prog X.w X.K X.mg X.base j x 1 F)(h:SX X sc N L k)(hj:j+1+1<=k)(c:kx sc "sorted" = true)(z:X.mg "sorted" = none)(c2:kx sc x=true)(hq:PQ X e fq)
 (Z:starEach [e] X.env=[(false,eval e X.env)]:=by rfl) :
 PO X (.Call (.Name "sorted" p) [e] [⟨some "key",.Name x p2,kpos⟩] pos) (XG F fq):=by
 intro pins s σ H Q I hZ;obtain⟨H0,γ,aa,rc,O,q⟩:=hZ;obtain⟨⟨kk,ds⟩,e1,O⟩:=bind_some O;obtain⟨fa,fd,pr,hn,G,hm,hk,hb⟩:=hf.ex;cases kk with
 | T=>cases O
 | L=>
  have O:((J2 F ds).bind λps=>if ds.length<64 then some ((jO ps).map λi=>ds.getD i .non)else none)=some aa:=O;obtain⟨ps,e2,O⟩:=bind_some O;by_cases hc:ds.length<64
  ·rw [if_pos hc]at O
   cases O;refine zkL (xt (u:= .builtin "sorted") I (h.gl c).1 z ⋯ (callWith_kw ?_ (by rw [Z];rfl) (by rw [Z];rfl)) ⋯ ⋯);refine thn ((jr hq qg Z) pos pins s σ H (λvs H1=>∃a xs S,vs=[.ref a]/\Ext H0 H S H1/\SqL X.K H1 a xs/\Reps X.K S ds xs) I ⟨H0,γ,.L,ds,rc,e1,λa xs H1 S x1 g1 g2 U=>⟨a,xs,S,rfl,x1,g1,U⟩⟩) λus s1 hZ=>?_;obtain⟨vs,H1,I1,rv,a,xs,S,rfl,x1,g1,U⟩:=hZ;obtain⟨u,rfl,ru⟩:=xR rv;cases ru;show wpAny _ _ (evalAll ((do let v <- eval (.Name x p2) X.env;standAt pos;pure v)::[])) _ _ s1;refine wpAny_evalAll_cons (zid (VA I1 (h.gl c2).1 hm (zid (zma (zik ?_))) (h.gl c2).2.2));refine wpAny_evalAll_nil ?_;obtain⟨ae,r,pl,hz⟩:=I1.list g1;have l1:=r.length;have l2:=U.length;have l3:=J1 e2;show wpAny _ _ (call (.builtin "sorted") [.ref a] [(zi0 "key",.ref fa)]) _ _ s1;refine K8 (H0:=S) (ps:=ps) (xs:=xs) (ds:=ds) (vs:=ae) (F:=F) G hn (h.room.mono hj) hb I1 x1.sub pl.isList r U ⋯ ⋯ (X6 e2) λs' H' H0' D hD a6 Y I3=>?_;refine⟨.ref D,_,I3,rfl,q D _ _ H0' (x1.trans (Y.trans (Ext.hide Y.sub a6 _))) (xq x1.s1 hD) (jm Y.sub a6) zL ?_⟩;refine vL (U.mono Y.s0) _ λi hi=>?_;have:=(jA ps).mem_iff.mp hi;have:=zig.mp this;omega
  ·rw [if_neg hc]at O;cases O
end
def QN(j:Nat)(g gi f:CO D):CO Fl:=λγ=>(f γ).bind λd=>(ZG j g γ).bind λt=>((gi γ).bind asI).bind λi=>(ixD t.2.2.length i).map λn=> .next (γ.set j (.nest (t.1.set t.2.1 (t.2.2.set n d))))
def KL(j:Nat)(g:CO D)(z:CO (List D)):CO Fl:=λγ=>(z γ).bind λrow=>(ZG j g γ).map λt=> .next (γ.set j (.nest (t.1.set t.2.1 row)))
def QL(j:Nat)(g:CO D):CO (Sk×List D):=λγ=>(ZG j g γ).map λt=>(.L,t.2.2)
section
variable{K:PySem.W.Frag}{H0 H:Hp}
theorem Nest.set{R:List (List D)}{a I:Addr}{bs:List Addr}{U:List D}{ys:List V}{t:Nat}(n:Nest K H0 H R a bs)(h0:H0 I=none)(h1:H I=some (.lst ys))(a5:Reps K H0 U ys)(Y:I∉a::bs) :
 Nest K H0 (upd H a (.lst ((bs.set t I).map V.ref))) (R.set t U) a (bs.set t I):=by
 have Z:I≠a:=λq=>Y (by rw [q];exact ziv);obtain⟨n1,n2⟩:=zjc.mp n.nd;refine⟨n.a0,zL,?_,by simp [n.len],λk b row O S=>?_⟩
 ·refine zjc.mpr ⟨λhm=>?_,?_⟩
  ·rcases zkt hm with z | z
   ·exact n1 z
   ·exact Z z.symm
  ·have key : ∀(l:List Addr) (t:Nat),l.Nodup->I∉l->(l.set t I).Nodup:=by
    intro l
    induction l with
    | nil=>intro t _ _;simp
    | cons x l ih=>
     intro t hn hm;obtain⟨m1,m2⟩:=zjc.mp hn;cases t with
     | zero=>exact zjc.mpr ⟨λz=>hm (ziu _ z),m2⟩
     | succ t=>
      refine zjc.mpr ⟨λz=>?_,ih t m2 λz=>hm (ziu _ z)⟩;rcases zkt z with z | z
      ·exact m1 z
      ·exact hm (by rw [z];exact ziv)
   exact key bs t n2 λz=>Y (ziu _ z)
 ·by_cases hk:k=t
  ·subst hk
   have hl:k<bs.length:=by have:=(zit.mp O).1;simpa using this
   rw [ziM hl]at O;rw [ziM (by rw [<- n.len];exact hl)]at S;cases O;cases S;exact⟨h0,ys,by rw [zG Z];exact h1,a5⟩
  ·rw [zis (zi6 hk)]at O S
   obtain⟨g1,xs,g2,g3⟩:=n.row k b row O S;have ab:b≠a:=λq=>n1 (by rw [<- q];exact zjs O);exact⟨g1,xs,by rw [zG ab];exact g2,g3⟩
end
section
variable{X:Cx}{sc:Scope}{N L:List Str}{k:Nat}{a b c e:Expr}{pos p p2:Pos}{f g gi:CO D}
theorem zep(j:Nat){x:Str}{U:Pos}(h:SX X sc N L k)(Y:QB sc N j x=true)(Z:PV X b g)(hx:yL b:=by intro _ _;rfl):PQ X (.Subscript (.Name x U) b p2) (QL j g):=
 j3 (zay ix_list (h.var Y) Z hx) λσ H Q hZ=>by
  obtain⟨H0,γ,kk,ds,rc,ef,q⟩:=hZ;obtain⟨t,e1,e2⟩:=zy ef;cases e2;obtain⟨I,d,i,e3,e4,e5,e6⟩:=yq e1;obtain⟨a,bs,O,_,_⟩:=rc.nst.1 j _ I;refine⟨_,O,H0,γ,d,rc,e3,λv H' H0' x r=>?_⟩;obtain⟨a',ac,S,hn,_⟩:=(rc.ext x).nst.1 j _ I;rw [O]at S;cases S;rw [jw e4]at r;obtain⟨bb,xs,ad,a8,a9,aa⟩:=YV hn e5 e6;exact⟨a,_,i,_,rfl,ji r,SqL.of hn.ha,a8,q bb xs H' H0' x (SqL.of a9) (λz=>nomatch z) aa⟩
theorem zam(j:Nat){x:Str}{I:Pos}(h:SX X sc N L k)(cv:QB sc N j x=true)(hb:PV X b g)(hi:PV X c gi)(he:PV X e f)(hx:yL b:=by intro _ _;rfl)
 (ha : ∀v,assign (.Subscript (.Subscript (.Name x I) b p2) c p) X.env v=(do
   let U <- holding [v] (eval (.Subscript (.Name x I) b p2) X.env);let Z <- holding [v,U] (eval c X.env)
   standAt p
   holding [v,U,Z] (setItem U Z v)
   release [v,U,Z] []):=by intro _;rfl)
 (O:swapsWithSole [.Subscript (.Subscript (.Name x I) b p2) c p] e pos.line X.env=pure false:=by rfl) (hw:swappedStores [.Subscript (.Subscript (.Name x I) b p2) c p] e X.env=pure none:=by rfl)
 (h1:(assignEach [.Subscript (.Subscript (.Name x I) b p2) c p] X.env).map (·.2)=[assign (.Subscript (.Subscript (.Name x I) b p2) c p) X.env]:=by rfl) :
 PSD X (.Assign [.Subscript (.Subscript (.Name x I) b p2) c p] e pos) (QN j g gi f):=
 xF (JM he (Ve (zay ix_list (h.var cv) hb hx) hi ZE ha) O hw h1) λD σ H hZ=>by
  obtain⟨E0,E,H0,γ,fl,rs,z,am⟩:=hZ;obtain⟨d,e1,z⟩:=bind_some z;obtain⟨t,e2,z⟩:=bind_some z;obtain⟨ii,e3,z⟩:=bind_some z;obtain⟨di,e4,e3⟩:=bind_some e3;obtain⟨n,e5,z⟩:=zy z;subst z;obtain⟨Y,d3,i3,y3,y4,y5,y6⟩:=yq e2;refine⟨H0,γ,d,rs.rc,e1,λv H1 aw x r=>?_⟩;have a1:=rs.step x;obtain⟨a,bs,O,_,_⟩:=a1.rc.nst.1 j _ Y;refine⟨_,O,aw,γ,d3,a1.rc,y3,λv2 H2 ax x2 r2=>?_⟩;have a3:=a1.step x2;obtain⟨a',bd,aa,hn,_⟩:=a3.rc.nst.1 j _ Y;rw [O]at aa;cases aa;rw [jw y4]at r2;obtain⟨bb,xs,be,ab,bf,bg⟩:=YV hn y5 y6;refine⟨a,_,i3,_,rfl,ji r2,SqL.of hn.ha,ab,ax,γ,di,a3.rc,e4,λv4 H4 az x4 r4=>?_⟩;rw [jw e3]at r4;have ad:=a3.step x4;obtain⟨a2,bl,ae,a5,b0⟩:=ad.rc.nst.1 j _ Y;rw [O]at ae;cases ae;obtain⟨af,b5,b6,ag,b7,ah⟩:=YV a5 y5 y6;have eb:af=bb:=by
   have S:=a5.ha;rw [x4.s1 _ _ hn.ha]at S;injection S with S;injection S with S;rw [<- S,ab]at ag;cases ag;rfl
  subst eb;refine⟨af,b5,ii,n,rfl,ji r4,b7,by rw [ah.length];exact Zf e5,?_⟩;exact am _ _ az (ad.nestSet Y O a5 b0 b6 (ah.set n ((r.mono x2.s0).mono x4.s0)))
theorem zan(j:Nat){x:Str}{I:Pos}{fo:CO (List D)}(h:SX X sc N L k)(cv:QB sc N j x=true)(hb:PV X b g)(he:PO X e fo)(hx:yL b:=by intro _ _;rfl)
 (ha : ∀v,assign (.Subscript (.Name x I) b p) X.env v=(do
   let ov <- holding [v] (eval (.Name x I) X.env);let iv <- holding [v,ov] (eval b X.env)
   standAt p
   holding [v,ov,iv] (setItem ov iv v)
   release [v,ov,iv] []):=by intro _;rfl)
 (hs:swapsWithSole [.Subscript (.Name x I) b p] e pos.line X.env=pure false:=by rfl) (hw:swappedStores [.Subscript (.Name x I) b p] e X.env=pure none:=by rfl)
 (h1:(assignEach [.Subscript (.Name x I) b p] X.env).map (·.2)=[assign (.Subscript (.Name x I) b p) X.env]:=by rfl) :
 PSD X (.Assign [.Subscript (.Name x I) b p] e pos) (KL j g fo):=
 xF (JM he (Ve (h.var cv) hb ZE ha) hs hw h1) λD σ H hZ=>by
  obtain⟨E0,E,H0,γ,fl,O,Y,aq⟩:=hZ;obtain⟨row,e1,Y⟩:=bind_some Y;obtain⟨t,e2,Y⟩:=zy Y;subst Y;obtain⟨hj,d3,i3,y3,y4,y5,y6⟩:=yq e2;obtain⟨a0,ax,a5,a9,ba⟩:=O.rc.nst.1 j _ hj;refine⟨H0,γ,row,O.rc,e1,λS ys H1 ay x g1 g2 g3 r=>?_⟩;have ae:=O.step x;refine⟨_,a5,ay,γ,d3,ae.rc,y3,λv2 H2 af Z r2=>?_⟩;rw [jw y4]at r2;have ag:=ae.step Z;obtain⟨a2,ah,ai,a1,aj⟩:=ag.rc.nst.1 j _ hj;rw [a5]at ai;cases ai;have az:ah=ax:=by
   have U:=a1.ha;rw [Z.s1 _ _ (x.s1 _ _ a9.ha)]at U;injection U with U;injection U with U;have inj : ∀{l m:List Addr},l.map V.ref=m.map V.ref->l=m:=λ{l m} q=>List.map_inj_right (λ_ _ z=>by cases z;rfl) |>.mp q;exact(inj U).symm
  subst az;have b0:S∉a0::ah:=λhm=>by
   obtain⟨_,xs,q⟩:=a9.at hm;rw [g1]at q;cases q
  obtain⟨ea,er⟩:=O.fr2 j _ a0 _ hj a5 a9.ha;have b6:E S=none:=by
   cases q:E S with
   | none=>rfl
   | some o=>rw [O.ext.s1 S o q]at g1;cases g1
  have b7:af S=none:=Z.new S g2 (by rw [g3];simp);refine⟨a0,_,i3,t.2.1,rfl,ji r2,a1.ha,by rw [ziD,a1.len];exact Zf y5,?_⟩;rw [<- List.map_set];refine aq _ _ af (ag.renest hj a5 a1 (λk ds c z1 z2 hm=>?_) (a1.set b7 (Z.s1 _ _ g3) (r.mono Z.s0) b0) λb hb=>?_)
  ·rcases ziq.mp hm with z | z
   ·exact aj k ds c z1 z2 (by rw [z];exact ziv)
   ·rcases zkt z with z | z
    ·exact aj k ds c z1 z2 (ziu _ z)
    ·subst z
     obtain⟨c',ws,q1,q2,q3,_⟩:=O.rc.own k ds z1;rw [z2]at q1;cases q1;rw [g1]at q3;cases q3
  ·rcases zkt hb with z | z
   ·exact er b (ziB.mpr ⟨b,z,rfl⟩)
   ·rw [z];exact b6
end
def Zu:List D->Option Res:=jC 1 (zJ (sIf (qX (jc (sB (sIs .str (ze 0)))) (sB (zq dGe (QO (ze 0)) (zk (.int 6))))) (jK (zk (.bl false))) jh) (jK (WH (zX (zE (zbA (ze 0)) (.nm 0) 1 [] zV (zhh (ze 0) (zH (zk (.tup [.str "r",.str "l"])))))))))
def yY:List D->Option Res:=jC 2 (zJ (sIf (qX (jc (sB (zA Xr (zb (ze 1) (zb (zk (.int 2)) zC))))) (qX (jc (sB (zA Qx (zb (ze 0) (zb (sIx (zf 1) (zk (.int 0))) zC))))) (jc (sB (zA Qx (zb (ze 0) (zb (sIx (zf 1) (zk (.int 1))) zC))))))) (jK (zk (.bl false))) jh) (jK (zq dLe (sIx (zf 1) (zk (.int 0))) (sIx (zf 1) (zk (.int 1))))))
def wA:List D->Option Res:=jC 2 (xC (zE (w5 (ze 0)) (.tp [0,1]) 2 [1] (sB (xP dLe dLe (sIx (zf 1) (zk (.int 0))) (ze 2) (sIx (zf 1) (zk (.int 1))))) (ze 0)))
def F_law_cell:List D->Option Res:=jC 5 (zJ (sIf (JD (sB (zq dGt (qw (zf 0)) (zk (.int 1)))) (sB (zq dEq (zq jW (sIx (zf 0) (zk (.int 0))) (zk (.int 2))) (zk (.int 1))))) (zJ (z5 2 (sIx (zf 0) (zq jx (zk (.int 1)) (zq jW (ze 1) (zq wo (qw (zf 0)) (zk (.int 1))))))) (zJ (xT (zR (zcj (zk (.int 60)) (zq kB (ze 1) (zq wo (qw (zf 0)) (zk (.int 1)))))) (.nm 3) (z5 2 (zq kB (ze 2) (zq zdg (zk (.int 10)) (zk (.int 9)))))) (jK (zq jW (ze 2) (zq zdg (zk (.int 10)) (zk (.int 9))))))) jh) (zJ (z5 4 (ze 1)) (zJ (sIf (sB (zq dGt (qw (zf 0)) (zk (.int 0)))) (z5 4 (sIx (zf 0) (zq jW (ze 1) (qw (zf 0))))) jh) (jK (zq jW (zq qH (zq jW (zq jx (zq jx (zq jx (zq qH (zq jW (ze 4) (zq zdg (zk (.int 10)) (zk (.int 30)))) (zk (.int 48271))) (zq qH (zq qH (zk (.int 7)) (ze 1)) (ze 1))) (zq qH (zk (.int 13)) (ze 1))) (zk (.int 5))) (zk (.int 2147483647))) (zk (.int 69621))) (zk (.int 1000000007)))))))
def F_law_with_k28:List D->Option Res:=jC 2 (xC (zE (w5 (ze 0)) (.tp [0,1]) 2 [1] (sB (xP dLe dLe (sIx (zf 1) (zk (.int 0))) (ze 2) (sIx (zf 1) (zk (.int 1))))) (ze 0)))
def F_law_bar_row:List D->Option Res:=jC 10 (zJ (z5 3 (jq (zE (zR (zq jx (QO (ze 1)) (zk (.int 1)))) (.nm 0) 1 [2] zV (qw (zX (zY F_law_with_k28 (zb (ze 1) (zb (ze 0) zC)))))))) (zJ (xS 4 (qF zC)) (zJ (xT (JC (ze 1)) (.tp [5,6]) (zJ (z5 7 (zq jx (ze 5) (qJ (zq dEq (ze 6) (zk (.str "l")))))) (zJ (z5 8 (zq jx (ze 5) (qJ (zq dEq (ze 6) (zk (.str "r")))))) (zJ (z5 9 (jq (zE (zD (zX (zY F_law_with_k28 (zb (ze 2) (zb (ze 8) zC))))) (.nm 0) 1 [2,7] zV (zF (zX (zE (zD (zX (zY F_law_with_k28 (zb (ze 1) (zb (ze 2) zC))))) (.nm 0) 1 [0] zV (qJ (zq dEq (ze 1) (ze 0))))))))) (jY 4 (qj (zb (ze 6) (zb (qj (zb (sIx (zf 3) (ze 8)) (zb (sIx (zf 3) (ze 7)) (zb (zF (zf 9)) zC)))) zC)))))))) (jK (qj (zb (ze 0) (zb (zF (zf 3)) (zb (zF (zf 4)) zC))))))))
abbrev dsq(k:Sk)(xs:List D):D:=match k with | .T=>D.tup xs | .L=>D.lst xs
@[simp] theorem zhA(k xs):jE (dsq k xs)=some (k,xs):=by cases k<;>rfl
theorem Zr{p:Int}{n:Nat}(k:Sk)(f:Nat->Int)(z:0<p)(hn:n<=lim) :
 F_rests [.int p,dsq k (zB n f)]=some (.val (.tup (zB n λi=>f i%p))):=by
 simp [F_rests,jC,je,zT,hn,qG];unfold zB;rw [zw (r:=λi=>D.int (f i%p))]
 ·simp
 ·intro i hi
  refine zx rfl rfl ?_;simp [z]
theorem WC{p:Int}{n:Nat}(f:Nat->Int)(z:0<p)(hn:n<=lim) :
 F_rests [.int p,.tup (zB n f)]=some (.val (.tup (zB n λi=>f i%p))):=Zr .T f z hn
theorem wy{p:Int}{n:Nat}(f:Nat->Int)(z:0<p)(hn:n<=lim) :
 F_rests [.int p,.lst (zB n f)]=some (.val (.tup (zB n λi=>f i%p))):=Zr .L f z hn
theorem Kp{p:Int}{h w:Nat}(k:Sk)(f:Nat->Nat->Int)(g:Nat->Int)(I:0<p)(z:h<=lim)(hw:w<=lim)(O : ∀i j,i<h->j<w->0<=f i j/\f i j<100) :
 F_led [.int p,jf h w f,dsq k (zB w g)]=some (.val (.tup (zB h λi=>zo (λj=>f i j*g j) w%p))):=by
 simp [F_led,jC,je,zT,z,qG,jf,zii];unfold zS;rw [zw (r:=λi=>D.int (zo (λj=>f i j*g j) w))]
 ·simp
  rw [show(List.map (λi=>D.int (zo (λj=>f i j*g j) w)) (zie h))=zB h λi=>zo (λj=>f i j*g j) w from rfl,wy _ I z];rfl
 ·intro i hi
  refine zx rfl rfl ?_;simp [zT,kO,hw];rw [zw (r:=λj=>D.int (f i j*g j))]
  ·simp
   rw [show(List.map (λj=>D.int (f i j*g j)) (zie w))=zB w λj=>f i j*g j from rfl,vC]
  ·intro j S
   refine zx rfl rfl ?_;have:=O i j (zig.mp hi) (zig.mp S);simp [yf (f i j) (g j) ⋯ ⋯]
theorem yk{h w:Nat}(f:Nat->Nat->Int)(z:h<=lim)(hw:w<=lim):F_turned_over [jf h w f]=some (.val (jf w h λi j=>f j i)):=by
 simp [F_turned_over,jC,je,zT,z,hw,qG,jf,zii,jb,jI];rw [jg w λi=>(i:Int)];rw [zw (r:=λj=>D.tup (zB h λi=>f i j))]
 ·simp
  rfl
 ·intro j I
  refine zx rfl rfl ?_;simp [zT,z,qG];unfold zS;rw [zw (r:=λi=>D.int (f i j))]
  ·simp
   rfl
  ·intro i hi
   refine zx rfl rfl ?_;have h1:=zig.mp I;simp [h1,Z1 _ h1]
theorem km{n:Nat}(hn:n<=lim):F_same_table [.int n]=some (.val (jf n n λi j=>if i=j then 1 else 0)):=by
 simp [F_same_table,jC,je,jb,hn,zT,qG,zii,jI];rw [jg n λi=>(i:Int)];rw [zw (r:=λi=>D.tup (zB n λj=>if i=j then 1 else 0))]
 ·simp
  rfl
 ·intro i hi
  refine zx rfl rfl ?_;simp [hn,zT,zii,jI,qG];rw [jg n λi=>(i:Int)];rw [zw (r:=λj=>D.int (if i=j then 1 else 0))]
  ·simp
   rfl
  ·intro j z
   refine zx rfl rfl ?_;simp;by_cases e:i=j
   ·simp [e]
   ·rw [if_neg ⋯,if_neg e]
theorem YX(d:D)(w:Nat):zii w d=(zie w).map λ_=>d:=by
 induction w with
 | zero=>rfl
 | succ n z=>rw [List.replicate_succ',z,zjE,zjf];simp
def wn(ns:List Int):D:= .lst (ns.map D.int)
mutual
theorem eqD_refl : ∀d:D,eqD d d=true
 | .non=>rfl
 | .bl b=>by simp [eqD]
 | .int i=>by simp [eqD]
 | .str x=>by simp [eqD]
 | .tup xs=>by simp only [eqD];exact eqDs_refl xs
 | .lst xs=>by simp only [eqD];exact eqDs_refl xs
 | .exc c n=>by simp [eqD]
 | .dic a b=>by simp only [eqD];rw [eqDs_refl a,eqDs_refl b];rfl
theorem eqDs_refl : ∀ds:List D,eqDs ds ds=true
 | []=>rfl
 | d::ds=>by simp only [eqDs,eqD_refl d,eqDs_refl ds,Bool.and_self]
end
theorem qE : ∀{l:List D} {n:Nat},(∀d∈l,deep d<=n)->deeps l<=n
 | [],n,_=>zjj n
 | d::ds,n,h=>by
  simp only [deeps];exact Nat.max_le.mpr ⟨h d ziv,qE λe z=>h e (ziu _ z)⟩
theorem Z5(n f):deep (.tup (zB n f))<=1:=by
 simp only [deep];have:deeps (zB n f)<=0:=qE λd hd=>by
  simp [zB]at hd;obtain⟨i,_,rfl⟩:=hd;exact zim _
 omega
theorem Kg(h w f):deep (.tup (zS h w f))<=2:=by
 simp only [deep];have:deeps (zS h w f)<=1:=qE λd hd=>by
  simp [zS]at hd;obtain⟨i,_,rfl⟩:=hd;exact Z5 _ _
 omega
theorem Kf(h w f):deep (jf h w f)<=3:=by
 unfold jf;simp only [deep];have:deeps [D.int h,D.int w,D.tup (zS h w f)]<=2:=qE λd hd=>by
  simp at hd;rcases hd with rfl | rfl | rfl
  ·exact zjj _
  ·exact zjj _
  ·exact Kg _ _ _
 omega
theorem xH : ∀{l:List D},(∀d∈l,okS d=true)->okSs l=true
 | [],_=>rfl
 | d::ds,h=>by simp only [okSs,h d ziv,xH λe z=>h e (ziu _ z),Bool.and_self]
theorem Zb{d:D}{n:Nat}(h:deep d<=n)(hn:n<=20)(h2:okS d=true):okD d=true:=by
 unfold okD;rw [h2,zlm];exact decide_eq_true (zjt h hn)
theorem QV(n f):okS (.tup (zB n f))=true:=by
 simp only [okS];exact xH λd hd=>by
  simp [zB]at hd;obtain⟨i,_,rfl⟩:=hd;rfl
theorem Vk(h w f):okS (.tup (zS h w f))=true:=by
 simp only [okS];exact xH λd hd=>by
  simp [zS]at hd;obtain⟨i,_,rfl⟩:=hd;exact QV _ _
theorem zcN(h w f):okS (jf h w f)=true:=by
 unfold jf;simp only [okS,okSs];have:=Vk h w f;simp only [okS]at this;rw [this];rfl
theorem QW(h w f):okD (jf h w f)=true:=Zb (Kf h w f) ⋯ (zcN h w f)
theorem zbb{d:D}(h:okD d=true):dEq d d=some (.bl true):=by unfold dEq;rw [if_pos ⟨h,h⟩,eqD_refl]
theorem Kh{d:D}(h:okD d=true):dNe d d=some (.bl false):=by unfold dNe;rw [if_pos ⟨h,h⟩,eqD_refl];rfl
theorem Xq(i:Int):F_law_whole [.int i]=some (.val (.bl true)):=by
 simp [F_law_whole,jC,je,zaY]
theorem YB{α:Type}(l:List α):yl (l.map λ_=>D.bl true)=some (l.map λ_=>true):=by
 induction l with
 | nil=>rfl
 | cons a l z=>simp [yl,zfB,z]
def wch(b:Bool):Nat:=if b then 108 else 114
def qY(c:Nat):Str:=⟨#[c]⟩
theorem Ze : ∀(l:List Nat),(zlV "" (l.map qY)).cps.toList=l
 | []=>rfl
 | [c]=>rfl
 | c::d::l=>by
  have z:=Ze (d::l);show((qY c++("" : Str))++zlV "" ((d::l).map qY)).cps.toList=_;have e : ∀a b:Str,(a++b).cps.toList=a.cps.toList++b.cps.toList:=λa b=>by
   show(a.cps++b.cps).toList=_;simp
  rw [e,e,z];rfl
def Qz(m:Nat)(w:Nat->Bool):Str:=zlV "" ((zie m).map λk=>qY (wch (w k)))
theorem wP(m w):(Qz m w).cps.toList=(zie m).map λk=>wch (w k):=by
 have:=Ze ((zie m).map λk=>wch (w k));rw [ziZ]at this;exact this
theorem Xt(m w):(Qz m w).length=m:=by
 show(Qz m w).cps.size=m;rw [<- zjA,wP];simp
theorem Kq{m:Nat}(w)(hm:m<=1000):jF (Qz m w)=true:=decide_eq_true (by rw [Xt];exact hm)
theorem XD{α:Type}(g:α->Str) : ∀l:List α,wF (l.map λx=>D.str (g x))=some (l.map g)
 | []=>rfl
 | a::l=>by simp [wF,XD g l]
def hiW(w:Nat->Bool)(wd:Nat->Nat)(k:Nat):Nat:=if w k then wd k else wd (k+1)
def wiW(w:Nat->Bool)(wd:Nat->Nat)(k:Nat):Nat:=if w k then wd (k+1)else wd k
def qv(w:Nat->Bool)(wd:Nat->Nat)(T:Nat->Nat->Nat->Int)(k:Nat):D:= .tup [.str (qY (wch (w k))),jf (hiW w wd k) (wiW w wd k) (T k)]
def jH(m:Nat)(w:Nat->Bool)(wd:Nat->Nat)(T:Nat->Nat->Nat->Int):List D:=(zie m).map (qv w wd T)
def j9(p:Int)(m:Nat)(w:Nat->Bool)(wd:Nat->Nat)(T:Nat->Nat->Nat->Int):D:= .tup [.int p,.tup (zB (m+1) λk=>(wd k:Int)),.tup (jH m w wd T)]
@[simp] theorem Qt(m w wd T):(jH m w wd T).length=m:=by simp [jH]
theorem zbQ(b:Bool):dEq (.str (qY (wch b))) (.str "l")=some (.bl b):=by
 have e : ∀b:Bool,(qY (wch b)==(zi0 "l"))=b:=by decide +kernel
 have z : ∀b:Bool,okD (.str (qY (wch b)))=true:=by decide +kernel
 have I:okD (.str (zi0 "l"))=true:=by decide +kernel
 unfold dEq;rw [if_pos ⟨z b,I⟩];show some (D.bl (qY (wch b)==zi0 "l"))=_;rw [e]
theorem Vj(b:Bool):okD (.str (qY (wch b)))=true:=by cases b<;>decide +kernel
theorem zdc(b:Bool):dEq (.str (qY (wch b))) (.str "r")=some (.bl (!b)):=by
 have e : ∀b:Bool,(qY (wch b)==(zi0 "r")) = !b:=by decide +kernel
 have z:okD (.str (zi0 "r"))=true:=by decide +kernel
 unfold dEq;rw [if_pos ⟨Vj b,z⟩];show some (D.bl (qY (wch b)==zi0 "r"))=_;rw [e]
theorem zbh{w w':Nat->Bool}{wd wd':Nat->Nat}{T T':Nat->Nat->Nat->Int}{k:Nat}(h1:w k=w' k)(h2:wd k=wd' k)(z:wd (k+1)=wd' (k+1))(I : ∀i j,i<hiW w wd k->j<wiW w wd k->T k i j=T' k i j):qv w wd T k=qv w' wd' T' k:=by
 have e1:hiW w wd k=hiW w' wd' k:=by unfold hiW;rw [h1,h2,z]
 have O:wiW w wd k=wiW w' wd' k:=by unfold wiW;rw [h1,h2,z]
 unfold qv;rw [h1,<- e1,<- O,Z2 I]
theorem W9{p:Int}{m:Nat}{w w':Nat->Bool}{wd wd':Nat->Nat}{T T':Nat->Nat->Nat->Int}(h1 : ∀k,k<m->w k=w' k)(h2 : ∀k,k<m+1->wd k=wd' k)(I : ∀k i j,k<m->i<hiW w wd k->j<wiW w wd k->T k i j=T' k i j):j9 p m w wd T=j9 p m w' wd' T':=by
 unfold j9 jH;rw [xL (f:=λk=>((wd k:Nat):Int)) (g:=λk=>((wd' k:Nat):Int)) λk z=>by rw [h2 k z]];rw [ziy λk z=>zbh (h1 k (zig.mp z)) (h2 k (by have:=zig.mp z;omega)) (h2 (k+1) (by have:=zig.mp z;omega)) λi j hi O=>I k i j (zig.mp z) hi O]
theorem zcO(w wd T k):okS (qv w wd T k)=true:=by
 have a:=QW (hiW w wd k) (wiW w wd k) (T k);have b:=Vj (w k);simp only [okD,Bool.and_eq_true]at a b;show(okS _ && (okS _ && true))=true;rw [a.2,b.2];rfl
theorem zba(w wd T k):deep (qv w wd T k)<=4:=by
 have:=Kf (hiW w wd k) (wiW w wd k) (T k);simp [qv,deep,deeps];omega
theorem zcP(p m w wd T):okD (j9 p m w wd T)=true:=by
 have h1:deeps (jH m w wd T)<=4:=qE λd hd=>by
  obtain⟨k,_,rfl⟩:=ziB.mp hd;exact zba w wd T k
 have h2:okSs (jH m w wd T)=true:=xH λd hd=>by
  obtain⟨k,_,rfl⟩:=ziB.mp hd;exact zcO w wd T k
 have I:=Z5 (m+1) λk=>(wd k:Int);have z:=QV (m+1) λk=>(wd k:Int);refine Zb (n:=10) ?_ ⋯ ?_
 ·simp only [j9,deep,deeps]at I ⊢
  omega
 ·simp only [j9,okS,okSs]at z ⊢
  simp [h2,z]
theorem zK{f g:Nat->Int} : ∀{n:Nat},(∀k,k<n->f k=g k)->zo f n=zo g n
 | 0,_=>rfl
 | n+1,h=>by
  simp only [zo];rw [zK (n:=n) λk z=>h k ⋯,h n ⋯]
theorem zZ(n:Nat):zo (λ_=>0) n=0:=by
 induction n with
 | zero=>rfl
 | succ n z=>simp [zo,z]
theorem z7{f:Nat->Int}{n i:Nat}(hi:i<n)(h : ∀k,k<n->k≠i->f k=0):zo f n=f i:=by
 induction n with
 | zero=>omega
 | succ n z=>
  simp only [zo];by_cases e:i=n
  ·subst e
   rw [zK (g:=λ_=>0) (λk I=>h k ⋯ ⋯),zZ];omega
  ·rw [z ⋯ λk I=>h k ⋯,h n ⋯ ⋯]
   omega
theorem ql(f g:Nat->Int)(n:Nat):zo (λk=>f k+g k) n=zo f n+zo g n:=by
 induction n with
 | zero=>rfl
 | succ n z=>simp only [zo,z];omega
theorem wU(f:Nat->Int)(c:Int)(n:Nat):zo (λk=>f k*c) n=zo f n*c:=by
 induction n with
 | zero=>simp [zo]
 | succ n z=>simp only [zo,z,Int.add_mul]
theorem jX(f:Nat->Int)(c:Int)(n:Nat):zo (λk=>c*f k) n=c*zo f n:=by
 induction n with
 | zero=>simp [zo]
 | succ n z=>simp only [zo,z,zlq]
theorem xl(f:Nat->Nat->Int)(n m:Nat):zo (λi=>zo (λj=>f i j) m) n=zo (λj=>zo (λi=>f i j) n) m:=by
 induction n with
 | zero=>simp [zo,zZ]
 | succ n z=>simp only [zo];rw [z,<- ql]
theorem zU{p:Int}{f g:Nat->Int} : ∀{n:Nat},(∀k,k<n->f k%p=g k%p)->zo f n%p=zo g n%p
 | 0,_=>rfl
 | n+1,h=>by
  simp only [zo];rw [zjB,zU (n:=n) (λk z=>h k ⋯),h n ⋯,<- zjB]
theorem Vq(p x y:Int):(x%p*y)%p=(x*y)%p:=by rw [ziE,ziY,<- ziE]
theorem kY(p x y:Int):(x*(y%p))%p=(x*y)%p:=by rw [ziE,ziY,<- ziE]
theorem vB(p:Int)(a b c:Nat->Nat->Int)(m w i j:Nat) :
 zo (λk=>a i k*(zo (λl=>b k l*c l j) w%p)) m%p=zo (λl=>(zo (λk=>a i k*b k l) m%p)*c l j) w%p:=by
 rw [zU (g:=λk=>zo (λl=>a i k*(b k l*c l j)) w) (λk _=>by rw [kY,jX]),
  zU (f:=λl=>(zo (λk=>a i k*b k l) m%p)*c l j) (g:=λl=>zo (λk=>a i k*(b k l*c l j)) m) (λl _=>by
   rw [Vq,<- wU];exact congrArg (· % p) (zK λk _=>zkF _ _ _)),xl]
abbrev Vc:=Nat->Int
def Pr(p:Int):Prop:=p=2\/p=3\/p=5\/p=7
theorem Pr.pos{p:Int}(h:Pr p):0<p:=by unfold Pr at h;omega
theorem Pr.two{p:Int}(h:Pr p):2<=p:=by unfold Pr at h;omega
theorem Pr.le{p:Int}(h:Pr p):p<=7:=by unfold Pr at h;omega
theorem Pr.one{p:Int}(h:Pr p):(1:Int)%p=1:=zjn ⋯ (by have:=h.two;omega)
inductive Span(p:Int)(n:Nat)(G:Vc->Prop):Vc->Prop where
 | zero {v:Vc}:(∀i,i<n->v i%p=0)->Span p n G v
 | step {v w g:Vc} {c:Int}:G g->Span p n G w->(∀i,i<n->v i%p=(w i+c*g i)%p)->Span p n G v
section
variable{p:Int}{n:Nat}{G G':Vc->Prop}
theorem Span.congr{v z:Vc}(h:Span p n G v)(e : ∀i,i<n->z i%p=v i%p):Span p n G z:=by
 cases h with
 | zero h=>exact .zero λi hi=>by rw [e i hi,h i hi]
 | step I hw h=>exact .step I hw λi hi=>by rw [e i hi,h i hi]
theorem Span.gen{g:Vc}(h:G g):Span p n G g:= .step (c:=1) h (.zero (v:=λ_=>0) λi _=>by simp) λi _=>by simp
theorem Span.add{v w:Vc}(I:Span p n G v)(hw:Span p n G w) : ∀c:Int,Span p n G λi=>w i+c*v i:=by
 induction I with
 | zero h=>
  intro c;refine hw.congr λi hi=>?_;rw [zjB,ziE,h i hi];simp
 | @step v w' g z O U h S=>
  intro c;refine .step (c:=c*z) O (S c) λi hi=>?_;have e:(c*v i)%p=(c*(w' i+z*g i))%p:=by rw [ziE,h i hi,<- ziE]
  rw [zjB,e,<- zjB];congr 1;rw [zlq,<- zkF,Int.add_assoc]
theorem Span.smul{v:Vc}(z:Span p n G v)(c:Int):Span p n G λi=>c*v i:=
 (z.add (w:=λ_=>0) (.zero λi _=>by simp) c).congr λi _=>by simp
theorem Span.le{v:Vc}(h:Span p n G v)(z : ∀g,G g->Span p n G' g):Span p n G' v:=by
 induction h with
 | zero h=>exact .zero h
 | step I hw h O=>exact((z _ I).add O _).congr h
end
structure IsB(p:Int)(n r:Nat)(B:Nat->Vc)(l:Nat->Nat):Prop where
 lt : ∀k,k<r->l k<n
 mono : ∀k m,k<m->m<r->l k<l m
 one : ∀k,k<r->B k (l k)=1
 bef : ∀k j,k<r->j<l k->B k j=0
 oth : ∀k m,k<r->m<r->m≠k->B k (l m)=0
 rng : ∀k i,k<r->i<n->0<=B k i/\B k i<p
def Fam(r:Nat)(B:Nat->Vc):Vc->Prop:=λv=>∃k,k<r/\v=B k
section
variable{p:Int}{n r r':Nat}{B B':Nat->Vc}{l l':Nat->Nat}
theorem wO(I:IsB p n r B l){v:Vc}(h:Span p n (Fam r B) v) : ∀i,i<n->v i%p=zo (λk=>v (l k)*B k i) r%p:=by
 induction h with
 | @zero v h=>
  intro i hi;rw [h i hi];have:zo (λk=>v (l k)*B k i) r%p=zo (λ_=>0) r%p:=zU λk z=>by rw [ziE,h _ (I.lt k z)];simp
  rw [this,zZ];rfl
 | @step v w g c O hw h S=>
  intro i hi;obtain⟨m,hm,rfl⟩:=O;rw [h i hi];have e1:zo (λk=>v (l k)*B k i) r%p=zo (λk=>w (l k)*B k i+c*B m (l k)*B k i) r%p:=zU λk z=>by
   rw [ziE,h _ (I.lt k z),<- ziE,Int.add_mul]
  have U:zo (λk=>c*B m (l k)*B k i) r=c*B m i:=by
   rw [z7 (i:=m) hm λk z Y=>by rw [I.oth m k hm z Y];simp,I.one m hm];simp
  rw [e1,ql,U,zjB,S i hi,<- zjB]
theorem Q3(z:IsB p n r B l){v:Vc}(h:Span p n (Fam r B) v){j:Nat}(O:j<n)(S:v j%p≠0)(U : ∀i,i<j->v i%p=0) : ∃k,k<r/\l k=j:=by
 apply zjr;intro Y;apply S;rw [wO z h j O];have:zo (λk=>v (l k)*B k j) r%p=zo (λ_=>0) r%p:=zU λk I=>by
  have Z:l k≠j:=λe=>Y ⟨k,I,e⟩;rcases ziN (l k) j with q | q
  ·rw [ziE,U _ q];simp
  ·rw [z.bef k j I ⋯];simp
 rw [this,zZ];rfl
theorem X4(O : ∀k m,k<m->m<r->l k<l m)(S : ∀k m,k<m->m<r'->l' k<l' m)(s1 : ∀k,k<r->∃m,m<r'/\l' m=l k)(s2 : ∀k,k<r'->∃m,m<r/\l m=l' k) :
 ∀k,k<r->k<r'/\l k=l' k:=by
 intro k
 induction k using Nat.strongRecOn with
 | ind k U=>
  intro Y;obtain⟨m,hm,Z⟩:=s1 k Y;have a1:k<=m:=by
   rcases ziN m k with q | q
   ·have:=(U m q ⋯).2
    have:=O m k q Y;omega
   ·exact q
  have I:k<r':=by omega
  refine⟨I,?_⟩;obtain⟨q,hq,eq⟩:=s2 k I;have a3:k<=q:=by
   rcases ziN q k with z | z
   ·have:=(U q z ⋯).2
    have:=S q k z I;omega
   ·exact z
  rcases ziN k m with z | z
  ·have h1:=S k m z hm
   have h2:l k<=l q:=by
    rcases ziN k q with y | y
    ·exact zlB (O k q y hq)
    ·have:k=q:=by omega
     subst this;exact zim _
   omega
  ·have:m=k:=by omega
   subst this;exact Z.symm
theorem wt(Y:Pr p)(I:IsB p n r B l)(O:IsB p n r' B' l')(h1 : ∀v,Span p n (Fam r B) v->Span p n (Fam r' B') v)(h2 : ∀v,Span p n (Fam r' B') v->Span p n (Fam r B) v) :
 r=r'/\(∀k,k<r->l k=l' k)/\∀k i,k<r->i<n->B k i=B' k i:=by
 have one:=Y.one;have s1 : ∀k,k<r->∃m,m<r'/\l' m=l k:=λk z=>Q3 O (h1 _ (.gen ⟨k,z,rfl⟩)) (I.lt k z) (by rw [I.one k z,one];decide) λi hi=>by rw [I.bef k i z hi];simp
 have s2 : ∀k,k<r'->∃m,m<r/\l m=l' k:=λk z=>Q3 I (h2 _ (.gen ⟨k,z,rfl⟩)) (O.lt k z) (by rw [O.one k z,one];decide) λi hi=>by rw [O.bef k i z hi];simp
 have e1:=X4 I.mono O.mono s1 s2;have Z:=X4 O.mono I.mono s2 s1;have er:r=r':=by
  rcases zkN r r' with q | q | q
  ·exact absurd (Z r q).1 (zi8 _)
  ·exact q
  ·exact absurd (e1 r' q).1 (zi8 _)
 subst er;refine⟨rfl,λk z=>(e1 k z).2,λk i z hi=>?_⟩;have c:=wO O (h1 _ (.gen ⟨k,z,rfl⟩)) i hi;rw [z7 (i:=k) z λm hm a1=>by rw [<- (e1 m hm).2,I.oth k m z hm a1];simp,<- (e1 k z).2,I.one k z,Int.one_mul]at c;have S:=I.rng k i z hi;have U:=O.rng k i z hi;rw [zjn S.1 S.2,zjn U.1 U.2]at c;exact c
end
theorem ja{α:Type}{T:Tg}{k:CO Bool}{f:CO D}{γ:Ctx}{g:α->D}(q:α->Bool)(r:α->D) : ∀(l:List α),(∀x∈l,∃z,qB T (g x) γ=some z/\k z=some (q x)/\(q x=true->f z=some (r x)))->
 zO T k f γ (l.map g)=some ((l.filter q).map r)
 | [],_=>rfl
 | x::l,h=>by
  obtain⟨z,h1,h2,O⟩:=h x ziv;have I:=ja q r l λy S=>h y (ziu _ S);simp only [ziK,zO,h1,h2,zij];cases e:q x with
  | true=>simp [O e,I,e]
  | false=>simp [I,e]
theorem ze8{p x:Int}(z:Pr p)(I:0<x)(h1:x<p) : ∃y:Nat,1<=y/\(y:Int)<p/\(y:Int)*x%p=1:=by
 rcases z with rfl | rfl | rfl | rfl
 ·obtain rfl:x=1:=by omega
  exact⟨1,by decide,by decide,by decide⟩
 ·rcases (show x=1\/x=2 by omega)with rfl | rfl
  ·exact⟨1,by decide,by decide,by decide⟩
  ·exact⟨2,by decide,by decide,by decide⟩
 ·rcases (show x=1\/x=2\/x=3\/x=4 by omega)with rfl | rfl | rfl | rfl
  ·exact⟨1,by decide,by decide,by decide⟩
  ·exact⟨3,by decide,by decide,by decide⟩
  ·exact⟨2,by decide,by decide,by decide⟩
  ·exact⟨4,by decide,by decide,by decide⟩
 ·rcases (show x=1\/x=2\/x=3\/x=4\/x=5\/x=6 by omega)with rfl | rfl | rfl | rfl | rfl | rfl
  ·exact⟨1,by decide,by decide,by decide⟩
  ·exact⟨4,by decide,by decide,by decide⟩
  ·exact⟨5,by decide,by decide,by decide⟩
  ·exact⟨2,by decide,by decide,by decide⟩
  ·exact⟨3,by decide,by decide,by decide⟩
  ·exact⟨6,by decide,by decide,by decide⟩
theorem kc{q:Nat->Bool}{n a:Nat}{rest:List Nat}(h:(zie n).filter q=a::rest):a<n/\q a=true/\∀i,i<a->q i=false:=by
 have hm:a∈(zie n).filter q:=by rw [h];exact ziv
 refine⟨zig.mp (ziO.mp hm).1,(ziO.mp hm).2,λi hi=>?_⟩;apply zjr;intro z;have I:q i=true:=by simpa using z
 have O:i∈a::rest:=by rw [<- h];exact ziO.mpr ⟨zig.mpr (by have:=zig.mp (ziO.mp hm).1;omega),I⟩
 have S:(a::rest).Pairwise (· < ·):=by rw [<- h];exact zle _ zkI
 rcases ziq.mp O with e | e
 ·omega
 ·have:=(List.pairwise_cons.mp S).1 i e;omega
theorem vR{q:Nat->Bool}{n:Nat}(h:(zie n).filter q=[]) : ∀i,i<n->q i=false:=λi hi=>by
 apply zjr;intro z;have:i∈(zie n).filter q:=ziO.mpr ⟨zig.mpr hi,by simpa using z⟩;rw [h]at this;simp at this
theorem Qy{p x:Int}(z:Pr p)(I:0<x)(h1:x<p) : ∃y,F_inverse [.int p,.int x]=some (.val (.int y))/\1<=y/\y<p/\x*y%p=1:=by
 rcases z with rfl | rfl | rfl | rfl
 ·have:x=1:=by omega
  subst this;exact⟨1,rfl,by decide,by decide,by decide⟩
 ·have:x=1\/x=2:=by omega
  rcases this with rfl | rfl
  ·exact⟨1,rfl,by decide,by decide,by decide⟩
  ·exact⟨2,rfl,by decide,by decide,by decide⟩
 ·have:x=1\/x=2\/x=3\/x=4:=by omega
  rcases this with rfl | rfl | rfl | rfl
  ·exact⟨1,rfl,by decide,by decide,by decide⟩
  ·exact⟨3,rfl,by decide,by decide,by decide⟩
  ·exact⟨2,rfl,by decide,by decide,by decide⟩
  ·exact⟨4,rfl,by decide,by decide,by decide⟩
 ·have:x=1\/x=2\/x=3\/x=4\/x=5\/x=6:=by omega
  rcases this with rfl | rfl | rfl | rfl | rfl | rfl
  ·exact⟨1,rfl,by decide,by decide,by decide⟩
  ·exact⟨4,rfl,by decide,by decide,by decide⟩
  ·exact⟨5,rfl,by decide,by decide,by decide⟩
  ·exact⟨2,rfl,by decide,by decide,by decide⟩
  ·exact⟨3,rfl,by decide,by decide,by decide⟩
  ·exact⟨6,rfl,by decide,by decide,by decide⟩
theorem yZ{p:Int}(I:Pr p){n t:Nat}(hn:n<=lim)(z:t<n)(w P:Nat->Int)(hw : ∀i,i<n->0<=w i/\w i<p) :
 F_cleared [.int p,.tup (zB n w),.tup (zB n P),.int t]=some (.val (.tup (zB n λi=>(w i - w t*P i)%p))):=by
 have U:=hw t z;have Y:=I.le;have S : ∀x,wB (w t) x=true:=λx=>yf _ _ ⋯ ⋯;by_cases O:w t=0
 ·simp [F_cleared,jC,je,jb,z,O]
  apply xL;intro i hi;rw [zjn (hw i hi).1 (hw i hi).2]
 ·simp [F_cleared,jC,je,jb,z,O,kO,hn,zT,qG,zii]
  rw [zw (r:=λi=>D.int (w i - w t*P i))]
  ·rw [<- jg]
   simp [wy _ I.pos hn]
  ·intro i hi
   refine zx rfl rfl ?_;simp [S]
theorem QX{l:Nat->Nat}{r t:Nat}(hm : ∀k m,k<m->m<r->l k<l m)(z : ∀k,k<r->l k<t):r<=t:=by
 have key : ∀k,k<r->k<=l k:=by
  intro k
  induction k with
  | zero=>intro _;exact zjj _
  | succ k I=>
   intro O;have h1:=I ⋯;have h2:=hm k (k+1) ⋯ O;omega
 cases r with
 | zero=>exact zjj _
 | succ r=>
  have h1:=key r ⋯;have h2:=z r ⋯;omega
def vq:CO Fl:=(zJ (z5 6 (jq (zE (zD (zf 3)) (.nm 0) 1 [5] (sB (zq dNe (sIx (zf 0) (ze 1)) (zk (.int 0)))) (ze 0)))) (zJ (sIf (jc (W5 (zf 6))) W7 jh) (zJ (z5 7 (zA F_inverse (zb (ze 0) (zb (sIx (zH (sIx (zf 6) (zk (.int 0)))) (ze 5)) zC)))) (zJ (z5 8 (zA F_rests (zb (ze 0) (zb (jq (zE (zD (zH (sIx (zf 6) (zk (.int 0))))) (.nm 0) 1 [7] zV (zq qH (ze 1) (ze 0)))) zC)))) (zJ (z5 3 (jq (zE (zD (zf 3)) (.nm 0) 1 [0,5,8] zV (zA F_cleared (zb (ze 1) (zb (ze 0) (zb (ze 3) (zb (ze 2) zC)))))))) (xS 4 (yp (zX (zE (zD (zf 4)) (.nm 0) 1 [0,5,8] zV (zA F_cleared (zb (ze 1) (zb (ze 0) (zb (ze 3) (zb (ze 2) zC))))))) (zX (qF (zb (ze 8) zC))))))))))
def Un(r:Nat)(B:Nat->Vc)(m:Nat)(W:Nat->Vc):Vc->Prop:=λv=>Fam r B v\/Fam m W v
structure BInv(p:Int)(n m:Nat)(W:Nat->Vc)(t r:Nat)(B:Nat->Vc)(l:Nat->Nat)(Wt:Nat->Vc):Prop where
 rng : ∀j i,j<m->i<n->0<=Wt j i/\Wt j i<p
 zer : ∀j i,j<m->i<t->Wt j i=0
 isb:IsB p n r B l
 lt : ∀k,k<r->l k<t
 span : ∀v,Span p n (Un r B m Wt) v↔Span p n (Fam m W) v
section
variable{p:Int}{n m:Nat}{W:Nat->Vc}{t r:Nat}{B:Nat->Vc}{l:Nat->Nat}{Wt:Nat->Vc}
theorem BInv.skip(h:BInv p n m W t r B l Wt)(I : ∀j,j<m->Wt j t=0):BInv p n m W (t+1) r B l Wt:=
 ⟨h.rng,λj i z hi=>by
  rcases ziN i t with q | q
  ·exact h.zer j i z q
  ·have:i=t:=by omega
   subst this;exact I j z,h.isb,λk O=>zjb (h.lt k O),h.span⟩
def clr(p:Int)(P:Vc)(t:Nat)(w:Vc):Vc:=λi=>(w i - w t*P i)%p
def K3(p:Int)(P:Vc)(t r:Nat)(B:Nat->Vc):Nat->Vc:=λk=>if k<r then clr p P t (B k)else P
def zbM(t r:Nat)(l:Nat->Nat):Nat->Nat:=λk=>if k<r then l k else t
theorem vo{G:Vc->Prop}{P w:Vc}(z:Span p n G P)(hw:Span p n G w):Span p n G (clr p P t w):=
 (z.add hw (-(w t))).congr λi _=>by unfold clr;rw [ziY];congr 1;rw [Int.neg_mul];omega
theorem Xy{G:Vc->Prop}{P w:Vc}(z:Span p n G P)(hw:Span p n G (clr p P t w)):Span p n G w:=
 (z.add hw (w t)).congr λi _=>by
   unfold clr;rw [zjB,ziY,<- zjB];congr 1;omega
theorem BInv.next(hp:Pr p)(h:BInv p n m W t r B l Wt)(ht:t<n){U:Nat}(a8:U<m){y:Int}(hy:Wt U t*y%p=1){P:Vc}(Y : ∀i,i<n->P i=y*Wt U i%p) :
 BInv p n m W (t+1) (r+1) (K3 p P t r B) (zbM t r l) (λj=>clr p P t (Wt j)):=by
 have p0:=hp.pos;have one:=hp.one;have Pt:P t=1:=by rw [Y t ht,zjN];exact hy
 have Pz : ∀i,i<t->P i=0:=λi hi=>by rw [Y i ⋯,h.zer U i a8 hi];simp
 have ae : ∀i,i<n->0<=P i/\P i<p:=λi hi=>by rw [Y i hi];exact⟨zi5 _ ⋯,ziS _ p0⟩
 have cr : ∀(w:Vc) i,0<=clr p P t w i/\clr p P t w i<p:=λw i=>⟨zi5 _ ⋯,ziS _ p0⟩;have Z : ∀(w:Vc) i,i<t->0<=w i->w i<p->clr p P t w i=w i:=λw i hi h1 h2=>by
  unfold clr;rw [Pz i hi,Int.mul_zero,Int.sub_zero];exact zjn h1 h2
 have ct : ∀w:Vc,clr p P t w t=0:=λw=>by unfold clr;rw [Pt,Int.mul_one,Int.sub_self];simp
 refine⟨λj i O hi=>cr _ _,λj i O hi=>?_,⟨λk I=>?_,λk q af hq=>?_,λk I=>?_,λk j I O=>?_,λk q I hq ah=>?_,λk i I hi=>?_⟩,λk I=>?_,λv=>?_⟩
 ·rcases ziN i t with q | q
  ·have e:=h.zer j i O q
   rw [Z _ i q ⋯ ⋯];exact e
  ·have:i=t:=by omega
   subst this;exact ct _
 ·unfold zbM;split
  ·rename_i q;exact h.isb.lt k q
  ·exact ht
 ·unfold zbM
  have I:k<r:=by omega
  rw [if_pos I];split
  ·rename_i z;exact h.isb.mono k q af z
  ·exact h.lt k I
 ·unfold zbM K3;split
  ·rename_i q
   have e:=h.isb.one k q;have hl:=h.lt k q;rw [Z _ _ hl ⋯ (by have:=hp.two;omega)];exact e
  ·exact Pt
 ·unfold K3;unfold zbM at O;split at O
  ·rename_i q
   have e:=h.isb.bef k j q O;have hl:=h.lt k q;rw [if_pos q,Z _ _ ⋯ ⋯ ⋯];exact e
  ·rename_i q
   rw [if_neg q];exact Pz j O
 ·unfold K3 zbM
  by_cases z1:k<r
  ·rw [if_pos z1]
   by_cases S:q<r
   ·rw [if_pos S]
    have e:=h.isb.oth k q z1 S ah;have hl:=h.lt q S;rw [Z _ _ hl ⋯ ⋯];exact e
   ·rw [if_neg S];exact ct _
  ·rw [if_neg z1]
   have S:q<r:=by omega
   rw [if_pos S];exact Pz _ (h.lt q S)
 ·unfold K3;split
  ·exact cr _ _
  ·exact ae i hi
 ·unfold zbM;split
  ·rename_i q;exact zjb (h.lt k q)
  ·exact zjM _
 ·rw [<- h.span v]
  have a4:Span p n (Un r B m Wt) P:=((Span.gen (p:=p) (n:=n) (G:=Un r B m Wt) (g:=Wt U) (.inr ⟨U,a8,rfl⟩)).smul y).congr λi hi=>by rw [Y i hi,ziY]
  have ac:Span p n (Un (r+1) (K3 p P t r B) m λj=>clr p P t (Wt j)) P:= .gen (.inl ⟨r,zjM r,by unfold K3;rw [if_neg (zi8 r)]⟩);constructor
  ·refine λhv=>hv.le λg hg=>?_
   rcases hg with⟨k,I,rfl⟩ | ⟨j,O,rfl⟩
   ·unfold K3;split
    ·rename_i q;exact vo a4 (.gen (.inl ⟨k,q,rfl⟩))
    ·exact a4
   ·exact vo a4 (.gen (.inr ⟨j,O,rfl⟩))
  ·refine λhv=>hv.le λg hg=>?_
   rcases hg with⟨k,I,rfl⟩ | ⟨j,O,rfl⟩
   ·refine Xy (t:=t) ac (.gen (.inl ⟨k,zjb I,?_⟩))
    unfold K3;rw [if_pos I]
   ·exact Xy (t:=t) ac (.gen (.inr ⟨j,O,rfl⟩))
theorem BInv.done(h:BInv p n m W n r B l Wt)(v:Vc):Span p n (Fam r B) v↔Span p n (Fam m W) v:=by
 rw [<- h.span v];constructor
 ·exact λI=>I.le λg z=> .gen (.inl z)
 ·refine λI=>I.le λg z=>?_
  rcases z with z | ⟨j,O,rfl⟩
  ·exact .gen z
  ·exact .zero λi hi=>by rw [h.zer j i O hi];simp
theorem V7(I:True)(P:Vc):zS (r+1) n (K3 p P t r B)=zS r n (λk=>clr p P t (B k))++[.tup (zB n P)]:=by
 unfold zS;rw [zjE,zjf];congr 1
 ·apply ziy
  intro k z;have:=zig.mp z;simp [K3,this]
 ·simp [K3]
end
theorem qI{p:Int}(Y:Pr p){n m:Nat}(hn:n<=100)(hm:m<=lim)(kk:Sk)(W:Nat->Vc) :
 ∃r B l,F_base_of [.int p,.int n,dsq kk (zS m n W)]=some (.own (zS r n B))/\IsB p n r B l/\∀v,Span p n (Fam r B) v↔Span p n (Fam m W) v:=by
 have hl:=jD;have Z:n<=lim:=by omega
 have p0:=Y.pos;have key:=ka (T:= .nm 5) (F:=vq)
  (λt γ=>∃r B l Wt c5 c6 c7 c8,γ=[.val (.int p),.val (.int n),.val (dsq kk (zS m n W)),.val (.lst (zS m n Wt)),.own (zS r n B),c5,c6,c7,c8]/\BInv p n m W t r B l Wt)
  ((zie n).map λ(i:Nat)=>D.int i) 0 [.val (.int p),.val (.int n),.val (dsq kk (zS m n W)),.val (.lst (zS m n λj i=>W j i%p)),.own [],.no,.no,.no,.no]
  ⟨0,λ_ _=>0,λ_=>0,λj i=>W j i%p,.no,.no,.no,.no,rfl,λj i _ _=>⟨zi5 _ ⋯,ziS _ p0⟩,λj i _ hi=>absurd hi (ziU _),
   ⟨λk I=>absurd I (ziU _),λk q _ I=>absurd I (ziU _),λk I=>absurd I (ziU _),λk j I=>absurd I (ziU _),λk q I=>absurd I (ziU _),λk i I=>absurd I (ziU _)⟩,
   λk I=>absurd I (ziU _),λv=>⟨λhv=>hv.le λg hg=>by
    rcases hg with⟨k,I,_⟩ | ⟨j,S,rfl⟩
    ·exact absurd I (ziU _)
    ·exact(Span.gen (p:=p) (n:=n) (G:=Fam m W) (g:=W j) ⟨j,S,rfl⟩).congr λi _=>ziY _ _,λhv=>hv.le λg hg=>by
    obtain⟨j,S,rfl⟩:=hg;exact(Span.gen (p:=p) (n:=n) (G:=Un 0 (λ_ _=>0) m λj i=>W j i%p) (g:=λi=>W j i%p) (.inr ⟨j,S,rfl⟩)).congr λi _=>(ziY _ _).symm⟩⟩ (by
   rintro t d γ hd ⟨r,B,l,Wt,c5,c6,c7,c8,rfl,O⟩;rw [zi1]at O ⊢;have U:t<n:=by have:=(zit.mp hd).1;simpa using this
   have a7:d = .int t:=by simp [U]at hd;exact hd.symm
   subst a7;have a0:zO (.nm 0) (sB (zq dNe (sIx (zf 0) (ze 1)) (zk (.int 0)))) (ze 0) [Cell.no,Cell.val (.int t)] (zS m n Wt)=some (((zie m).filter λj=> !decide (Wt j t=0)).map λj=>D.tup (zB n (Wt j))):=by
    unfold zS;refine ja _ _ _ λj S=>⟨_,rfl,?_,λ_=>rfl⟩;simp [U]
   have hr:r<=t:=QX O.isb.mono O.lt;have a8:r<=lim:=by omega
   cases hf:(zie m).filter λj=> !decide (Wt j t=0)with
   | nil=>
    have hz : ∀j,j<m->Wt j t=0:=λj S=>by
     apply zjr;intro a4;have:j∈(zie m).filter λj=> !decide (Wt j t=0):=ziO.mpr ⟨zig.mpr S,by simp [a4]⟩;rw [hf]at this;simp at this
    rw [hf]at a0;refine⟨_,.inr ?_,r,B,l,Wt,.val (.int t),.val (.lst []),c7,c8,rfl,O.skip hz⟩;simp only [ky,zij,zjw,zjv,vq];rw [jb];simp [jb,zT,qG,zii,a0,hm]
   | cons z rest=>
    have a5:z∈(zie m).filter λj=> !decide (Wt j t=0):=by rw [hf];exact ziv
    have a6:z<m:=zig.mp (ziO.mp a5).1;have a4:Wt z t≠0:=by simpa using (ziO.mp a5).2
    have aa:=O.rng z t a6 U;obtain⟨y,ey,y1,y2,yy⟩:=Qy Y (x:=Wt z t) ⋯ aa.2;rw [hf]at a0;have nx:=O.next Y U a6 yy (P:=λi=>y*Wt z i%p) λi _=>rfl;refine⟨_,.inl ?_,r+1,K3 p (λi=>y*Wt z i%p) t r B,zbM t r l,λj=>clr p (λi=>y*Wt z i%p) t (Wt j),.val (.int t),.val (.lst ((z::rest).map λj=>D.tup (zB n (Wt j)))),.val (.int y),.val (.tup (zB n λi=>y*Wt z i%p)),rfl,nx⟩;have ao:=Y.le;have cy : ∀x,wB y x=true:=λx=>yf _ _ ⋯ ⋯;have ae:zO (.nm 0) zV (zq qH (ze 1) (ze 0)) [Cell.no,Cell.val (.int y)] (zB n (Wt z))=some (zB n λi=>y*Wt z i):=by
     rw [jg,jg];refine zw _ _ λi hi=>zx rfl rfl ?_;simp [cy]
    have af:zO (.nm 0) zV (zA F_cleared (zb (ze 1) (zb (ze 0) (zb (ze 3) (zb (ze 2) zC))))) [Cell.no,Cell.val (.int p),Cell.val (.int t),Cell.val (.tup (zB n λi=>y*Wt z i%p))] (zS m n Wt)=some (zS m n λj=>clr p (λi=>y*Wt z i%p) t (Wt j)):=by
     unfold zS;refine zw _ _ λj S=>zx rfl rfl ?_;simp [yZ Y Z U (Wt j) (λi=>y*Wt z i%p) λi hi=>O.rng j i (zig.mp S) hi];rfl
    have ag:zO (.nm 0) zV (zA F_cleared (zb (ze 1) (zb (ze 0) (zb (ze 3) (zb (ze 2) zC))))) [Cell.no,Cell.val (.int p),Cell.val (.int t),Cell.val (.tup (zB n λi=>y*Wt z i%p))] (zS r n B)=some (zS r n λj=>clr p (λi=>y*Wt z i%p) t (B j)):=by
     unfold zS;refine zw _ _ λj S=>zx rfl rfl ?_;simp [yZ Y Z U (B j) (λi=>y*Wt z i%p) λi hi=>O.isb.rng j i (zig.mp S) hi];rfl
    have ah:r+1<=lim:=by omega
    rw [V7 trivial];simp only [ky,zij,zjw,zjv,vq];rw [jb];simp [jb,zT,qG,zii,a0,hm,Z,U,ey,ae,wy _ p0 Z,af,ag,a8,ah])
 obtain⟨γ',e1,r,B,l,Wt,c5,c6,c7,c8,rfl,O⟩:=key;simp only [ziD,zjm,zi1]at O;refine⟨r,B,l,?_,O.isb,O.done⟩;have ai:zO (.nm 0) zV (zA F_rests (zb (ze 1) (zb (ze 0) zC))) [Cell.no,Cell.val (.int p)] (zS m n W)=some (zS m n λj i=>W j i%p):=by
  unfold zS;refine zw _ _ λj S=>zx rfl rfl ?_;simp [WC _ p0 Z]
 have e0:F_base_of [.int p,.int n,dsq kk (zS m n W)]=jC 9 (zJ (z5 3 (jq (zE (zD (zf 2)) (.nm 0) 1 [0] zV (zA F_rests (zb (ze 1) (zb (ze 0) zC)))))) (zJ (xS 4 (qF zC)) (zJ (xT (zR (ze 1)) (.nm 5) vq) (QM 4)))) [.int p,.int n,dsq kk (zS m n W)]:=rfl;rw [e0];simp [jC,je,jb,hm,zT,qG,zii,ai,Z,jI];rw [jg n λi=>(i:Int),e1];simp
@[simp] theorem zfr(γ:Ctx)(f):QK f γ=(f γ).bind λa=>match a.1 with
 | .L=>WZ a.2
 | _=>none:=rfl
def kz(n r:Nat)(B:Nat->Vc)(l:Nat->Nat):List D:=(zie r).map λk=>D.tup [.int (l k),.lst (zB n (B k))]
@[simp] theorem Kd(n r B l):(kz n r B l).length=r:=by simp [kz]
def kH{α:Type}(q:Nat)(x:α)(f:Nat->α):Nat->α:=λk=>if k<q then f k else if k=q then x else f (k - 1)
theorem VC(n:Nat)(B:Nat->Vc)(l:Nat->Nat)(ks:List Nat):wL (ks.map λk=>D.tup [.int (l k),.lst (zB n (B k))])=some (ks.map λk=>(l k:Int)):=by
 induction ks with
 | nil=>rfl
 | cons k ks z=>simp [wL,zfW,z]
theorem X5 : ∀(ds:List D) (e:D) (k:Int) (z:List Int),wL ds=some z->zfW e=some k->wL (ds++[e])=some (z++[k])
 | [],e,k,z,h,he=>by cases h;simp [wL,he]
 | d::ds,e,k,z,h,he=>by
  simp only [wL]at h;cases e1:zfW d with
  | none=>rw [e1]at h;simp at h
  | some a=>
   rw [e1]at h;cases e2:wL ds with
   | none=>rw [e2]at h;simp at h
   | some r=>
    rw [e2]at h;simp at h;subst h;simp [wL,e1,X5 ds e k r e2 he]
theorem Qs{l:Nat->Nat} : ∀(m a:Nat),(∀k,a<=k->k+1<a+m->l k<l (k+1))->zfn ((zkw a m).map λk=>(l k:Int))=true
 | 0,a,_=>rfl
 | 1,a,_=>rfl
 | m+2,a,h=>by
  rw [zjY,ziK];have e:zkw (a+1) (m+1)=(a+1)::zkw (a+1+1) m:=zjY ..;rw [e,ziK];simp only [zfn];have h1:l a<l (a+1):=h a (zim _) ⋯;rw [Bool.and_eq_true];refine⟨decide_eq_true ⋯,?_⟩;have:=Qs (m+1) (a+1) λk z I=>h k ⋯ ⋯;rw [e,ziK]at this;exact this
def yd(l:Nat->Nat)(r x:Nat):Nat:=((zie r).filter λk=>decide (l k<x)).length
theorem vn{l:Nat->Nat}{x:Nat} : ∀{r:Nat},(∀k m,k<m->m<r->l k<l m)->(∀k,k<r->l k≠x)->yd l r x<=r/\(∀k,k<yd l r x->l k<x)/\∀k,yd l r x<=k->k<r->x<l k
 | 0,_,_=>⟨zim _,λk I=>absurd I (by simp [yd]),λk _ I=>absurd I (ziU _)⟩
 | r+1,hm,hne=>by
  obtain⟨h1,h2,O⟩:=vn (r:=r) (x:=x) (λk m a b=>hm k m a ⋯) λk I=>hne k ⋯;have e:yd l (r+1) x=yd l r x+if l r<x then 1 else 0:=by
   unfold yd;rw [zjE,zk5,zjo];by_cases q:l r<x<;>simp [q]
  by_cases q:l r<x
  ·rw [e,if_pos q]
   have S:yd l r x=r:=by
    rcases ziN (yd l r x) r with z | z
    ·have U:=O (yd l r x) (zim _) z
     have Y:=hm (yd l r x) r z (zjM r);omega
    ·omega
   rw [S];refine⟨zim _,λk I=>?_,λk a b=>absurd b ⋯⟩;rcases ziN k r with z | z
   ·exact h2 k ⋯
   ·have:k=r:=by omega
    subst this;exact q
  ·rw [e,if_neg q,Nat.add_zero]
   refine⟨by omega,h2,λk a b=>?_⟩;rcases ziN k r with z | z
   ·exact O k a z
   ·have:k=r:=by omega
    subst this;have:=hne k b;omega
theorem VN{α:Type}(f:Nat->α)(x:α){q r:Nat}(Y:q<=r):((zie r).map f).take q++(x::((zie r).map f).drop q)=(zie (r+1)).map (kH q x f):=by
 apply zkK;intro i;have I:(((zie r).map f).take q).length=q:=by simp;omega
 have S : ∀k,((zie (r+1)).map (kH q x f))[k]? = if k<r+1 then some (kH q x f k)else none:=λk=>by
  by_cases z:k<r+1
  ·rw [if_pos z,zih (by simpa using z)];simp
  ·rw [if_neg z,List.getElem?_eq_none (by simpa using z)]
 have O : ∀k,((zie r).map f)[k]? = if k<r then some (f k)else none:=λk=>by
  by_cases z:k<r
  ·rw [if_pos z,zih (by simpa using z)];simp
  ·rw [if_neg z,List.getElem?_eq_none (by simpa using z)]
 rw [S];rcases zkN i q with h | h | h
 ·rw [zi9 ⋯,List.getElem?_take,if_pos h,O,if_pos ⋯,if_pos ⋯]
  unfold kH;rw [if_pos h]
 ·subst h
  rw [ziW ⋯,I,Nat.sub_self,if_pos ⋯];unfold kH;rw [if_neg (zi8 _),if_pos rfl];rfl
 ·obtain⟨d,rfl⟩ : ∃d,i=q+1+d:=⟨i - (q+1),by omega⟩
  rw [ziW ⋯,I,show q+1+d - q=d+1 by omega,zio,List.getElem?_drop,O];have U:q+1+d - 1=q+d:=by omega
  by_cases hd:q+d<r
  ·rw [if_pos hd,if_pos ⋯]
   unfold kH;rw [if_neg ⋯,if_neg ⋯,U]
  ·rw [if_neg hd,if_neg ⋯]
theorem YK{n r x:Nat}{B:Nat->Vc}{l:Nat->Nat}{R:Vc}(hr:r<=7)(hm : ∀k m,k<m->m<r->l k<l m)(z : ∀k,k<r->l k≠x) :
 WZ (kz n r B l++[.tup [.int x,.lst (zB n R)]])=some (kz n (r+1) (kH (yd l r x) R B) (kH (yd l r x) x l)):=by
 have U:=X5 (kz n r B l) (.tup [.int x,.lst (zB n R)]) x _ (VC n B l (zie r)) rfl;unfold WZ;rw [U];simp only [zij];have Y:zfn ((zie r).map λk=>(l k:Int))=true:=by
  rw [zjT];exact Qs r 0 λk _ I=>hm k (k+1) ⋯ ⋯
 have Z : ¬((x:Int)∈(zie r).map λk=>(l k:Int)):=by
  intro h;obtain⟨k,I,e⟩:=ziB.mp h;exact z k (zig.mp I) ⋯
 have O:((zie r).map (λk=>(l k:Int))++[(x:Int)]).dropLast=(zie r).map λk=>(l k:Int):=by simp
 have S:((zie r).map (λk=>(l k:Int))++[(x:Int)]).getLast?.getD 0=(x:Int):=by simp
 rw [O,S,if_pos ⟨⟨by simp,by simp;omega⟩,Y,decide_eq_false Z⟩];have a0:zgr ((zie r).map (λk=>(l k:Int))++[(x:Int)])=yd l r x:=by
  unfold zgr yd;rw [O,S,List.filter_map,ziD];congr 1;apply zl2;intro k _;simp
 rw [a0];unfold zhw;have hq:=(vn hm z).1;have e1:(kz n r B l++[D.tup [.int x,.lst (zB n R)]]).dropLast=kz n r B l:=by simp
 have e2:(kz n r B l++[D.tup [.int x,.lst (zB n R)]]).drop ((kz n r B l++[D.tup [.int x,.lst (zB n R)]]).length - 1)=[D.tup [.int x,.lst (zB n R)]]:=by simp
 rw [e1,e2];have:=VN (λk=>D.tup [.int (l k),.lst (zB n (B k))]) (D.tup [.int x,.lst (zB n R)]) hq;unfold kz;refine congrArg some (Eq.trans this ?_);apply ziy;intro k _;unfold kH;split
 ·rfl
 ·split<;>rfl
section
variable{p:Int}{n r:Nat}{B:Nat->Vc}{l:Nat->Nat}{w:Vc}
structure RInv(p:Int)(n r:Nat)(B:Nat->Vc)(l:Nat->Nat)(w:Vc)(k:Nat)(R:Vc):Prop where
 rng : ∀i,i<n->0<=R i/\R i<p
 zer : ∀q,q<k->R (l q)=0
 eqv : ∀G,(∀k,k<r->Span p n G (B k))->(Span p n G w↔Span p n G R)
theorem RInv.next(Y:Pr p)(U:IsB p n r B l){k:Nat}{R:Vc}(h:RInv p n r B l w k R)(I:k<r):RInv p n r B l w (k+1) (clr p (B k) (l k) R):=by
 have Z:=Y.pos;refine⟨λi _=>⟨zi5 _ ⋯,ziS _ Z⟩,λq hq=>?_,λG O=>?_⟩
 ·unfold clr
  rcases ziN q k with z | z
  ·rw [h.zer q z,U.oth k q I ⋯ ⋯];simp
  ·have:q=k:=by omega
   subst this;rw [U.one q I];simp
 ·rw [h.eqv G O]
  exact⟨λS=>vo (O k I) S,λS=>Xy (O k I) S⟩
theorem J6{α:Type}{q:Nat}{x:α}{f:Nat->α}{k:Nat}(O:q<=r)(S:k<r+1):(k=q/\kH q x f k=x)\/∃I,I<r/\kH q x f k=f I/\((k<q/\I=k)\/(q<k/\I+1=k)):=by
 unfold kH;rcases zkN k q with z | z | z
 ·right;exact⟨k,by omega,by rw [if_pos z],.inl ⟨z,rfl⟩⟩
 ·left;subst z;exact⟨rfl,by rw [if_neg (zi8 _),if_pos rfl]⟩
 ·right;exact⟨k - 1,by omega,by rw [if_neg ⋯,if_neg ⋯],.inr ⟨z,by omega⟩⟩
theorem ins_at_q{α:Type}{q:Nat}{x:α}{f:Nat->α}:kH q x f q=x:=by unfold kH;rw [if_neg (zi8 _),if_pos rfl]
theorem zc1{α:Type}{q:Nat}{x:α}{f:Nat->α}{k:Nat} : ∃I,(I<q/\I=k\/q<I/\I=k+1)/\kH q x f I=f k:=by
 rcases ziN k q with z | z
 ·exact⟨k,.inl ⟨z,rfl⟩,by unfold kH;rw [if_pos z]⟩
 ·exact⟨k+1,.inr ⟨by omega,rfl⟩,by unfold kH;rw [if_neg ⋯,if_neg ⋯];rfl⟩
theorem zc2(hp:Pr p)(Y:IsB p n r B l){a:Nat}{R:Vc}(ha:a<n)(h1:R a=1)(hz : ∀i,i<a->R i=0)(hl : ∀k,k<r->R (l k)=0)(hR : ∀i,i<n->0<=R i/\R i<p) :
 IsB p n (r+1) (kH (yd l r a) R λk=>clr p R a (B k)) (kH (yd l r a) a l):=by
 have p0:=hp.pos;have ab : ∀k,k<r->l k≠a:=λk O e=>by have:=hl k O;rw [e,h1]at this;omega
 obtain⟨hq,q1,q2⟩:=vn Y.mono ab;have cr : ∀(w:Vc) i,0<=clr p R a w i/\clr p R a w i<p:=λw i=>⟨zi5 _ ⋯,ziS _ p0⟩;have ca : ∀w:Vc,clr p R a w a=0:=λw=>by unfold clr;rw [h1,Int.mul_one,Int.sub_self];simp
 have cl : ∀(w:Vc) k,k<r->0<=w (l k)->w (l k)<p->clr p R a w (l k)=w (l k):=λw k O h1 h2=>by
  unfold clr;rw [hl k O,Int.mul_zero,Int.sub_zero];exact zjn h1 h2
 have cb : ∀k j,k<r->j<l k->clr p R a (B k) j=0:=λk j O hj=>by
  unfold clr;rw [Y.bef k j O hj];rcases ziN a (l k)with z | z
  ·rw [Y.bef k a O z];simp
  ·rw [hz j ⋯];simp
 have two:=hp.two;have U : ∀k,k<r+1->(k=yd l r a/\kH (yd l r a) R (λk=>clr p R a (B k)) k=R/\kH (yd l r a) a l k=a)\/
  ∃I,I<r/\kH (yd l r a) R (λk=>clr p R a (B k)) k=clr p R a (B I)/\kH (yd l r a) a l k=l I/\((k<yd l r a/\I=k)\/(yd l r a<k/\I+1=k)):=by
  intro k O;rcases J6 (x:=R) (f:=λk=>clr p R a (B k)) hq O with⟨e1,e2⟩ | ⟨I,S,e1,e2⟩
  ·left;refine⟨e1,e2,?_⟩;subst e1;exact ins_at_q
  ·right
   refine⟨I,S,e1,?_,e2⟩;rcases e2 with⟨z1,z2⟩ | ⟨z1,z2⟩
   ·unfold kH;rw [if_pos z1,z2]
   ·unfold kH;rw [if_neg ⋯,if_neg ⋯];congr 1;omega
 refine⟨λk O=>?_,λk m ah hm=>?_,λk O=>?_,λk j O hj=>?_,λk m O hm ai=>?_,λk i O hi=>?_⟩
 ·rcases U k O with⟨_,_,e⟩ | ⟨I,S,_,e,_⟩
  ·rw [e];exact ha
  ·rw [e];exact Y.lt I S
 ·rcases U k ⋯with⟨z,_,e⟩ | ⟨I,S,_,e,z⟩<;>rcases U m hm with⟨z',_,e'⟩ | ⟨m',Z,_,e',z'⟩<;>rw [e,e']
  ·omega
  ·exact q2 m' ⋯ Z
  ·exact q1 I ⋯
  ·exact Y.mono I m' ⋯ Z
 ·rcases U k O with⟨_,e1,e⟩ | ⟨I,S,e1,e,_⟩<;>rw [e1,e]
  ·exact h1
  ·have o:=Y.one I S
   rw [cl _ I S ⋯ ⋯];exact o
 ·rcases U k O with⟨_,e1,e⟩ | ⟨I,S,e1,e,_⟩<;>rw [e1]<;>rw [e]at hj
  ·exact hz j hj
  ·exact cb I j S hj
 ·rcases U k O with⟨z,e1,_⟩ | ⟨I,S,e1,_,z⟩<;>rcases U m hm with⟨z',_,e'⟩ | ⟨m',Z,_,e',z'⟩<;>rw [e1,e']
  ·omega
  ·exact hl m' Z
  ·exact ca _
  ·have o:=Y.oth I m' S Z ⋯
   rw [cl _ m' Z ⋯ ⋯];exact o
 ·rcases U k O with⟨_,e1,_⟩ | ⟨I,S,e1,_,_⟩<;>rw [e1]
  ·exact hR i hi
  ·exact cr _ _
theorem zc4{G:Vc->Prop}{q:Nat}{R:Vc}{F:Nat->Vc}(z:q<=r)(I:Span p n G R)(O : ∀k,k<r->Span p n G (F k)) : ∀g,Fam (r+1) (kH q R F) g->Span p n G g:=by
 rintro g ⟨k,S,rfl⟩;rcases J6 (x:=R) (f:=F) z S with⟨_,e⟩ | ⟨U,Y,e,_⟩<;>rw [e]
 ·exact I
 ·exact O U Y
theorem zcU{q:Nat}{R:Vc}{F:Nat->Vc}(I:q<=r):Fam (r+1) (kH q R F) R/\∀k,k<r->Fam (r+1) (kH q R F) (F k):=by
 refine⟨⟨q,by omega,ins_at_q.symm⟩,λk O=>?_⟩;obtain⟨z,h,e⟩:=zc1 (q:=q) (x:=R) (f:=F) (k:=k);exact⟨z,by omega,e.symm⟩
theorem za0(hp:Pr p){W:Nat->Vc}{j a:Nat}{R R':Vc}{y:Int}(hb:IsB p n r B l)(ha:a<n)(S : ∀v,Span p n (Fam r B) v↔Span p n (Fam j W) v)(U:RInv p n r B l (W j) r R)(hy:y*R a%p=1)(Y : ∀i,i<n->R' i=y*R i%p)(Z:yd l r a<=r)(v:Vc) :
 Span p n (Fam (r+1) (kH (yd l r a) R' λk=>clr p R' a (B k))) v↔Span p n (Fam (j+1) W) v:=by
 have up : ∀v,Span p n (Fam j W) v->Span p n (Fam (j+1) W) v:=λv O=>O.le λg ⟨i,hi,e⟩=> .gen ⟨i,by omega,e⟩;have a0 : ∀k,k<r->Span p n (Fam (j+1) W) (B k):=λk I=>up _ ((S _).mp (.gen ⟨k,I,rfl⟩));have a6:Span p n (Fam (j+1) W) R:=(U.eqv _ a0).mp (.gen ⟨j,by omega,rfl⟩);have a1:Span p n (Fam (j+1) W) R':=(a6.smul y).congr λi hi=>by rw [Y i hi,ziY]
 obtain⟨m1,m2⟩:=zcU (R:=R') (F:=λk=>clr p R' a (B k)) Z;have a2:Span p n (Fam (r+1) (kH (yd l r a) R' λk=>clr p R' a (B k))) R':= .gen m1;have gB : ∀k,k<r->Span p n (Fam (r+1) (kH (yd l r a) R' λk=>clr p R' a (B k))) (B k):=λk I=>Xy (t:=a) a2 (.gen (m2 k I));have gR:Span p n (Fam (r+1) (kH (yd l r a) R' λk=>clr p R' a (B k))) R:=(a2.smul (R a)).congr λi hi=>by
  rw [Y i hi,kY,<- zkF,zjN (R a) y,ziE,hy,Int.one_mul,ziY]
 constructor
 ·exact λO=>O.le (zc4 Z a1 λk I=>vo a1 (a0 k I))
 ·refine λO=>O.le ?_
  rintro g ⟨i,hi,rfl⟩;rcases ziN i j with z | z
  ·exact((S _).mpr (.gen ⟨i,z,rfl⟩)).le λg hZ=>by obtain⟨k,I,e⟩:=hZ;rw [e];exact gB k I
  ·have:i=j:=by omega
   subst this;exact(U.eqv _ gB).mpr gR
theorem YR{W:Nat->Vc}{j:Nat}{R:Vc}(O : ∀v,Span p n (Fam r B) v↔Span p n (Fam j W) v)(S:RInv p n r B l (W j) r R)(U : ∀i,i<n->R i=0)(v:Vc):Span p n (Fam r B) v↔Span p n (Fam (j+1) W) v:=by
 constructor
 ·exact λI=>((O v).mp I).le λg ⟨i,hi,e⟩=> .gen ⟨i,by omega,e⟩
 ·refine λI=>I.le ?_
  rintro g ⟨i,hi,rfl⟩;rcases ziN i j with z | z
  ·exact(O _).mpr (.gen ⟨i,z,rfl⟩)
  ·have:i=j:=by omega
   subst this;exact(S.eqv _ λk Y=> .gen ⟨k,Y,rfl⟩).mpr (.zero λi hi=>by rw [U i hi];simp)
end
def Ja:CO Fl:=(zJ (z5 8 (sIx (zf 5) (ze 6))) (z5 5 (jq (zE (Jh (ze 5) (ze 7)) (.tp [0,1]) 2 [0,8] zV (zq jW (zq wo (ze 0) (zq qH (ze 3) (ze 1))) (ze 2))))))
def vp:CO Fl:=(zJ (z5 8 (sIx (zf 7) (ze 6))) (jY 11 (qj (zb (ze 12) (zb (jq (zE (Jh (ze 7) (ze 5)) (.tp [0,1]) 2 [0,8] zV (zq jW (zq wo (ze 0) (zq qH (ze 3) (ze 1))) (ze 2)))) zC)))))
def Wo:CO Fl:=(zJ (z5 6 (sIx (zf 9) (zk (.int 0)))) (zJ (z5 10 (sIx (zX (zE (yn (zk (.int 1)) (ze 0)) (.nm 0) 1 [0,5,6] (sB (zq dEq (zq jW (zq qH (ze 0) (sIx (zf 2) (ze 3))) (ze 1)) (zk (.int 1)))) (ze 0))) (zk (.int 0)))) (zJ (z5 5 (jq (zE (zD (zf 5)) (.nm 0) 1 [0,10] zV (zq jW (zq qH (ze 2) (ze 0)) (ze 1))))) (zJ (xS 11 (qF zC)) (zJ (xT (zD (zH (ze 3))) (.tp [12,7]) vp) (z5 3 (jq (QK (zX (yp (zf 11) (zX (qF (zb (qj (zb (ze 6) (zb (ze 5) zC))) zC)))))))))))))
def Kn:CO Fl:=(zJ (z5 5 (jq (kJ (zf 4)))) (zJ (xT (zD (zH (ze 3))) (.tp [6,7]) Ja) (zJ (z5 9 (jq (zE (zR (ze 1)) (.nm 0) 1 [5] (sB (zq dNe (sIx (zf 1) (ze 0)) (zk (.int 0)))) (ze 0)))) (sIf (sB (zq dGt (qw (zf 9)) (zk (.int 0)))) Wo jh))))
section
variable{p:Int}{n m:Nat}{kk:Sk}{W:Nat->Vc}{r:Nat}{B:Nat->Vc}{l:Nat->Nat}
theorem Kl{n:Nat}{p:Int}(z:Pr p)(hn:n<=lim)(x y:Vc)(t:Nat)(O:0<=x t/\x t<p) :
 zO (.tp [0,1]) zV (zq jW (zq wo (ze 0) (zq qH (ze 3) (ze 1))) (ze 2)) [Cell.no,Cell.no,Cell.val (.int p),Cell.val (.int (x t))] ((zie n).map λi=>D.tup [.int (x i),.int (y i)])=some (zB n (clr p y t x)):=by
 have I:=z.pos;have S:=z.le;rw [jg];refine zw _ _ λi hi=>zx rfl rfl ?_;simp [yf (x t) (y i) ⋯ ⋯,I,clr]
theorem zac(Y:Pr p)(hn:n<=lim)(Z:IsB p n r B l)(w:Vc)(hw : ∀i,i<n->0<=w i/\w i<p)(I O c6 c7 c8 c9 c10 c11 S:Cell) :
 ∃R d6 d7 d8,RInv p n r B l w r R/\qh (.tp [6,7]) Ja (kz n r B l) [.val (.int p),.val (.int n),I,.val (.lst (kz n r B l)),O,.val (.lst (zB n w)),c6,c7,c8,c9,c10,c11,S] =
  some (.next [.val (.int p),.val (.int n),I,.val (.lst (kz n r B l)),O,.val (.lst (zB n R)),d6,d7,d8,c9,c10,c11,S]):=by
 have key:=ka (T:= .tp [6,7]) (F:=Ja)
  (λk γ=>∃R c6 c7 c8,γ=[.val (.int p),.val (.int n),I,.val (.lst (kz n r B l)),O,.val (.lst (zB n R)),c6,c7,c8,c9,c10,c11,S]/\RInv p n r B l w k R)
  (kz n r B l) 0 [.val (.int p),.val (.int n),I,.val (.lst (kz n r B l)),O,.val (.lst (zB n w)),c6,c7,c8,c9,c10,c11,S]
  ⟨w,c6,c7,c8,rfl,hw,λq hq=>absurd hq (ziU _),λG _=>Iff.rfl⟩ (by
   rintro k d γ hd ⟨R,c6,c7,c8,rfl,z⟩;rw [zi1]at z ⊢;have U:k<r:=by have:=(zit.mp hd).1;simpa using this
   have a6:d = .tup [.int (l k),.lst (zB n (B k))]:=by simp [kz,U]at hd;exact hd.symm
   subst a6;have a0:=Z.lt k U;refine⟨_,.inl ?_,clr p (B k) (l k) R,.val (.int (l k)),.val (.lst (zB n (B k))),.val (.int (R (l k))),rfl,z.next Y Z U⟩;have cc:=Kl Y hn R (B k) (l k) (z.rng _ a0);simp only [Qm,zij,zjw,zjv,Ja];simp [jb,a0,kO,hn,zT,qG,zii,cc])
 obtain⟨γ',e,R,c6,c7,c8,rfl,z⟩:=key;rw [zi1,Kd]at z;exact⟨R,c6,c7,c8,z,e⟩
theorem YI(U:Pr p)(hn:n<=lim)(hr:r<=8)(Y:IsB p n r B l)(R:Vc){a:Nat}(ha:a<n)(I O c7 c8 c9 c10 z:Cell) :
 ∃Z d8 a1,qh (.tp [12,7]) vp (kz n r B l) [.val (.int p),.val (.int n),I,.val (.lst (kz n r B l)),O,.val (.lst (zB n R)),.val (.int a),c7,c8,c9,c10,.own [],z] =
  some (.next [.val (.int p),.val (.int n),I,.val (.lst (kz n r B l)),O,.val (.lst (zB n R)),.val (.int a),Z,d8,c9,c10,.own (kz n r (λk=>clr p R a (B k)) l),a1]):=by
 have hl:=jD;have key:=ka (T:= .tp [12,7]) (F:=vp)
  (λk γ=>∃c7 c8 z,γ=[.val (.int p),.val (.int n),I,.val (.lst (kz n r B l)),O,.val (.lst (zB n R)),.val (.int a),c7,c8,c9,c10,.own (kz n k (λk=>clr p R a (B k)) l),z])
  (kz n r B l) 0 [.val (.int p),.val (.int n),I,.val (.lst (kz n r B l)),O,.val (.lst (zB n R)),.val (.int a),c7,c8,c9,c10,.own [],z]
  ⟨c7,c8,z,rfl⟩ (by
   rintro k d γ hd ⟨c7,c8,z,rfl⟩;have S:k<r:=by have:=(zit.mp hd).1;simpa using this
   have a3:d = .tup [.int (l k),.lst (zB n (B k))]:=by simp [kz,S]at hd;exact hd.symm
   subst a3;refine⟨_,.inl ?_,.val (.lst (zB n (B k))),.val (.int (B k a)),.val (.int (l k)),rfl⟩;have cc:=Kl U hn (B k) R a (Y.rng k a S ha);have a5:kz n (0+k+1) (λk=>clr p R a (B k)) l=kz n (0+k) (λk=>clr p R a (B k)) l++[.tup [.int (l k),.lst (zB n (clr p R a (B k)))]]:=by
    simp [kz,zjE]
   rw [a5];have a6:k<lim:=by omega
   simp only [Qm,zij,zjw,zjv,vp];simp [jb,ha,kO,hn,zT,qG,zii,cc,a6])
 obtain⟨γ',e,c7,c8,z,rfl⟩:=key;rw [zi1,Kd]at e;exact⟨c7,c8,z,e⟩
theorem Jf(O:Pr p)(hn:n<=100)(hm:m<=8)(kk:Sk)(W:Nat->Vc)(hW : ∀j i,j<m->i<n->0<=W j i/\W j i<p) :
 ∃r B l,Zs [.int p,.int n,dsq kk (zS m n W)]=some (.own (zS r n B))/\IsB p n r B l/\r<=m/\∀v,Span p n (Fam r B) v↔Span p n (Fam m W) v:=by
 have hl:=jD;have Y:n<=lim:=by omega
 have p0:=O.pos;have two:=O.two;have b9:=O.le;have key:=ka (T:= .nm 4) (F:=Kn)
  (λj γ=>∃r B l c4 c5 c6 c7 c8 c9 c10 c11 S,γ=[.val (.int p),.val (.int n),.val (dsq kk (zS m n W)),.val (.lst (kz n r B l)),c4,c5,c6,c7,c8,c9,c10,c11,S]/\IsB p n r B l/\r<=j/\∀v,Span p n (Fam r B) v↔Span p n (Fam j W) v)
  (zS m n W) 0 [.val (.int p),.val (.int n),.val (dsq kk (zS m n W)),.val (.lst []),.no,.no,.no,.no,.no,.no,.no,.no,.no]
  ⟨0,λ_ _=>0,λ_=>0,.no,.no,.no,.no,.no,.no,.no,.no,.no,rfl,
   ⟨λk z=>absurd z (ziU _),λk q _ z=>absurd z (ziU _),λk z=>absurd z (ziU _),λk j z=>absurd z (ziU _),λk q z=>absurd z (ziU _),λk i z=>absurd z (ziU _)⟩,
   zim _,λv=>⟨λhv=>hv.le λg ⟨k,z,_⟩=>absurd z (ziU _),λhv=>hv.le λg ⟨k,z,_⟩=>absurd z (ziU _)⟩⟩ (by
   rintro j d γ hd ⟨r,B,l,c4,c5,c6,c7,c8,c9,c10,c11,S,rfl,I,a0,U⟩;rw [zi1]at a0 U ⊢;have hj:j<m:=by have:=(zit.mp hd).1;simpa using this
   have ag:d = .tup (zB n (W j)):=by simp [hj]at hd;exact hd.symm
   subst ag;have ah:r<=7:=by omega
   obtain⟨R,ai,a9,aa,Z,el⟩:=zac O Y I (W j) (λi hi=>hW j i hj hi) (.val (dsq kk (zS m n W))) (.val (.tup (zB n (W j)))) c6 c7 c8 c9 c10 c11 S;have a1:zO (.nm 0) (sB (zq dNe (sIx (zf 1) (ze 0)) (zk (.int 0)))) (ze 0) [Cell.no,Cell.val (.lst (zB n R))] ((zie n).map λ(i:Nat)=>D.int i)=some (((zie n).filter λi=> !decide (R i=0)).map λ(i:Nat)=>D.int i):=by
    refine ja _ _ _ λi hi=>⟨_,rfl,?_,λ_=>rfl⟩;simp [zig.mp hi]
   cases hf:(zie n).filter λi=> !decide (R i=0)with
   | nil=>
    have h0 : ∀i,i<n->R i=0:=λi hi=>by have:=vR hf i hi;simpa using this
    rw [hf]at a1;refine⟨_,.inl ?_,r,B,l,.val (.tup (zB n (W j))),.val (.lst (zB n R)),ai,a9,aa,.val (.lst []),c10,c11,S,rfl,I,by omega,YR U Z h0⟩;simp only [ky,zij,zjw,zjv,Kn];rw [jb];simp [jb];rw [el];simp [Y,jI,zT,qG,zii];rw [jg n λi=>(i:Int),a1];simp
   | cons a rest=>
    obtain⟨ha,ak,al⟩:=kc hf;have am:R a≠0:=by simpa using ak
    have an : ∀i,i<a->R i=0:=λi hi=>by have:=al i hi;simpa using this
    have ao:=Z.rng a ha;rw [hf]at a1;have a5:zO (.nm 0) (sB (zq dEq (zq jW (zq qH (ze 0) (sIx (zf 2) (ze 3))) (ze 1)) (zk (.int 1)))) (ze 0) [Cell.no,Cell.val (.int p),Cell.val (.lst (zB n R)),Cell.val (.int a)] (q8 1 (p - 1).toNat)=some (((zie (p - 1).toNat).filter λ(i:Nat)=>decide ((1+(i:Int))*R a%p=1)).map λ(i:Nat)=>D.int (1+(i:Int))):=by
     unfold q8;refine ja _ _ _ λi hi=>⟨_,rfl,?_,λ_=>rfl⟩;have ba:=zig.mp hi;simp [ha,yf (1+(i:Int)) (R a) ⋯ ⋯,p0]
    obtain⟨y0,bb,bc,ap⟩:=ze8 O (x:=R a) ⋯ ao.2;cases hg:(zie (p - 1).toNat).filter λ(i:Nat)=>decide ((1+(i:Int))*R a%p=1)with
    | nil=>
     have:=vR hg (y0 - 1) ⋯;rw [show(1:Int)+((y0 - 1:Nat):Int)=y0 by omega]at this;simp [ap]at this
    | cons b bd=>
     obtain⟨be,aq,_⟩:=kc hg;rw [hg]at a5;have ac:(1+(b:Int))*R a%p=1:=by simpa using aq
     have cy : ∀x,wB (1+(b:Int)) x=true:=λx=>yf _ _ ⋯ ⋯;have as:zO (.nm 0) zV (zq jW (zq qH (ze 2) (ze 0)) (ze 1)) [Cell.no,Cell.val (.int p),Cell.val (.int (1+(b:Int)))] (zB n R)=some (zB n λi=>(1+(b:Int))*R i%p):=by
      rw [jg,jg];refine zw _ _ λi hi=>zx rfl rfl ?_;simp [cy,p0]
     have au:(1+(b:Int))*R a%p=1:=ac;have ad : ∀k,k<r->l k≠a:=λk z e=>by have:=Z.zer k z;rw [e]at this;exact am this
     have isb:=zc2 O I (R:=λi=>(1+(b:Int))*R i%p) ha au (λi hi=>by rw [an i hi];simp) (λk z=>by rw [Z.zer k z];simp) λi _=>⟨zi5 _ ⋯,ziS _ p0⟩;have sp:=za0 O (R':=λi=>(1+(b:Int))*R i%p) I ha U Z ac (λi _=>rfl) (vn I.mono ad).1;obtain⟨av,aw,ax,es⟩:=YI O Y ⋯ I (λi=>(1+(b:Int))*R i%p) ha (.val (dsq kk (zS m n W))) (.val (.tup (zB n (W j)))) a9 aa (.val (.lst ((a::rest).map λ(i:Nat)=>D.int i))) (.val (.int (1+(b:Int)))) S;have so:=YK (n:=n) (x:=a) (B:=λk=>clr p (λi=>(1+(b:Int))*R i%p) a (B k)) (R:=λi=>(1+(b:Int))*R i%p) ah I.mono ad;refine⟨_,.inl ?_,r+1,_,_,.val (.tup (zB n (W j))),.val (.lst (zB n λi=>(1+(b:Int))*R i%p)),.val (.int a),av,aw,.val (.lst ((a::rest).map λ(i:Nat)=>D.int i)),.val (.int (1+(b:Int))),.own (kz n r (λk=>clr p (λi=>(1+(b:Int))*R i%p) a (B k)) l),ax,rfl,isb,by omega,sp⟩;simp only [ky,zij,zjw,zjv,Kn];rw [jb];simp [jb];rw [el];simp [Y,jI,zT,qG,zii];rw [jg n λi=>(i:Int),a1];have az:inR p=true:=Zk ⋯ ⋯;have i1:inR 1=true:=by decide
     have lp:(q8 1 (p - 1).toNat).length<=lim:=by simp [q8];omega
     have b0:(0:Int)<(rest.length:Int)+1:=by omega
     have b5:(p - 1).toNat=p.toNat - 1:=by omega
     rw [b5]at a5 lp;simp [Wo,jb,b0,az,i1,lp,zT,qG,zii,a5,as,Y];simp at es;rw [es];have a7:r+1<=lim:=by omega
     simp [a7,so])
 obtain⟨γ',e1,r,B,l,c4,c5,c6,c7,c8,c9,c10,c11,S,rfl,I,a0,U⟩:=key;rw [zi1,Ke]at a0 U;refine⟨r,B,l,?_,I,a0,U⟩;have e0:Zs [.int p,.int n,dsq kk (zS m n W)]=jC 13 (zJ (z5 3 (jq (qF zC))) (zJ (xT (zD (zH (ze 2))) (.nm 4) Kn) (xC (zE (zD (zf 3)) (.tp [0,1]) 2 [] zV (zF (zf 1)))))) [.int p,.int n,dsq kk (zS m n W)]:=rfl;have b7:zO (.tp [0,1]) zV (zF (zf 1)) [Cell.no,Cell.no] (kz n r B l)=some (zS r n B):=by
  unfold kz zS;refine zw _ _ λk z=>zx rfl rfl ?_;simp
 have a7:r<=lim:=by omega
 rw [e0];simp [jC,je,jb,zii];rw [e1];simp [a7,zT,zii,b7]
end
theorem Wb(h w f):deep (.lst (zS h w f))<=2:=Kg h w f
theorem zaI(h w f):okS (.lst (zS h w f))=true:=Vk h w f
theorem XV(h w f):okD (.lst (zS h w f))=true:=Zb (Wb h w f) ⋯ (zaI h w f)
section
variable{p:Int}{n m r:Nat}{G:Vc->Prop}
theorem Span.sum{u:Nat->Vc}(c:Nat->Int) : ∀{m:Nat},(∀k,k<m->Span p n G (u k))->Span p n G λi=>zo (λk=>c k*u k i) m
 | 0,_=> .zero λi _=>by simp [zo]
 | m+1,h=>(((h m ⋯).add (Span.sum c (m:=m) λk z=>h k ⋯) (c m))).congr λi _=>by simp [zo]
def Rk(p:Int)(n m:Nat)(W:Nat->Vc)(r:Nat):Prop:=∃B l,IsB p n r B l/\∀v,Span p n (Fam r B) v↔Span p n (Fam m W) v
theorem yt(S:Pr p){W:Nat->Vc}{r r':Nat}(h:Rk p n m W r)(h':Rk p n m W r'):r=r':=by
 obtain⟨B,l,U,I⟩:=h;obtain⟨B',l',Y,O⟩:=h';exact(wt S U Y (λv z=>(O v).mpr ((I v).mp z)) (λv z=>(I v).mpr ((O v).mp z))).1
theorem YW(z:Pr p)(hn:n<=100)(hm:m<=8)(W:Nat->Vc) : ∃r,r<=m/\Rk p n m W r:=by
 obtain⟨r,B,l,_,O,S,U⟩:=Jf z hn hm .L (λj i=>W j i%p) (λj i _ _=>⟨zi5 _ (by have:=z.pos;omega),ziS _ z.pos⟩);refine⟨r,S,B,l,O,λv=>(U v).trans ⟨λh=>h.le λg ⟨k,I,e⟩=>?_,λh=>h.le λg ⟨k,I,e⟩=>?_⟩⟩
 ·subst e;exact(Span.gen (g:=W k) ⟨k,I,rfl⟩).congr λi _=>by rw [ziY]
 ·subst e;exact(Span.gen (g:=λi=>W k i%p) ⟨k,I,rfl⟩).congr λi _=>by rw [ziY]
theorem zd3(hp:Pr p){m' r r':Nat}{W U:Nat->Vc}(h:Rk p n m W r)(h':Rk p n m' U r')(hw : ∀j,j<m->Span p n (Fam m' U) (W j)):r<=r':=by
 obtain⟨B,l,S,hs⟩:=h;obtain⟨B',l',Y,a3⟩:=h';have s1 : ∀k,k<r->∃q,q<r'/\l' q=l k:=λk I=>Q3 Y ((a3 _).mpr (((hs _).mp (.gen ⟨k,I,rfl⟩)).le λg ⟨j,hj,e⟩=>e ▸ hw j hj)) (S.lt k I) (by rw [S.one k I,hp.one];decide) λi hi=>by rw [S.bef k i I hi];simp
 have key : ∀k,k<r->∀q,q<r'->l' q=l k->k<=q:=by
  intro k
  induction k with
  | zero=>intro _ q _ _;exact zjj _
  | succ k ih=>
   intro I q Z e;obtain⟨O,a0,e0⟩:=s1 k ⋯;have h1:=ih ⋯ O a0 e0;have h2:=S.mono k (k+1) ⋯ I;rcases ziN O q with z | z
   ·omega
   ·rcases ziN q O with y | y
    ·have:=Y.mono q O y a0
     omega
    ·have:q=O:=by omega
     subst this;omega
 rcases Nat.eq_zero_or_pos r with z | z
 ·omega
 ·obtain⟨q,Z,e⟩:=s1 (r - 1) ⋯
  have:=key (r - 1) ⋯ q Z e;omega
end
section
variable{p:Int}{n m r h w:Nat}
theorem ve{l:Nat->Nat}(h:Nat) : ∀{r:Nat},(∀k m,k<m->m<r->l k<l m)->∃s,s<=r/\(∀k,k<s->l k<h)/\∀k,s<=k->k<r->h<=l k
 | 0,_=>⟨0,zim _,λk I=>absurd I (ziU _),λk _ I=>absurd I (ziU _)⟩
 | r+1,hm=>by
  obtain⟨s,h1,h2,O⟩:=ve h (r:=r) λk m I S=>hm k m I ⋯;by_cases e:l r<h
  ·refine⟨r+1,zim _,λk I=>?_,λk h1 h2=>by omega⟩
   rcases ziN k r with z | z
   ·have:=hm k r z ⋯;omega
   ·have:k=r:=by omega
    subst this;exact e
  ·refine⟨s,by omega,h2,λk I U=>?_⟩
   rcases ziN k r with z | z
   ·exact O k I z
   ·have:k=r:=by omega
    subst this;omega
theorem Xb{q:Nat->Bool}{s r:Nat}(O:s<=r)(h1 : ∀k,k<s->q k=false)(h2 : ∀k,s<=k->k<r->q k=true):(zie r).filter q=(zie (r - s)).map (s + ·):=by
 obtain⟨d,rfl⟩ : ∃d,r=s+d:=⟨r - s,by omega⟩;rw [zk7,zk5];have e1:(zie s).filter q=[]:=List.filter_eq_nil_iff.mpr λk z=>by rw [h1 k (zig.mp z)];decide
 have I:((zie d).map (s + ·)).filter q=(zie d).map (s + ·):=List.filter_eq_self.mpr λk z=>by
  obtain⟨i,hi,rfl⟩:=ziB.mp z;exact h2 _ ⋯ (by have:=zig.mp hi;omega)
 rw [e1,I,zjV];rfl
def xW(h:Nat)(u v:Vc):Vc:=λi=>if i<h then u i else v (i - h)
def jG(j:Nat):Vc:=λk=>if j=k then 1 else 0
theorem jR{u v:Vc}{i:Nat}(hi:i<h):xW h u v i=u i:=if_pos hi
theorem j7{u v:Vc}(i:Nat):xW h u v (h+i)=v i:=by unfold xW;rw [if_neg ⋯,zjV]
theorem vj(h w:Nat)(u v:Vc):zB h u++zB w v=zB (h+w) (xW h u v):=by
 unfold zB;rw [zk7,zjf];congr 1
 ·exact ziy λi hi=>by rw [jR (zig.mp hi)]
 ·rw [ziZ]
  exact ziy λi _=>by simp only [Function.comp];rw [j7]
theorem V4(h w:Nat)(v:Vc):(zB (h+w) v).take h=zB h v:=by
 unfold zB;rw [<- List.map_take,List.take_range,Nat.min_eq_left (ziL h w)]
theorem V5(h w:Nat)(v:Vc):(zB (h+w) v).drop h=zB w λj=>v (h+j):=by
 unfold zB;rw [zk7,zjf,List.drop_append_of_le_length ⋯,List.drop_eq_nil_of_le ⋯,ziZ];rfl
theorem Kj(h w:Nat)(v:Vc):WK (zB (h+w) v) none (some (h:Int))=zB h v:=by
 have c : ¬((h:Int)<0):=by omega
 have e:min h (h+w)=h:=Nat.min_eq_left (ziL h w);simp [WK,Yh,c,e,V4]
theorem Ki(h w:Nat)(v:Vc):WK (zB (h+w) v) (some (h:Int)) none=zB w λj=>v (h+j):=by
 have c : ¬((h:Int)<0):=by omega
 have e:min h (h+w)=h:=Nat.min_eq_left (ziL h w);have t : ∀g:Vc,(zB w g).take w=zB w g:=λg=>zkH ⋯;simp [WK,Yh,c,e,V5,t]
theorem XA(v:Vc) : ∀n,yl (zB n v)=some ((zie n).map λi=>v i != 0)
 | 0=>rfl
 | n+1=>by
  have key : ∀l:List Nat,yl (l.map λi=>D.int (v i))=some (l.map λi=>v i != 0):=by
   intro l
   induction l with
   | nil=>rfl
   | cons a l z=>simp [yl,zfB,z]
  exact key _
theorem wz{B:Nat->Vc}{l:Nat->Nat}(I:IsB p (h+w) r B l)(O:r<=lim){s:Nat}(S:s<=r)(h1 : ∀k,k<s->l k<h)(h2 : ∀k,s<=k->k<r->h<=l k) :
 F_behind_noughts [.int h,.lst (zS r (h+w) B)]=some (.own (zS (r - s) w λk j=>B (s+k) (h+j))):=by
 have key:zO (.nm 0) (jc (sB (zbB (zH (KI (ze 0) KK (sBd (ze 1))))))) (KI (ze 0) (sBd (ze 1)) KK) [Cell.no,Cell.val (.int h)] (zS r (h+w) B)=some (((zie r).filter λk=>decide (h<=l k)).map λk=>D.tup (zB w λj=>B k (h+j))):=by
  unfold zS;refine ja (λk=>decide (h<=l k)) _ _ λk z=>⟨_,rfl,?_,λU=>?_⟩
  ·have z:=zig.mp z
   simp [Kj,XA];by_cases e:h<=l k
   ·simp [e]
    intro i hi;have:=I.bef k i z ⋯;simp [this]
   ·simp [e]
    exact⟨l k,by omega,by rw [I.one k z];decide⟩
  ·simp [Ki]
 rw [Xb S (λk z=>decide_eq_false (by have:=h1 k z;omega)) (λk a b=>decide_eq_true (h2 k a b))]at key;simp [F_behind_noughts,jC,je,O,zT,qG,zii,key];unfold zS;rfl
def Ker(p:Int)(h w:Nat)(f:Nat->Nat->Int)(v:Vc):Prop:=∀i,i<h->zo (λj=>f i j*v j) w%p=0
theorem zaB{f:Nat->Nat->Int}{v:Vc}(O:Span p (h+w) (Fam w λj=>xW h (λi=>f i j) (jG j)) v) : ∀i,i<h->v i%p=zo (λj=>f i j*v (h+j)) w%p:=by
 induction O with
 | @zero v z=>
  intro i hi;rw [z i ⋯];have:zo (λj=>f i j*v (h+j)) w%p=zo (λ_=>0) w%p:=zU λj S=>by rw [ziE,z (h+j) ⋯];simp
  rw [this,zZ];rfl
 | @step v u g c U hu I Y=>
  intro i hi;obtain⟨m,hm,rfl⟩:=U;rw [I i ⋯,zjB,Y i hi,<- zjB];have e1:zo (λj=>f i j*v (h+j)) w%p=zo (λj=>f i j*u (h+j)+c*(f i j*jG m j)) w%p:=zU λj S=>by
   rw [ziE,I (h+j) ⋯,<- ziE];simp only [j7];rw [zlq,zl6]
  rw [e1,ql,jX,z7 (f:=λj=>f i j*jG m j) hm λj _ Z=>by simp [jG,zi6 Z]];simp [jG,jR hi]
theorem Xx(I:Pr p)(w:Nat):IsB p w w jG id where
 lt:=λk z=>z
 mono:=λk m z _=>z
 one:=λk _=>if_pos rfl
 bef:=λk j _ O=>if_neg (by simp only [id]at O;omega)
 oth:=λk m _ _ S=>if_neg (by simp only [id];omega)
 rng:=λk i _ _=>by have:=I.two;unfold jG;split<;>omega
theorem Span.map{n':Nat}{G G':Vc->Prop}(t:Nat->Nat)(z : ∀i,i<n'->t i<n)(I : ∀g,G g->Span p n' G' λi=>g (t i)){v:Vc}(O:Span p n G v):Span p n' G' λi=>v (t i):=by
 induction O with
 | @zero v S=>exact .zero λi hi=>S _ (z i hi)
 | @step v u g c U hu Y Z=>exact((I _ U).add Z c).congr λi hi=>Y _ (z i hi)
theorem xO(Z:Pr p)(hh:h<=20)(hw:w<=8)(f:Nat->Nat->Int) :
 ∃q K l s,F_kernel [.int p,jf h w f]=some (.own (zS q w K))/\IsB p w q K l/\(∀v,Span p w (Fam q K) v↔Ker p h w f v)/\Rk p h w (λj i=>f i j) s/\q+s=w:=by
 have hl:=jD;have a7:h<=lim:=by omega
 have a1:w<=lim:=by omega
 have a8:h+w<=lim:=by omega
 obtain⟨r,B,l,e,O,a0⟩:=qI Z (show h+w<=100 by omega) a1 .L λj=>xW h (λi=>f i j) (jG j);have a9 : ∀v,Span p (h+w) (Fam r B) v->∀i,i<h->v i%p=zo (λj=>f i j*v (h+j)) w%p:=λv U=>zaB ((a0 v).mp U);have aa:r<=w:=by
  obtain⟨r',h1,h2⟩:=YW Z (n:=h+w) ⋯ hw λj=>xW h (λi=>f i j) (jG j);rw [yt Z ⟨B,l,O,a0⟩ h2];exact h1
 have ab:w<=r:=by
  obtain⟨r',h1,h2⟩:=YW Z (n:=w) ⋯ (show r<=8 by omega) λk j=>B k (h+j);refine zjt (zd3 Z (m:=w) (W:=jG) ⟨jG,id,Xx Z w,λv=>Iff.rfl⟩ h2 λj S=>?_) h1;have:=Span.map (n':=w) (G':=Fam r λk j=>B k (h+j)) (λi=>h+i) (λi hi=>by omega) (λg ⟨k,I,Y⟩=> .gen ⟨k,I,by rw [Y]⟩) ((a0 (xW h (λi=>f i j) (jG j))).mpr (.gen ⟨j,S,rfl⟩));exact this.congr λi _=>by rw [j7]
 have er:r=w:=Nat.le_antisymm aa ab;subst er;obtain⟨s,hs,s1,s2⟩:=ve h O.mono;have eb:=wz O a1 hs s1 s2;have af:IsB p r (r - s) (λk j=>B (s+k) (h+j)) (λk=>l (s+k) - h):={
  lt:=λk I=>by have:=O.lt (s+k) ⋯;have:=s2 (s+k) ⋯ ⋯;omega
  mono:=λk m I hm=>by have:=O.mono (s+k) (s+m) ⋯ ⋯;have:=s2 (s+k) ⋯ ⋯;omega
  one:=λk I=>by
   have:=s2 (s+k) ⋯ ⋯;rw [show h+(l (s+k) - h)=l (s+k)by omega];exact O.one _ ⋯
  bef:=λk j I S=>O.bef _ _ ⋯ ⋯
  oth:=λk m I hm a2=>by
   have:=s2 (s+m) ⋯ ⋯;rw [show h+(l (s+m) - h)=l (s+m)by omega];exact O.oth _ _ ⋯ ⋯ ⋯
  rng:=λk i I hi=>O.rng _ _ ⋯ ⋯}
 refine⟨r - s,_,_,s,?_,af,λv=>⟨λU=>?_,λU=>?_⟩,?_,by omega⟩
 ·have ov:=yk f a7 a1
  have sm:=km (n:=r) a1;have key:zO (.tp [0,1]) zV (zq jx (ze 0) (ze 1)) [Cell.no,Cell.no] ((zie r).map λj=>D.tup [.tup (zB h λi=>f i j),.tup (zB r λk=>if j=k then 1 else 0)])=some (zS r (h+r) λj=>xW h (λi=>f i j) (jG j)):=by
   unfold zS;refine zw _ _ λj S=>zx rfl rfl ?_;simp [jx,a8,vj];rfl
  have zp:Jg (zS r h λi j=>f j i) (zS r r λi j=>if i=j then 1 else 0)=(zie r).map λj=>D.tup [.tup (zB h λi=>f i j),.tup (zB r λk=>if j=k then 1 else 0)]:=by
   unfold Jg zS;rw [zkz];simp
  have c1:((h:Int)+(r:Int))=((h+r:Nat):Int):=by omega
  simp only [dsq]at e;rw [<- c1]at e;unfold jf at ov sm ⊢;have nl : ∀T t f γ,zO T t f γ []=some []:=λ_ _ _ _=>rfl;simp [F_kernel,F_led_into,jC,je,jb,ov,sm,zp,a1,zT,zii,key,nl,e,eb]
 ·intro i hi
  induction U with
  | @zero v hz=>
   have:zo (λj=>f i j*v j) r%p=zo (λ_=>0) r%p:=zU λj S=>by rw [ziE,hz j S];simp
   rw [this,zZ];rfl
  | @step v u g c hg hu he ih=>
   obtain⟨k,I,rfl⟩:=hg;have e1:zo (λj=>f i j*v j) r%p=zo (λj=>f i j*u j+c*(f i j*B (s+k) (h+j))) r%p:=zU λj S=>by
    rw [ziE,he j S,<- ziE,zlq,zl6]
   have e2:=a9 (B (s+k)) (.gen ⟨s+k,by omega,rfl⟩) i hi;have e3:B (s+k) i=0:=O.bef _ _ ⋯ (by have:=s2 (s+k) ⋯ ⋯;omega);rw [e3]at e2;rw [e1,ql,jX,zjB,ih,ziE,<- e2];simp
 ·
  have an:Span p (h+r) (Fam r B) (xW h (λ_=>0) v):=by
   refine(a0 _).mpr ((Span.sum (u:=λj=>xW h (λi=>f i j) (jG j)) v (m:=r) λj S=> .gen ⟨j,S,rfl⟩).congr λi hi=>?_);rcases ziN i h with z | z
   ·simp only [jR z]
    rw [zK (g:=λj=>f i j*v j) λj _=>zjN _ _,U i z];simp
   ·obtain⟨k,rfl⟩ : ∃k,i=h+k:=⟨i - h,by omega⟩
    simp only [j7];rw [z7 (f:=λj=>v j*jG j k) (i:=k) ⋯ λj _ a2=>by simp [jG,a2]];simp [jG]
  have co:=wO O an;refine(Span.sum (u:=λk j=>B (s+k) (h+j)) (λk=>xW h (λ_=>0) v (l (s+k))) (m:=r - s) λk I=> .gen ⟨k,I,rfl⟩).congr λj S=>?_;have:=co (h+j) ⋯;rw [j7]at this;rw [this];obtain⟨d,rfl⟩ : ∃d,r=s+d:=⟨r - s,by omega⟩;rw [zjV];have sp : ∀(F:Nat->Int) (d:Nat),(∀k,k<s->F k=0)->zo F (s+d)=zo (λk=>F (s+k)) d:=by
   intro F d hF
   induction d with
   | zero=>
    show zo F s=0;rw [zK (g:=λ_=>0) hF,zZ]
   | succ d ih=>rw [<- zlX];simp only [zo];rw [ih]
  rw [sp _ d λk I=>by rw [jR (s1 k I)];simp]
 ·
  refine⟨λk i=>B k i,l,⟨λk I=>s1 k I,λk m I hm=>O.mono k m I ⋯,λk I=>O.one k ⋯,λk j I S=>O.bef k j ⋯ S,λk m I hm a2=>O.oth k m ⋯ ⋯ a2,λk i I hi=>O.rng k i ⋯ ⋯⟩,λv=>⟨λU=>U.le λg ⟨k,I,Y⟩=>?_,λU=>U.le λg ⟨j,S,Y⟩=>?_⟩⟩
  ·subst Y
   exact Span.map (n':=h) (G':=Fam r λj i=>f i j) (λi=>i) (λi hi=>by omega) (λg ⟨j,S,Y⟩=>(Span.gen (g:=λi=>f i j) ⟨j,S,rfl⟩).congr λi hi=>by rw [Y];simp only [jR hi]) ((a0 (B k)).mp (.gen ⟨k,by omega,rfl⟩))
  ·subst Y
   have:=Span.map (n':=h) (G':=Fam s λk i=>B k i) (λi=>i) (λi hi=>by omega) (λg hZ=>by
    obtain⟨k,I,Y⟩:=hZ;subst Y;rcases ziN k s with z | z
    ·exact .gen ⟨k,z,rfl⟩
    ·exact .zero λi hi=>by rw [O.bef k i I (by have:=s2 k z I;omega)];simp) ((a0 (xW h (λi=>f i j) (jG j))).mpr (.gen ⟨j,S,rfl⟩))
   exact this.congr λi hi=>by rw [jR hi]
end
section
variable{p:Int}{h w q r:Nat}
def app(f:Nat->Nat->Int)(w:Nat)(v:Vc):Vc:=λi=>zo (λj=>f i j*v j) w
theorem zdr{f:Nat->Nat->Int}{u g v:Vc}{c:Int}(z : ∀j,j<w->v j%p=(u j+c*g j)%p)(i:Nat):app f w v i%p=(app f w u i+c*app f w g i)%p:=by
 unfold app;have e:zo (λj=>f i j*v j) w%p=zo (λj=>f i j*u j+c*(f i j*g j)) w%p:=zU λj I=>by
  rw [ziE,z j I,<- ziE,zlq,zl6]
 rw [e,ql,jX]
theorem zbi{f:Nat->Nat->Int}{v:Vc}(z : ∀j,j<w->v j%p=0)(i:Nat):app f w v i%p=0:=by
 unfold app;have:zo (λj=>f i j*v j) w%p=zo (λ_=>0) w%p:=zU λj I=>by rw [ziE,z j I];simp
 rw [this,zZ];rfl
theorem qp{f:Nat->Nat->Int}{u v:Vc}(z : ∀j,j<w->v j%p=u j%p)(i:Nat):app f w v i%p=app f w u i%p:=by
 unfold app;exact zU λj I=>by rw [ziE,z j I,<- ziE]
theorem Kz(O:IsB p (h+w) r B l){s:Nat}(hs:s<=r)(s1 : ∀k,k<s->l k<h)(s2 : ∀k,s<=k->k<r->h<=l k) :
 IsB p w (r - s) (λk j=>B (s+k) (h+j)) (λk=>l (s+k) - h)/\∀v,Span p w (Fam (r - s) λk j=>B (s+k) (h+j)) v↔Span p (h+w) (Fam r B) (xW h (λ_=>0) v):=by
 refine⟨{
  lt:=λk I=>by have:=O.lt (s+k) ⋯;have:=s2 (s+k) ⋯ ⋯;omega
  mono:=λk m I hm=>by have:=O.mono (s+k) (s+m) ⋯ ⋯;have:=s2 (s+k) ⋯ ⋯;omega
  one:=λk I=>by
   have:=s2 (s+k) ⋯ ⋯;rw [show h+(l (s+k) - h)=l (s+k)by omega];exact O.one _ ⋯
  bef:=λk j I Y=>O.bef _ _ ⋯ ⋯
  oth:=λk m I hm a4=>by
   have:=s2 (s+m) ⋯ ⋯;rw [show h+(l (s+m) - h)=l (s+m)by omega];exact O.oth _ _ ⋯ ⋯ ⋯
  rng:=λk i I hi=>O.rng _ _ ⋯ ⋯},λv=>⟨λS=>?_,λS=>?_⟩⟩
 ·induction S with
  | @zero v Z=>
   refine .zero λi hi=>?_;rcases ziN i h with z | z
   ·rw [jR z];simp
   ·obtain⟨k,rfl⟩ : ∃k,i=h+k:=⟨i - h,by omega⟩
    rw [j7];exact Z k ⋯
  | @step v u g c hg hu he U=>
   obtain⟨k,I,rfl⟩:=hg;refine .step (g:=B (s+k)) (c:=c) ⟨s+k,by omega,rfl⟩ U λi hi=>?_;rcases ziN i h with z | z
   ·rw [jR z,jR z,O.bef (s+k) i ⋯ (by have:=s2 (s+k) ⋯ ⋯;omega)];simp
   ·obtain⟨j,rfl⟩ : ∃k,i=h+k:=⟨i - h,by omega⟩
    rw [j7,j7];exact he j ⋯
 ·have co:=wO O S
  refine(Span.sum (u:=λk j=>B (s+k) (h+j)) (λk=>xW h (λ_=>0) v (l (s+k))) (m:=r - s) λk I=> .gen ⟨k,I,rfl⟩).congr λj Y=>?_;have:=co (h+j) ⋯;rw [j7]at this;rw [this];obtain⟨d,rfl⟩ : ∃d,r=s+d:=⟨r - s,by omega⟩;rw [zjV];have sp : ∀(F:Nat->Int) (d:Nat),(∀k,k<s->F k=0)->zo F (s+d)=zo (λk=>F (s+k)) d:=by
   intro F d hF
   induction d with
   | zero=>
    show zo F s=0;rw [zK (g:=λ_=>0) hF,zZ]
   | succ d U=>rw [<- zlX];simp only [zo];rw [U]
  rw [sp _ d λk I=>by rw [jR (s1 k I)];simp]
end
section
variable{p:Int}{h w q:Nat}
def qk(h w:Nat)(f:Nat->Nat->Int)(g:Nat->Vc):Nat->Vc:=λm=>if m<w then xW h (λi=>f i m) (jG m)else xW h (g (m - w)) (λ_=>0)
theorem V6(f:Nat->Nat->Int)(g:Nat->Vc):zS w (h+w) (λj=>xW h (λi=>f i j) (jG j))++zS q (h+w) (λk=>xW h (g k) λ_=>0)=zS (w+q) (h+w) (qk h w f g):=by
 unfold zS;rw [zk7,zjf,ziZ];congr 1
 ·refine ziy λm hm=>?_
  unfold qk;rw [if_pos (zig.mp hm)]
 ·refine ziy λm hm=>?_
  simp only [Function.comp];unfold qk;rw [if_neg ⋯,zjV]
theorem yj(f:Nat->Nat->Int){j:Nat}(z:j<w)(i:Nat):app f w (jG j) i=f i j:=by
 unfold app;rw [z7 (f:=λk=>f i k*jG j k) z λk _ I=>by simp [jG,zi6 I]];simp [jG]
theorem Vi{f:Nat->Nat->Int}{g:Nat->Vc}{z:Vc}(I:Span p (h+w) (Fam (w+q) (qk h w f g)) z):Span p h (Fam q g) λi=>z i - app f w (λj=>z (h+j)) i:=by
 induction I with
 | @zero z I=>
  refine .zero λi hi=>?_;rw [zjZ,I i ⋯,zbi (p:=p) (λj Z=>I (h+j) ⋯) i];simp
 | @step z u g' c hg hu U Y=>
  obtain⟨m,hm,rfl⟩:=hg;have e2:=λi=>zdr (p:=p) (w:=w) (f:=f) (u:=λj=>u (h+j)) (g:=λj=>qk h w f g m (h+j)) (v:=λj=>z (h+j)) (c:=c) (λj Z=>U (h+j) ⋯) i;have key : ∀i,i<h->(z i - app f w (λj=>z (h+j)) i)%p=((u i - app f w (λj=>u (h+j)) i)+c*(qk h w f g m i - app f w (λj=>qk h w f g m (h+j)) i))%p:=λi hi=>by
   rw [zjZ,U i ⋯,e2 i,<- zjZ];congr 1;rw [Int.mul_sub];omega
  rcases ziN m w with O | O
  ·refine Y.congr λi hi=>?_
   rw [key i hi];have t:app f w (λj=>qk h w f g m (h+j)) i=f i m:=by
    have:(λj=>qk h w f g m (h+j))=jG m:=by
     funext j;unfold qk;rw [if_pos O,j7]
    rw [this,yj f O]
   have S:qk h w f g m i=f i m:=by unfold qk;rw [if_pos O,jR hi]
   rw [t,S];simp
  ·refine .step (g:=g (m - w)) (c:=c) ⟨m - w,by omega,rfl⟩ Y λi hi=>?_
   rw [key i hi];have t:app f w (λj=>qk h w f g m (h+j)) i=0:=by
    have:(λj=>qk h w f g m (h+j))=λ_=>0:=by
     funext j;unfold qk;rw [if_neg ⋯,j7]
    rw [this];unfold app;simp [zZ]
   have S:qk h w f g m i=g (m - w) i:=by unfold qk;rw [if_neg ⋯,jR hi]
   rw [t,S];simp
theorem zc9{f:Nat->Nat->Int}{g:Nat->Vc}{y:Vc}(I:Span p h (Fam q g) y):Span p (h+w) (Fam (w+q) (qk h w f g)) (xW h y λ_=>0):=by
 induction I with
 | @zero y O=>
  refine .zero λi hi=>?_;rcases ziN i h with z | z
  ·rw [jR z];exact O i z
  ·obtain⟨k,rfl⟩ : ∃k,i=h+k:=⟨i - h,by omega⟩
   rw [j7];simp
 | @step y u g' c S Z U Y=>
  obtain⟨k,hk,rfl⟩:=S;refine .step (g:=qk h w f g (w+k)) (c:=c) ⟨w+k,by omega,rfl⟩ Y λi hi=>?_;have e:qk h w f g (w+k)=xW h (g k) λ_=>0:=by
   unfold qk;rw [if_neg ⋯,zjV]
  rw [e];rcases ziN i h with z | z
  ·rw [jR z,jR z,jR z];exact U i z
  ·obtain⟨j,rfl⟩ : ∃k,i=h+k:=⟨i - h,by omega⟩
   rw [j7,j7,j7];simp
theorem Je(hp:Pr p)(hh:h<=20)(hw:w<=20)(hq:q<=100)(f:Nat->Nat->Int)(g:Nat->Vc) :
 ∃r B l,F_led_into [.int p,jf h w f,.lst (zS q h g)]=some (.own (zS r w B))/\IsB p w r B l/\∀v,Span p w (Fam r B) v↔Span p h (Fam q g) (app f w v):=by
 have hl:=jD;have ab:h<=lim:=by omega
 have I:w<=lim:=by omega
 have S:h+w<=lim:=by omega
 have ac:q<=lim:=by omega
 have U:w+q<=lim:=by omega
 obtain⟨r,B,l,e,O,a3⟩:=qI hp (show h+w<=100 by omega) U .L (qk h w f g);have ad:r<=h+w:=QX O.mono O.lt;obtain⟨s,Y,s1,s2⟩:=ve h O.mono;have eb:=wz O ⋯ Y s1 s2;obtain⟨a5,tl⟩:=Kz O Y s1 s2;refine⟨r - s,_,_,?_,a5,λv=>(tl v).trans ((a3 _).trans ⟨λZ=>?_,λZ=>?_⟩)⟩
 ·have ov:=yk f ab I
  have sm:=km (n:=w) I;have key:zO (.tp [0,1]) zV (zq jx (ze 0) (ze 1)) [Cell.no,Cell.no] ((zie w).map λj=>D.tup [.tup (zB h λi=>f i j),.tup (zB w λk=>if j=k then 1 else 0)])=some (zS w (h+w) λj=>xW h (λi=>f i j) (jG j)):=by
   unfold zS;refine zw _ _ λj hj=>zx rfl rfl ?_;simp [jx,S,vj];rfl
  have zp:Jg (zS w h λi j=>f j i) (zS w w λi j=>if i=j then 1 else 0)=(zie w).map λj=>D.tup [.tup (zB h λi=>f i j),.tup (zB w λk=>if j=k then 1 else 0)]:=by
   unfold Jg zS;rw [zkz];simp
  have a7:inR (w:Int)=true:=yC I;have zr:qH (.tup [.int 0]) (.int w)=some (.tup (zB w λ_=>0)):=by
   show(if [D.int 0].length*(w:Int).toNat<=lim/\inR (w:Int)=true then some (D.tup (zii (w:Int).toNat [D.int 0]).flatten)else none)=_;rw [if_pos ⟨by simpa using I,a7⟩];congr 2;rw [zjK];clear key zp sm ov eb a5 tl a3 O e a7 U S I hw hq s1 s2 Y ad
   induction w with
   | zero=>rfl
   | succ w ih=>rw [List.replicate_succ',List.flatten_append,ih];unfold zB;rw [zjE,zjf];rfl
  have fr:zO (.nm 0) zV (zq jx (ze 0) (zq qH (qj (zb (zk (.int 0)) zC)) (sIx (zf 1) (zk (.int 1))))) [Cell.no,Cell.val (jf h w f)] (zS q h g)=some (zS q (h+w) λk=>xW h (g k) λ_=>0):=by
   unfold zS;refine zw _ _ λk hk=>zx rfl rfl ?_;have sq:jE (jf h w f)=some (.T,[.int h,.int w,.tup (zS h w f)]):=rfl;simp [sq,zr,jx,S,vj]
  have c1:((h:Int)+(w:Int))=((h+w:Nat):Int):=by omega
  simp only [dsq]at e;rw [<- c1,<- V6]at e;have sq:jE (jf h w f)=some (.T,[.int h,.int w,.tup (zS h w f)]):=rfl;unfold jf at ov sm fr ⊢;simp [F_led_into,jC,je,jb,ov,sm,zp,I,ac,U,zT,qG,zii,key,fr,e,eb]
 ·have:=Vi Z
  refine(this.smul (-1)).congr λi hi=>?_;congr 1;show app f w v i = -1*(xW h (λ_=>0) v i - app f w (λj=>xW h (λ_=>0) v (h+j)) i);rw [jR hi,show(λj=>xW h (λ_=>0) v (h+j))=v from funext λj=>j7 j];omega
 ·have a:=Span.sum (p:=p) (n:=h+w) (G:=Fam (w+q) (qk h w f g)) (u:=λj=>qk h w f g j) v (m:=w) λj hj=> .gen ⟨j,by omega,rfl⟩
  have b:=zc9 (w:=w) (f:=f) Z;refine(b.add a (-1)).congr λi hi=>?_;congr 1;rcases ziN i h with z | z
  ·rw [jR z,jR z]
   have:zo (λk=>v k*qk h w f g k i) w=app f w v i:=by
    unfold app;exact zK λk hk=>by unfold qk;rw [if_pos hk,jR z,zjN]
   rw [this];omega
  ·obtain⟨k,rfl⟩ : ∃k,i=h+k:=⟨i - h,by omega⟩
   rw [j7,j7];have:zo (λj=>v j*qk h w f g j (h+k)) w=v k:=by
    rw [z7 (f:=λj=>v j*qk h w f g j (h+k)) (i:=k) ⋯ λj hj ah=>by unfold qk;rw [if_pos hj,j7];simp [jG,ah]];unfold qk;rw [if_pos (show k<w by omega),j7];simp [jG]
   rw [this];simp
end
def dlt(i j:Nat):Int:=if i=j then 1 else 0
def Undo(p:Int)(n:Nat)(f g:Nat->Nat->Int):Prop:=∀i j,i<n->j<n->zo (λk=>f i k*g k j) n%p=dlt i j%p
theorem Vo{p x y X Y:Int}(h1:x%p=X%p)(h2:y%p=Y%p):(x*y)%p=(X*Y)%p:=by rw [ziE,h1,h2,<- ziE]
@[simp] theorem zdD(r):qG (.nest r) = .no:=rfl
@[simp] theorem zeQ(r):qG (.own r) = .no:=rfl
@[simp] theorem zeP(d):qG (.val d) = .val d:=rfl
@[simp] theorem zfK:qG .no = .no:=rfl
theorem Qf{T:Tg}{f:CO (List D)}{γ:Ctx}{g:Nat->D}{R:Nat->List D} : ∀(l:List Nat),(∀k∈l,∃z,qB T (g k) γ=some z/\f z=some (R k))->kf T f γ (l.map g)=some (l.map R)
 | [],_=>rfl
 | k::l,h=>by
  obtain⟨z,h1,h2⟩:=h k ziv;have I:=Qf l λx hx=>h x (ziu _ hx);simp [kf,h1,h2,I]
section
variable{p:Int}{n:Nat}
structure Pair(p:Int)(n:Nat)(f g:Nat->Nat->Int):Prop where
 bf : ∀i j,i<n->j<n->0<=f i j/\f i j<p
 bg : ∀i j,i<n->j<n->0<=g i j/\g i j<p
 fg:Undo p n f g
 gf:Undo p n g f
end
def begR(w:Nat->Bool)(k:Nat):Nat:=if w k then k+1 else k
def endR(w:Nat->Bool)(k:Nat):Nat:=if w k then k else k+1
theorem yT(w:Nat->Bool)(wd:Nat->Nat)(k):hiW w wd k=wd (endR w k):=by unfold hiW endR;split<;>rfl
theorem yM(w:Nat->Bool)(wd:Nat->Nat)(k):wiW w wd k=wd (begR w k):=by unfold wiW begR;split<;>rfl
theorem Jb(w:Nat->Bool){k m:Nat}(h:k<m):begR w k<m+1:=by unfold begR;split<;>omega
theorem Z0(w:Nat->Bool){k m:Nat}(h:k<m):endR w k<m+1:=by unfold endR;split<;>omega
def qu(m:Nat)(wd:Nat->Nat)(f:Nat->Nat->Nat->Int):List D:=(zie m).map λk=>jf (wd k) (wd k) (f k)
@[simp] theorem YE(m wd f):(qu m wd f).length=m:=by simp [qu]
@[simp] theorem zfC{m k:Nat}(wd f)(h:k<(qu m wd f).length):(qu m wd f)[k]=jf (wd k) (wd k) (f k):=by simp [qu]
def jT(p:Int)(w:Nat->Bool)(wd:Nat->Nat)(f g T:Nat->Nat->Nat->Int)(k i j:Nat):Int:=
 zo (λb=>g (begR w k) b j*(zo (λa=>T k a b*f (endR w k) i a) (wd (endR w k))%p)) (wd (begR w k))%p
section
variable{p:Int}{m:Nat}{w:Nat->Bool}{wd:Nat->Nat}{f g T:Nat->Nat->Nat->Int}
theorem Ye(m:Nat)(F:Nat->D):j4 ((zie m).map F)=(zie m).map λ(k:Nat)=>D.tup [.int k,F k]:=by
 unfold j4;rw [ziD,zjm];apply ziy;intro k z;have z:=zig.mp z;simp [z]
theorem QC(k i j:Nat):zo (λa=>f (endR w k) i a*(zo (λb=>T k a b*g (begR w k) b j) (wd (begR w k))%p)) (wd (endR w k))%p=jT p w wd f g T k i j:=by
 unfold jT;rw [vB];refine congrArg (· % p) (zK λb _=>?_);rw [zjN,zK (g:=λa=>T k a b*f (endR w k) i a) λa _=>zjN _ _]
end
structure Bar where
 s:Nat
 n:Nat
 v:Nat->Vc
def Bar.has(b:Bar)(r:Nat):Bool:=decide (b.s<=r) && decide (r<b.s+b.n)
theorem has_iff{b:Bar}{r:Nat}:b.has r=true↔b.s<=r/\r<b.s+b.n:=by simp [Bar.has]
def WF:Bar:=⟨0,0,λ_ _=>0⟩
structure BarOk(p:Int)(w:Nat->Bool)(wd:Nat->Nat)(T:Nat->Nat->Nat->Int)(k:Nat)(b:Bar):Prop where
 n1:1<=b.n
 le:b.s+b.n<=k+1
 rng : ∀r i,b.has r=true->i<wd r->0<=b.v r i/\b.v r i<p
 arr : ∀j,j<k->b.has (begR w j)=true->∀i,i<wd (endR w j)->app (T j) (wd (begR w j)) (b.v (begR w j)) i%p=(if b.has (endR w j)=true then b.v (endR w j) i else 0)%p
def Ord(w:Nat->Bool)(a b:Bar):Prop:=(a.s<b.s->w (b.s - 1)=true)/\(b.s<a.s->w (a.s - 1)=false)
def GenB(bars:List Bar)(r:Nat):Vc->Prop:=λg=>∃b,b∈bars/\b.has r=true/\g=b.v r
def mxV(p:Int)(A:Nat->Bar)(N:Nat)(t:Vc)(r:Nat):Vc:=λc=>zo (λj=>if (A j).has r=true then t j*(A j).v r c else 0) N%p
def mxB(p:Int)(A:Nat->Bar)(N:Nat)(t:Vc)(i:Nat):Bar:=⟨(A i).s,(A i).n,mxV p A N t⟩
section
variable{p:Int}{w:Nat->Bool}{wd:Nat->Nat}{T:Nat->Nat->Nat->Int}{k N:Nat}{A:Nat->Bar}
theorem ki(f:Nat->Nat->Int)(h:Nat)(t:Vc)(u:Nat->Vc)(n:Nat)(i:Nat):app f h (λc=>zo (λj=>t j*u j c) n) i=zo (λj=>t j*app f h (u j) i) n:=by
 unfold app;have e:zo (λj=>f i j*zo (λk=>t k*u k j) n) h=zo (λj=>zo (λk=>t k*(f i j*u k j)) n) h:=zK λj _=>by
  rw [<- jX];exact zK λk _=>by rw [<- zkF,<- zkF,zjN (f i j)]
 rw [e,xl];exact zK λj _=>jX ..
theorem zcZ(c:Prop) [Decidable c](x y:Int):(if c then x*y else 0)=x*(if c then y else 0):=by split<;>simp
theorem zdq(f:Nat->Nat->Int)(h r:Nat)(t:Vc)(i:Nat):app f h (mxV p A N t r) i%p=zo (λj=>t j*(if (A j).has r=true then app f h ((A j).v r) i else 0)) N%p:=by
 have e:app f h (mxV p A N t r) i%p=app f h (λc=>zo (λj=>t j*(if (A j).has r=true then (A j).v r c else 0)) N) i%p:=qp (λc _=>by
  unfold mxV;rw [ziY];congr 1;exact zK λj _=>zcZ ..) i
 rw [e,ki];congr 1;refine zK λj _=>?_;congr 1;by_cases z:(A j).has r=true
 ·simp only [if_pos z]
 ·simp only [if_neg z]
  unfold app;simp [zZ]
theorem zeT(p0:0<p)(Z : ∀j,j<N->BarOk p w wd T k (A j))(hk : ∀j,j<N->(A j).has k=true){t:Vc}{i:Nat}(hi:i<N)(hO : ∀c,i<c->c<N->Ord w (A i) (A c))(tz : ∀c,c<i->t c=0) :
 BarOk p w wd T k (mxB p A N t i):=by
 refine⟨(Z i hi).n1,(Z i hi).le,λr c _ _=>⟨zi5 _ ⋯,ziS _ p0⟩,λj hj O c hc=>?_⟩;have O:(A i).has (begR w j)=true:=O;show app (T j) (wd (begR w j)) (mxV p A N t (begR w j)) c%p=(if (A i).has (endR w j)=true then mxV p A N t (endR w j) c else 0)%p;rw [zdq];have key : ∀I,I<N->t I≠0->((A i).has (endR w j)=true->(A I).has (endR w j)=true->(A I).has (begR w j)=true)/\((A i).has (endR w j)=false->(A I).has (begR w j)=true->(A I).has (endR w j)=false):=λI S ht=>by
  have h1:=has_iff.mp (hk i hi);have h2:=has_iff.mp (hk I S);have U:i<=I:=Nat.not_lt.mp λz=>ht (tz I z);rcases Nat.lt_or_eq_of_le U with U | U
  ·obtain⟨o1,o2⟩:=hO I U S
   have O:=has_iff.mp O;cases hw:w j with
   | false=>
    have Y:begR w j=j:=by unfold begR;rw [hw];rfl
    have ee:endR w j=j+1:=by unfold endR;rw [hw];rfl
    rw [Y]at O;rw [Y,ee];refine⟨λ_ q=>has_iff.mpr ?_,λq _=>?_⟩
    ·have q:=has_iff.mp q
     refine⟨Nat.not_lt.mp λz=>?_,by omega⟩;have es:(A I).s=j+1:=by omega
     have:=o1 ⋯;rw [es]at this;simp [hw]at this
    ·exfalso
     have:(A i).has (j+1)=true:=has_iff.mpr ⋯;rw [this]at q;cases q
   | true=>
    have Y:begR w j=j+1:=by unfold begR;rw [hw];rfl
    have ee:endR w j=j:=by unfold endR;rw [hw];rfl
    rw [Y]at O;rw [Y,ee];refine⟨λ_ q=>has_iff.mpr ?_,λq _=>?_⟩
    ·have q:=has_iff.mp q
     omega
    ·cases hx:(A I).has j with
     | false=>rfl
     | true=>
      exfalso;have hx:=has_iff.mp hx;have es:(A i).s=j+1:=by
       have : ¬((A i).s<=j):=λz=>by
        have:(A i).has j=true:=has_iff.mpr ⋯;rw [this]at q;cases q
       omega
      have:=o2 ⋯;rw [es]at this;simp [hw]at this
  ·subst U
   exact⟨λ_ _=>O,λq _=>q⟩
 have e1:zo (λI=>t I*(if (A I).has (begR w j)=true then app (T j) (wd (begR w j)) ((A I).v (begR w j)) c else 0)) N%p
  = zo (λI=>if (A i).has (endR w j)=true then (if (A I).has (endR w j)=true then t I*(A I).v (endR w j) c else 0)else 0) N%p:=zU λI S=>by
  by_cases ht:t I=0
  ·simp [ht]
  obtain⟨k1,k2⟩:=key I S ht;cases hx:(A i).has (endR w j)with
  | false=>
   cases hy:(A I).has (begR w j)with
   | false=>simp
   | true=>
    have q:=(Z I S).arr j hj hy c hc;rw [k2 hx hy]at q;simp only [if_true];rw [ziE,q];simp
  | true=>
   cases hy:(A I).has (begR w j)with
   | false=>
    cases hz:(A I).has (endR w j)with
    | false=>simp
    | true=>rw [k1 hx hz]at hy;cases hy
   | true=>
    have q:=(Z I S).arr j hj hy c hc;simp only [if_true];rw [ziE,q,<- ziE];congr 1;cases hz:(A I).has (endR w j)<;>simp
 rw [e1];cases hx:(A i).has (endR w j)with
 | false=>simp [zZ]
 | true=>
  simp only [if_true];unfold mxV;rw [ziY]
theorem zaP{G':Vc->Prop}{r n:Nat}{A':Nat->Bar}(t:Nat->Vc)(Y : ∀i,i<N->t i i=1)(Z : ∀i c,i<N->c<i->t i c=0)
 (a0 : ∀i,i<N->(A i).has r=true->Span p n G' ((A' i).v r)) (he : ∀i,i<N->(A i).has r=true->∀c,c<n->(A' i).v r c%p=mxV p A N (t i) r c%p) :
 ∀i,i<N->(A i).has r=true->Span p n G' ((A i).v r):=by
 have key : ∀d i,N - i<=d->i<N->(A i).has r=true->Span p n G' ((A i).v r):=by
  intro d
  induction d with
  | zero=>intro i h1 h2;omega
  | succ d ih=>
   intro i h1 h2 O;have hs:Span p n G' λc=>zo (λj=>(if j=i then 0 else if (A j).has r=true then t i j else 0)*(A j).v r c) N:=by
    have gen : ∀M,M<=N->Span p n G' λc=>zo (λj=>(if j=i then 0 else if (A j).has r=true then t i j else 0)*(A j).v r c) M:=by
     intro M
     induction M with
     | zero=>intro _;exact .zero λc _=>by simp [zo]
     | succ M a4=>
      intro hM;have q:=a4 ⋯;by_cases I:M=i\/¬((A M).has r=true)\/M<i
      ·refine q.congr λc _=>?_
       show(zo _ M+_)%p=_;rcases I with I | I | I
       ·simp [I]
       ·simp [I]
       ·have z:=Z i M h2 I;simp only [z];simp
      ·have a5:M≠i/\(A M).has r=true/\¬M<i:=by
        refine⟨λz=>I (.inl z),?_,λz=>I (.inr (.inr z))⟩;cases hx:(A M).has r with
        | true=>rfl
        | false=>exact absurd (.inr (.inl (by rw [hx];decide))) I
       exact((ih M ⋯ ⋯ a5.2.1).add q (if M=i then 0 else if (A M).has r=true then t i M else 0)).congr λc _=>rfl
    exact gen N (zim _)
   have h0:=hs.add (a0 i h2 O) (-1);refine h0.congr λc I=>?_;have e1:zo (λj=>if (A j).has r=true then t i j*(A j).v r c else 0) N=(A i).v r c+zo (λj=>(if j=i then 0 else if (A j).has r=true then t i j else 0)*(A j).v r c) N:=by
    have e2:(A i).v r c=zo (λj=>if j=i then (A i).v r c else 0) N:=by rw [z7 h2 λk _ hk=>by simp [hk]];simp
    rw [e2,<- ql];refine zK λj hj=>?_;by_cases U:j=i
    ·subst U;simp [O,Y j h2]
    ·simp only [if_neg U]
     by_cases hx:(A j).has r=true
     ·simp [hx]
     ·simp [hx]
   have S:=he i h2 O c I;unfold mxV at S;rw [ziY,e1]at S;rw [zjB,S,<- zjB];congr 1;omega
 exact λi h1 h2=>key N i ⋯ h1 h2
end
section
variable{p:Int}{n m N h r r2 q:Nat}{B B2 K:Nat->Vc}{l l2 lK:Nat->Nat}{M f:Nat->Nat->Int}
theorem Jx{U:Nat->Vc}{v:Vc}(z:Span p n (Fam m U) v) : ∃t:Vc,∀i,i<n->v i%p=zo (λj=>t j*U j i) m%p:=by
 induction z with
 | zero h=>exact⟨λ_=>0,λi hi=>by rw [h i hi];simp [zZ]⟩
 | @step v w g c I hw O S=>
  obtain⟨t,Y⟩:=S;obtain⟨k,Z,rfl⟩:=I;refine⟨λj=>t j+if j=k then c else 0,λi hi=>?_⟩;rw [O i hi,zjB,Y i hi,<- zjB];congr 1;have e:zo (λj=>(t j+if j=k then c else 0)*U j i) m=zo (λj=>t j*U j i) m+zo (λj=>(if j=k then c else 0)*U j i) m:=by
   rw [<- ql];exact zK λj _=>Int.add_mul ..
  rw [e,z7 (f:=λj=>(if j=k then c else 0)*U j i) Z λj _ hj=>by simp [hj]];simp
theorem qR(a b:Nat->Int)(n:Nat):zo (λj=>a j*b j) n=zo (λj=>b j*a j) n:=zK λj _=>zjN ..
theorem col_span{u:Vc}:Span p h (Fam N λj i=>M i j) u ↔ ∃x:Vc,∀i,i<h->u i%p=app M N x i%p:=by
 constructor
 ·intro q
  obtain⟨t,z⟩:=Jx q;exact⟨t,λi hi=>by rw [z i hi];unfold app;rw [qR]⟩
 ·rintro⟨x,hx⟩
  refine(Span.sum (u:=λj i=>M i j) x (m:=N) λj I=> .gen ⟨j,I,rfl⟩).congr λi hi=>?_;rw [hx i hi];unfold app;rw [qR]
theorem J9(n:Nat)(v:Vc):Span p n (Fam n jG) v:=by
 refine(Span.sum (u:=jG) v (m:=n) λj z=> .gen ⟨j,z,rfl⟩).congr λi hi=>?_;rw [z7 (f:=λk=>v k*jG k i) hi λk _ I=>by simp [jG,I]];simp [jG]
theorem wb(z:Pr p)(O:N<=8)(S : ∀v:Vc,∃t,∀i,i<N->v i%p=app f N t i%p){t:Vc}(U : ∀i,i<N->app f N t i%p=0) : ∀j,j<N->t j%p=0:=by
 obtain⟨q,K,l,s,_,hb,I,Y,a3⟩:=xO z (h:=N) ⋯ O f;have Z:Rk p N N (λj i=>f i j) N:=⟨jG,id,Xx z N,λv=>⟨λ_=>col_span.mpr (S v),λ_=>J9 N v⟩⟩;have:=yt z Y Z;have hq:q=0:=by omega
 subst hq;have:=(I t).mpr λi hi=>by
  have:=U i hi;unfold app at this;exact this
 cases this with
 | zero h=>exact h
 | step hg _ _=>obtain⟨k,I,_⟩:=hg;omega
def wK(r:Nat)(B:Nat->Vc)(l:Nat->Nat)(t:Vc):Vc:=λi=>t i - zo (λj=>t (l j)*B j i) r
theorem Zd(I:IsB p N r B l)(t:Vc){j:Nat}(z:j<r):wK r B l t (l j)=0:=by
 unfold wK;rw [z7 (f:=λO=>t (l O)*B O (l j)) z λk S U=>by rw [I.oth k j S z (zi6 U)];simp];rw [I.one j z];omega
theorem X3(t:Vc):Span p N (Fam r B) λi=>zo (λj=>t (l j)*B j i) r:=Span.sum (u:=B) (λj=>t (l j)) λj z=> .gen ⟨j,z,rfl⟩
theorem zc5(z:IsB p N r B l){t:Vc}(h:Span p N (Fam r B) t)(I : ∀j,j<r->t (l j)%p=0) : ∀i,i<N->t i%p=0:=λi hi=>by
 rw [wO z h i hi];have e:zo (λk=>t (l k)*B k i) r%p=zo (λ_=>0) r%p:=zU λk O=>by rw [ziE,I k O];simp
 rw [e,zZ];simp
theorem Xw(z:Pr p)(I:IsB p N r B l){i:Nat}(hi:i<N)(hn : ∀j,j<r->l j≠i) : ¬Span p N (Fam r B) (jG i):=λh=>by
 have:=zc5 I h (λj O=>by unfold jG;rw [if_neg (zi6 (hn j O))];simp) i hi;unfold jG at this;rw [if_pos rfl,z.one]at this;omega
theorem wv(g:Nat->Nat->Int)(w:Nat)(u v:Vc)(i:Nat):app g w (λj=>u j - v j) i=app g w u i - app g w v i:=by
 have e:app g w u i=app g w (λj=>u j - v j) i+app g w v i:=by
  unfold app;rw [<- ql];exact zK λj _=>by dsimp only;rw [<- zlq];congr 1;omega
 omega
def QS(M f:Nat->Nat->Int)(N:Nat):Nat->Nat->Int:=λi j=>zo (λk=>M i k*f k j) N
theorem vt(t:Vc)(i:Nat):app (QS M f N) N t i=app M N (app f N t) i:=by
 unfold app QS;have e:zo (λj=>zo (λk=>M i k*f k j) N*t j) N=zo (λj=>zo (λk=>M i k*(f k j*t j)) N) N:=zK λj _=>by
  rw [<- wU];exact zK λk _=>zkF ..
 rw [e,xl];exact zK λk _=>jX ..
theorem zdO(hp:Pr p)(hN:N<=8)(hh:h<=8)(hs : ∀v:Vc,∃t,∀i,i<N->v i%p=app f N t i%p)(hb:IsB p N r B l)(U : ∀t,Span p N (Fam r B) t↔Ker p h N M (app f N t))
 (a5:IsB p h r2 B2 l2) (hI : ∀v,Span p h (Fam r2 B2) v↔Span p h (Fam N λj i=>M i j) v) :
 (∀j,j<r->∀i,i<h->app M N (app f N (B j)) i%p=0)/\(∀c,c<N->(∀j,j<r->l j≠c)->∃i,i<h/\app M N (λa=>f a c) i%p≠0)/\r+r2=N/\
   ∀S:Vc->Prop,(∀c,c<N->(∀j,j<r->l j≠c)->Span p h S (app M N λa=>f a c))->(∀c,c<h->(∀j,j<r2->l2 j≠c)->Span p h S (jG c))->∀v,Span p h S v:=by
 have a2 : ∀t:Vc,Ker p h N M (app f N t) ↔ ∀i,i<h->app M N (app f N t) i%p=0:=λt=>Iff.rfl;have a9 : ∀(c:Nat),c<N->∀i,app M N (λa=>f a c) i%p=app M N (app f N (jG c)) i%p:=λc I i=>qp (λa _=>by rw [yj f I]) i;refine⟨λj O=>(a2 _).mp ((U (B j)).mp (.gen ⟨j,O,rfl⟩)),λc I hn=>?_,?_,λS h1 h2 v=>?_⟩
 ·refine zjr λz=>Xw hp hb I hn ((U _).mpr ((a2 _).mpr λi hi=>?_))
  rw [<- a9 c I i];exact zjr λy=>z ⟨i,hi,y⟩
 ·obtain⟨q',K',l',s',_,ab,a7,ac,am⟩:=xO hp (h:=h) (w:=N) ⋯ hN (QS M f N)
  have e1:q'=r:=(wt hp ab hb (λv hv=>(U v).mpr λi hi=>by
   have:=(a7 v).mp hv i hi;rw [show zo (λj=>QS M f N i j*v j) N=app (QS M f N) N v i from rfl,vt]at this;exact this) λv hv=>(a7 v).mpr λi hi=>by
   have:=(U v).mp hv i hi;rw [show zo (λj=>QS M f N i j*v j) N=app (QS M f N) N v i from rfl,vt];exact this).1
  have e2:s'=r2:=by
   refine yt hp ac ⟨B2,l2,a5,λv=>(hI v).trans ⟨λz=>?_,λz=>?_⟩⟩
   ·obtain⟨x,hx⟩:=col_span.mp z
    obtain⟨t,Y⟩:=hs x;refine col_span.mpr ⟨t,λi hi=>?_⟩;rw [hx i hi,vt];exact qp Y i
   ·obtain⟨t,Y⟩:=col_span.mp z
    exact col_span.mpr ⟨app f N t,λi hi=>by rw [Y i hi,vt]⟩
  omega
 ·
  have im : ∀t:Vc,Span p h S (app M N (app f N t)):=λt=>by
   have hz:=(a2 _).mp ((U _).mp (X3 (p:=p) (N:=N) (B:=B) (r:=r) (l:=l) t));have e : ∀i,i<h->app M N (app f N t) i%p=app M N (app f N (wK r B l t)) i%p:=λi hi=>by
    have e0:app M N (app f N (wK r B l t)) i=app M N (app f N t) i - app M N (app f N λi=>zo (λj=>t (l j)*B j i) r) i:=by
     rw [<- wv];congr 1;funext a;exact wv ..
    rw [e0,zjZ,hz i hi];simp
   refine Span.congr ?_ e;have e3 : ∀i,app M N (app f N (wK r B l t)) i=zo (λc=>wK r B l t c*app M N (λa=>f a c) i) N:=λi=>by
    rw [<- ki];congr 1;funext a;unfold app;exact qR ..
   have s1 : ∀K,K<=N->Span p h S λi=>zo (λc=>wK r B l t c*app M N (λa=>f a c) i) K:=by
    intro K
    induction K with
    | zero=>intro _;exact .zero λi _=>by simp [zo]
    | succ K Z=>
     intro hK;by_cases I : ∃j,j<r/\l j=K
     ·obtain⟨j,O,rfl⟩:=I
      refine(Z ⋯).congr λi _=>?_;show(zo _ (l j)+_)%p=_;have z:=Zd hb t O;simp only [z];simp
     ·exact((h1 K ⋯ λj O z=>I ⟨j,O,z⟩).add (Z ⋯) _).congr λi _=>rfl
   exact(s1 N (zim _)).congr λi _=>by rw [e3]
  have ai : ∀u,Span p h (Fam r2 B2) u->Span p h S u:=λu hu=>by
   obtain⟨x,hx⟩:=col_span.mp ((hI u).mp hu);obtain⟨t,Y⟩:=hs x;exact(im t).congr λi hi=>by rw [hx i hi];exact qp Y i
  have s2 : ∀K,K<=h->Span p h S λi=>zo (λc=>wK r2 B2 l2 v c*jG c i) K:=by
   intro K
   induction K with
   | zero=>intro _;exact .zero λi _=>by simp [zo]
   | succ K Z=>
    intro hK;by_cases I : ∃j,j<r2/\l2 j=K
    ·obtain⟨j,O,rfl⟩:=I
     refine(Z ⋯).congr λi _=>?_;show(zo _ (l2 j)+_)%p=_;have z:=Zd a5 v O;simp only [z];simp
    ·exact((h2 K ⋯ λj O z=>I ⟨j,O,z⟩).add (Z ⋯) _).congr λi _=>rfl
  refine((ai _ (X3 (B:=B2) (r:=r2) (l:=l2) v)).add (s2 h (zim _)) 1).congr λi hi=>?_;congr 1;rw [z7 (f:=λc=>wK r2 B2 l2 v c*jG c i) hi λc _ I=>by simp [jG,I]];simp only [jG,if_true,wK];omega
theorem zdP(O:Pr p)(hN:N<=8)(hh:h<=8)(hs : ∀v:Vc,∃t,∀i,i<N->v i%p=app f N t i%p)(Z:IsB p N r B l)(hW : ∀t,Span p N (Fam r B) t↔Span p N (Fam h λj i=>M i j) (app f N t))
 (hk : ∀v,Span p h (Fam q K) v↔Ker p N h M v) {s:Nat} (hr:Rk p N h (λj i=>M i j) s) (as:q+s=h) :
 (∀j,j<r->∃y:Vc,∀i,i<N->app M h y i%p=app f N (B j) i%p)/\(∀c,c<N->(∀j,j<r->l j≠c)->¬∃y:Vc,∀i,i<N->app M h y i%p=f i c%p)/\r+q=h/\
   ∀(Gx:Vc->Prop) (x:Nat->Vc),(∀j,j<r->Span p h Gx (x j)/\∀i,i<N->app M h (x j) i%p=app f N (B j) i%p)->(∀j,j<q->Span p h Gx (K j))->∀v,Span p h Gx v:=by
 have a6 : ∀t,Span p N (Fam r B) t ↔ ∃y:Vc,∀i,i<N->app f N t i%p=app M h y i%p:=λt=>(hW t).trans col_span;have inj : ∀{t:Vc},(∀i,i<N->app f N t i%p=0)->∀j,j<N->t j%p=0:=λU=>wb O hN hs U;refine⟨λj I=>?_,λc hc hn z=>?_,?_,λGx x h1 h2 v=>?_⟩
 ·obtain⟨y,hy⟩:=(a6 (B j)).mp (.gen ⟨j,I,rfl⟩)
  exact⟨y,λi hi=>(hy i hi).symm⟩
 ·obtain⟨y,hy⟩:=z
  exact Xw O Z hc hn ((a6 _).mpr ⟨y,λi hi=>by rw [yj f hc,hy i hi]⟩)
 ·have ae:s<=8/\r<=8:=by
   obtain⟨s',au,ai⟩:=YW O (n:=N) (m:=h) ⋯ hh λj i=>M i j;refine⟨by rw [yt O hr ai];omega,?_⟩;have : ∀r',r'<=r->r'<=N:=by
    intro r';have mono : ∀k,k<r->k<=l k:=by
     intro k
     induction k with
     | zero=>intro _;omega
     | succ k ih=>intro hk;have:=ih ⋯;have:=Z.mono k (k+1) ⋯ hk;omega
    intro av;cases r' with
    | zero=>omega
    | succ af=>have:=mono af ⋯;have:=Z.lt af ⋯;omega
   have:=this r (zim _);omega
  have aw:s<=r:=by
   obtain⟨s',a1,a2⟩:=YW O (n:=N) (m:=r) ⋯ ae.2 λj=>app f N (B j);have e:s=s':=by
    obtain⟨C,Y,hC,a7⟩:=hr;refine yt O (m:=h) (W:=λj i=>M i j) ⟨C,Y,hC,a7⟩ ?_;obtain⟨C',am,an,ao⟩:=a2;refine⟨C',am,an,λv=>(ao v).trans ⟨λz=>?_,λz=>?_⟩⟩
    ·exact z.le λg S=>by
      obtain⟨j,I,rfl⟩:=S;exact(hW (B j)).mp (.gen ⟨j,I,rfl⟩)
    ·obtain⟨y,hy⟩:=col_span.mp z
     obtain⟨t,U⟩:=hs v;have ac:Span p N (Fam r B) t:=(a6 t).mpr ⟨y,λi hi=>by rw [<- U i hi,hy i hi]⟩;refine(Span.sum (u:=λj=>app f N (B j)) (λj=>t (l j)) (m:=r) λj I=> .gen ⟨j,I,rfl⟩).congr λi hi=>?_;rw [U i hi,<- ki];exact qp (λj I=>wO Z ac j I) i
   omega
  have ax:r<=s:=by
   obtain⟨C,Y,hC,a7⟩:=hr;have ex : ∀j,∃t:Vc,∀i,i<N->C j i%p=app f N t i%p:=λj=>hs (C j);have g:Nat->Vc:=λj=>Classical.choose (ex j);have S : ∃g:Nat->Vc,∀j i,i<N->C j i%p=app f N (g j) i%p:=⟨λj=>Classical.choose (ex j),λj=>Classical.choose_spec (ex j)⟩;obtain⟨g,S⟩:=S;obtain⟨s',a1,a2⟩:=YW O (n:=N) (m:=s) ⋯ ae.1 g;have e:r=s':=by
    refine yt O (m:=s) (W:=g) ⟨B,l,Z,λv=>⟨λz=>?_,λz=>?_⟩⟩ a2
    ·have hv:=(a7 _).mpr ((hW v).mp z)
     refine(Span.sum (u:=g) (λj=>app f N v (Y j)) (m:=s) λj I=> .gen ⟨j,I,rfl⟩).congr λi hi=>?_;have z0 : ∀a,a<N->app f N (λi=>v i - zo (λj=>app f N v (Y j)*g j i) s) a%p=0:=λa ha=>by
      rw [wv,ki,zjZ,wO hC hv a ha];have e:zo (λk=>app f N v (Y k)*C k a) s%p=zo (λk=>app f N v (Y k)*app f N (g k) a) s%p:=zU λk _=>by rw [ziE,S k a ha,<- ziE]
      rw [e];simp
     have:=inj z0 i hi;have q2:=Int.emod_emod_of_dvd;exact(Int.emod_emod_of_dvd _ (Int.dvd_refl p)).symm.trans (by
      rw [ziY];have:(v i - zo (λj=>app f N v (Y j)*g j i) s)%p=0:=this;exact zlE.mpr this)
    ·refine z.le λu hu=>?_
     obtain⟨j,I,rfl⟩:=hu;refine(hW _).mpr (((a7 (C j)).mp (.gen ⟨j,I,rfl⟩)).congr λi hi=>(S j i hi).symm)
   omega
  omega
 ·obtain⟨t,U⟩:=hs (app M h v)
  have ac:Span p N (Fam r B) t:=(a6 t).mpr ⟨v,λi hi=>(U i hi).symm⟩;have hx:Span p h Gx λc=>zo (λj=>t (l j)*x j c) r:=Span.sum (u:=x) (λj=>t (l j)) λj I=>(h1 j I).1;have hd:Span p h Gx λc=>v c - zo (λj=>t (l j)*x j c) r:=by
   refine((hk _).mpr λi hi=>?_).le λg S=>by obtain⟨j,I,rfl⟩:=S;exact h2 j I
   show app M h (λc=>v c - zo (λj=>t (l j)*x j c) r) i%p=0;rw [wv,ki,zjZ];have e:zo (λj=>t (l j)*app M h (x j) i) r%p=app M h v i%p:=by
    rw [U i hi,qp (λj I=>wO Z ac j I) i,ki];exact zU λj I=>by rw [ziE,(h1 j I).2 i hi,<- ziE]
   rw [e];simp
  refine(hx.add hd 1).congr λc _=>?_;congr 1;omega
end
structure BrInv(p:Int)(w:Nat->Bool)(wd:Nat->Nat)(T:Nat->Nat->Nat->Int)(k:Nat)(bars:List Bar):Prop where
 ok : ∀b,b∈bars->BarOk p w wd T k b
 sp : ∀r,r<=k->∀v,Span p (wd r) (GenB bars r) v
 ct : ∀r,r<=k->bars.countP (λb=>b.has r)=wd r
 od:(bars.filter λb=>b.has k).Pairwise (Ord w)
def ldx(r:Nat)(l:Nat->Nat)(i:Nat):Option Nat:=(zie r).find? λj=>l j==i
theorem qD{r:Nat}{l:Nat->Nat}{i j:Nat}(h:ldx r l i=some j):j<r/\l j=i:=by
 have h1:=List.find?_some h;have h2:=List.mem_of_find?_eq_some h;exact⟨zig.mp h2,by simpa using h1⟩
theorem vg{r:Nat}{l:Nat->Nat}{i:Nat}(h:ldx r l i=none) : ∀j,j<r->l j≠i:=λj z=>by
 have:=List.find?_eq_none.mp h j (zig.mpr z);simpa using this
def stB(p:Int)(A:Nat->Bar)(N r:Nat)(B:Nat->Vc)(l:Nat->Nat)(i:Nat):Bar:=match ldx r l i with
 | some j=>mxB p A N (B j) i
 | none=>A i
def exB(k:Nat)(b:Bar):Option Vc->Bar
 | none=>b
 | some y=>⟨b.s,b.n+1,λr=>if r=k+1 then y else b.v r⟩
def nuB(k:Nat)(y:Vc):Bar:=⟨k+1,1,λ_=>y⟩
def tco(r:Nat)(B:Nat->Vc)(l:Nat->Nat)(i:Nat):Vc:=match ldx r l i with
 | some j=>B j
 | none=>jG i
theorem YJ(p A N r B l i):(stB p A N r B l i).s=(A i).s:=by unfold stB;split<;>rfl
theorem zdQ(p A N r B l i):(stB p A N r B l i).n=(A i).n:=by unfold stB;split<;>rfl
theorem QG(p A N r B l i rm):(stB p A N r B l i).has rm=(A i).has rm:=by unfold Bar.has;rw [YJ,zdQ]
theorem yz{k r:Nat}{y:Vc}:(nuB k y).has r=decide (r=k+1):=by
 unfold nuB Bar.has;by_cases h:r=k+1
 ·simp [h]
 ·simp [h];intro;omega
section
variable{p:Int}{w:Nat->Bool}{wd:Nat->Nat}{T:Nat->Nat->Nat->Int}{k N r:Nat}{A:Nat->Bar}{B:Nat->Vc}{l:Nat->Nat}
theorem zbw(z:IsB p N r B l){i:Nat}(hi:i<N):tco r B l i i=1/\∀c,c<i->tco r B l i c=0:=by
 unfold tco;cases hj:ldx r l i with
 | some j=>
  obtain⟨h1,h2⟩:=qD hj;subst h2;exact⟨z.one j h1,λc I=>z.bef j c h1 I⟩
 | none=>exact⟨by simp [jG],λc I=>by simp only [jG];rw [if_neg ⋯]⟩
theorem zb8{z:Nat}{i c:Nat}(hi:i<N)(O:(A i).has z=true):(stB p A N r B l i).v z c%p=mxV p A N (tco r B l i) z c%p:=by
 unfold stB tco;cases I:ldx r l i with
 | some j=>rfl
 | none=>
  show(A i).v z c%p=_;unfold mxV;rw [ziY];congr 1;rw [z7 (f:=λj=>if (A j).has z=true then jG i j*(A j).v z c else 0) hi λj _ I=>by unfold jG;rw [if_neg (zi6 I)];simp];simp [jG,O]
theorem zby(I:0<p)(O:IsB p N r B l)(z : ∀j,j<N->BarOk p w wd T k (A j))(S : ∀j,j<N->(A j).has k=true)(U : ∀i c,i<c->c<N->Ord w (A i) (A c)){i:Nat}(hi:i<N):BarOk p w wd T k (stB p A N r B l i):=by
 unfold stB;split
 ·next j Y=>
  obtain⟨h1,h2⟩:=qD Y;subst h2;exact zeT I z S hi (λc h1 h2=>U _ c h1 h2) λc Z=>O.bef j c h1 Z
 ·exact z i hi
theorem Zl{b:Bar}{o:Option Vc}{z:Nat}(I:z<=k)(O:b.s+b.n=k+1):(exB k b o).has z=b.has z/\(exB k b o).v z=b.v z:=by
 cases o with
 | none=>exact⟨rfl,rfl⟩
 | some y=>
  refine⟨?_,by simp only [exB];rw [if_neg ⋯]⟩;unfold exB Bar.has;simp only;congr 1;exact decide_eq_decide.mpr ⋯
theorem Xc{b:Bar}{o:Option Vc}(z:b.s+b.n=k+1):(exB k b o).has (k+1)=o.isSome:=by
 cases o with
 | none=>unfold exB Bar.has;simp;omega
 | some y=>unfold exB Bar.has;simp;omega
theorem zdb(k b o):(exB k b o).s=b.s:=by cases o<;>rfl
theorem zff(p0:0<p){b:Bar}{o:Option Vc}(O:b.s+b.n=k+1)(Y:BarOk p w wd T k b)(hr : ∀y,o=some y->∀c,c<wd (k+1)->0<=y c/\y c<p)
 (h0:o=none->w k=false->∀c,c<wd (k+1)->app (T k) (wd k) (b.v k) c%p=0) (h1 : ∀y,o=some y->w k=false->∀c,c<wd (k+1)->app (T k) (wd k) (b.v k) c%p=y c%p)
 (h2 : ∀y,o=some y->w k=true->∀c,c<wd k->app (T k) (wd (k+1)) y c%p=b.v k c%p):BarOk p w wd T (k+1) (exB k b o):=by
 have ad:=Y.n1;refine⟨?_,?_,λS c hh z=>?_,λj hj Z c z=>?_⟩
 ·cases o with
  | none=>exact Y.n1
  | some y=>show 1<=b.n+1;omega
 ·cases o with
  | none=>show b.s+b.n<=k+1+1;omega
  | some y=>show b.s+(b.n+1)<=k+1+1;omega
 ·by_cases a7:S<=k
  ·obtain⟨e1,I⟩:=Zl (o:=o) a7 O
   rw [e1]at hh;rw [I];exact Y.rng S c hh z
  ·have a3:=has_iff.mp hh
   cases o with
   | none=>exact absurd a3.2 (by show ¬(S<b.s+b.n);omega)
   | some y=>
    have:S=k+1:=by have:S<b.s+(b.n+1):=a3.2;omega
    subst this;have e:(exB k b (some y)).v (k+1)=y:=by simp [exB]
    rw [e];exact hr y rfl c z
 ·by_cases a2:j<k
  ·have g1:begR w j<=k:=by unfold begR;split<;>omega
   have g2:endR w j<=k:=by unfold endR;split<;>omega
   obtain⟨e1,I⟩:=Zl (o:=o) g1 O;obtain⟨e3,e4⟩:=Zl (o:=o) g2 O;rw [e1]at Z;rw [I,e3,e4];exact Y.arr j a2 Z c z
  ·have a2:j=k:=by omega
   subst a2;obtain⟨e1,I⟩:=Zl (o:=o) (zim j) O;have e5:=Xc (k:=j) (o:=o) O;have ab:b.has j=true:=has_iff.mpr ⋯;cases hw:w j with
   | false=>
    have eb:begR w j=j:=by unfold begR;rw [hw];rfl
    have U:endR w j=j+1:=by unfold endR;rw [hw];rfl
    rw [U]at z;rw [eb,U,I,e5];cases o with
    | none=>rw [h0 rfl hw c z];simp
    | some y=>rw [h1 y rfl hw c z];simp [exB]
   | true=>
    have eb:begR w j=j+1:=by unfold begR;rw [hw];rfl
    have U:endR w j=j:=by unfold endR;rw [hw];rfl
    rw [U]at z;rw [eb,e5]at Z;rw [eb,U,e1,I,ab];cases o with
    | none=>cases Z
    | some y=>
     have e:(exB j b (some y)).v (j+1)=y:=by simp [exB]
     rw [e,h2 y rfl hw c z];simp
theorem zeR{y:Vc}(Y : ∀c,c<wd (k+1)->0<=y c/\y c<p)(h2:w k=true->∀c,c<wd k->app (T k) (wd (k+1)) y c%p=0):BarOk p w wd T (k+1) (nuB k y):=by
 refine⟨zim _,by show k+1+1<=k+1+1;omega,λrm c O z=>?_,λj hj I c z=>?_⟩
 ·rw [yz]at O
  have:=of_decide_eq_true O;subst this;exact Y c z
 ·rw [yz]at I
  have I:=of_decide_eq_true I;cases hw:w j with
  | false=>
   have S:begR w j=j:=by unfold begR;rw [hw];rfl
   omega
  | true=>
   have S:begR w j=j+1:=by unfold begR;rw [hw];rfl
   have U:endR w j=j:=by unfold endR;rw [hw];rfl
   have Z:j=k:=by omega
   subst Z;rw [U]at z;have e0:(nuB j y).has (endR w j)=false:=by rw [yz,U];simp
   rw [e0,S];show app (T j) (wd (j+1)) y c%p=_;rw [h2 hw c z];simp
def kI(p:Int)(k:Nat)(w:Nat->Bool)(bars:List Bar)(A:Nat->Bar)(N r:Nat)(B:Nat->Vc)(l:Nat->Nat)(nx:Nat->Option Vc)(z:List Vc):List Bar:=
 (bars.filter λb=> !b.has k)++(if w k then (zie N).map (λi=>exB k (stB p A N r B l i) (nx i))++z.map (nuB k)else z.map (nuB k)++(zie N).map λi=>exB k (stB p A N r B l i) (nx i))
theorem VS(p0:0<p){bars:List Bar}(I:BrInv p w wd T k bars)(hN:(bars.filter λb=>b.has k).length=N)(Y : ∀j,A j=(bars.filter λb=>b.has k).getD j WF)(O:IsB p N r B l)
 {nx:Nat->Option Vc} {S:List Vc} (c1 : ∀i y,i<N->nx i=some y->∀c,c<wd (k+1)->0<=y c/\y c<p) (c2 : ∀y,y∈S->∀c,c<wd (k+1)->0<=y c/\y c<p)
 (d0 : ∀i,i<N->nx i=none->w k=false->∀c,c<wd (k+1)->app (T k) (wd k) ((stB p A N r B l i).v k) c%p=0)
 (d1 : ∀i y,i<N->nx i=some y->w k=false->∀c,c<wd (k+1)->app (T k) (wd k) ((stB p A N r B l i).v k) c%p=y c%p)
 (d2 : ∀i y,i<N->nx i=some y->w k=true->∀c,c<wd k->app (T k) (wd (k+1)) y c%p=(stB p A N r B l i).v k c%p)
 (d3 : ∀y,y∈S->w k=true->∀c,c<wd k->app (T k) (wd (k+1)) y c%p=0)
 (s1 : ∀v,Span p (wd (k+1)) (λg=>(∃i,i<N/\nx i=some g)\/g∈S) v) (n1:(zie N).countP (λi=>(nx i).isSome)+S.length=wd (k+1)) :
 BrInv p w wd T (k+1) (kI p k w bars A N r B l nx S):=by
 have mA : ∀j,j<N->A j∈bars/\(A j).has k=true:=λj Z=>by
  have:A j∈bars.filter λb=>b.has k:=by
   rw [Y j,zil,zih ⋯];exact zka _
  have:=ziO.mp this;exact⟨this.1,by simpa using this.2⟩
 have ab : ∀j,j<N->BarOk p w wd T k (A j):=λj Z=>I.ok _ (mA j Z).1;have hO : ∀i c,i<c->c<N->Ord w (A i) (A c):=λi c h1 h2=>by
  have:=zj0.mp I.od i c ⋯ ⋯ h1;rw [Y i,Y c,zil,zih ⋯,zil,zih ⋯];exact this
 have okS : ∀i,i<N->BarOk p w wd T k (stB p A N r B l i):=λi hi=>zby p0 O ab (λj Z=>(mA j Z).2) hO hi;have a0 : ∀i,i<N->(stB p A N r B l i).s+(stB p A N r B l i).n=k+1:=λi hi=>by
  rw [YJ,zdQ];have h1:=has_iff.mp (mA i hi).2;have h2:=(ab i hi).le;omega
 have a3 : ∀b,b∈bars->b.has k=false->b.s+b.n<=k:=λb O hk=>by
  have h1:=(I.ok b O).le;have h2:=(I.ok b O).n1;refine Nat.not_lt.mp λz=>?_;have:b.has k=true:=has_iff.mpr ⋯;rw [this]at hk;cases hk
 have mem : ∀b,b∈kI p k w bars A N r B l nx S↔(b∈bars/\b.has k=false)\/(∃i,i<N/\b=exB k (stB p A N r B l i) (nx i))\/∃y,y∈S/\b=nuB k y:=λb=>by
  unfold kI;rw [zkB,ziO];refine or_congr ⋯ ?_;cases w k<;>simp only [zjR,if_false,if_true,zkB,ziB,zig]
  ·constructor
   ·rintro(⟨y,h1,h2⟩ | ⟨i,h1,h2⟩)
    ·exact .inr ⟨y,h1,h2.symm⟩
    ·exact .inl ⟨i,h1,h2.symm⟩
   ·rintro(⟨i,h1,h2⟩ | ⟨y,h1,h2⟩)
    ·exact .inr ⟨i,h1,h2.symm⟩
    ·exact .inl ⟨y,h1,h2.symm⟩
  ·constructor
   ·rintro(⟨i,h1,h2⟩ | ⟨y,h1,h2⟩)
    ·exact .inl ⟨i,h1,h2.symm⟩
    ·exact .inr ⟨y,h1,h2.symm⟩
   ·rintro(⟨i,h1,h2⟩ | ⟨y,h1,h2⟩)
    ·exact .inl ⟨i,h1,h2.symm⟩
    ·exact .inr ⟨y,h1,h2.symm⟩
 have cnt : ∀P:Bar->Bool,(kI p k w bars A N r B l nx S).countP P=(bars.filter λb=> !b.has k).countP P+(zie N).countP (λi=>P (exB k (stB p A N r B l i) (nx i)))+(S.map (nuB k)).countP P:=λP=>by
  unfold kI;rw [List.countP_append];cases w k<;>simp only [zjR,if_false,if_true,List.countP_append,List.countP_map (f:=λi=>exB k (stB p A N r B l i) (nx i))]
  ·rw [zlX,Nat.add_comm (List.countP P (List.map (nuB k) S))];rfl
  ·rw [zlX];rfl
 refine⟨λb aq=>?_,λU hr v=>?_,λU hr=>?_,?_⟩
 ·rcases (mem b).mp aq with⟨h1,h2⟩ | ⟨i,hi,rfl⟩ | ⟨y,hy,rfl⟩
  ·have hk:=a3 b h1 h2
   have ob:=I.ok b h1;refine⟨ob.n1,by omega,ob.rng,λj Z ae c hc=>?_⟩;have aw:=has_iff.mp ae;refine ob.arr j ?_ ae c hc;have:begR w j>=j:=by unfold begR;split<;>omega
   omega
  ·exact zff p0 (a0 i hi) (okS i hi) (λy e=>c1 i y hi e) (λe=>d0 i hi e) (λy e=>d1 i y hi e) λy e=>d2 i y hi e
  ·exact zeR (c2 y hy) (d3 y hy)
 ·by_cases a1:U<=k
  ·refine(I.sp U a1 v).le λg hg=>?_
   obtain⟨b,h1,h2,rfl⟩:=hg;cases hbk:b.has k with
   | false=>exact .gen ⟨b,(mem b).mpr (.inl ⟨h1,hbk⟩),h2,rfl⟩
   | true=>
    have as:b∈bars.filter λb=>b.has k:=ziO.mpr ⟨h1,by simpa using hbk⟩;obtain⟨i,hi,e⟩:=zlG as;have ei:A i=b:=by rw [Y i,zil,zih hi];exact e
    rw [<- ei]at h2 ⊢;refine zaP (A:=A) (A':=λi=>stB p A N r B l i) (t:=λi=>tco r B l i) (λi hi=>(zbw O hi).1) (λi c hi hc=>(zbw O hi).2 c hc) (λi hi hh=>?_) (λi hi hh c _=>zb8 hi hh) i ⋯ h2;obtain⟨x1,x2⟩:=Zl (o:=nx i) a1 (a0 i hi);exact .gen ⟨_,(mem _).mpr (.inr (.inl ⟨i,hi,rfl⟩)),by rw [x1,QG];exact hh,by rw [x2]⟩
  ·have:U=k+1:=by omega
   subst this;refine(s1 v).le λg hg=>?_;rcases hg with⟨i,hi,e⟩ | hg
   ·refine .gen ⟨_,(mem _).mpr (.inr (.inl ⟨i,hi,rfl⟩)),?_,?_⟩
    ·rw [Xc (a0 i hi),e];rfl
    ·rw [e];simp [exB]
   ·exact .gen ⟨_,(mem _).mpr (.inr (.inr ⟨g,hg,rfl⟩)),by rw [yz];simp,rfl⟩
 ·rw [cnt]
  by_cases a1:U<=k
  ·have e1:(S.map (nuB k)).countP (λb=>b.has U)=0:=List.countP_eq_zero.mpr λb O=>by
    obtain⟨y,_,rfl⟩:=ziB.mp O;rw [yz];simp;omega
   have e2:(zie N).countP (λi=>(exB k (stB p A N r B l i) (nx i)).has U)=(bars.filter λb=>b.has k).countP λb=>b.has U:=by
    have:(bars.filter λb=>b.has k)=(zie N).map A:=by
     rw [<- z9 WF (bars.filter λb=>b.has k),hN];exact ziy λj _=>(Y j).symm
    rw [this,List.countP_map];refine zj6 λi hi=>?_;have hi:=zig.mp hi;rw [(Zl (o:=nx i) a1 (a0 i hi)).1,QG];rfl
   rw [e1,e2,<- I.ct U a1,List.countP_eq_countP_filter_add bars (λb=>b.has U) λb=>b.has k];omega
  ·have:U=k+1:=by omega
   subst this;have e0:(bars.filter λb=> !b.has k).countP (λb=>b.has (k+1))=0:=List.countP_eq_zero.mpr λb O=>by
    obtain⟨h1,h2⟩:=ziO.mp O;have:=a3 b h1 (by simpa using h2);intro z;have:=has_iff.mp z;omega
   have e1:(S.map (nuB k)).countP (λb=>b.has (k+1))=S.length:=by
    rw [List.countP_eq_length.mpr λb O=>?_,ziD];obtain⟨y,_,rfl⟩:=ziB.mp O;rw [yz];simp
   have e2:(zie N).countP (λi=>(exB k (stB p A N r B l i) (nx i)).has (k+1))=(zie N).countP λi=>(nx i).isSome:=zj6 λi hi=>by
    rw [Xc (a0 i (zig.mp hi))]
   rw [e0,e1,e2];omega
 ·have e0:((bars.filter λb=> !b.has k).filter λb=>b.has (k+1))=[]:=List.filter_eq_nil_iff.mpr λb O=>by
   obtain⟨h1,h2⟩:=ziO.mp O;have:=a3 b h1 (by simpa using h2);intro z;have:=has_iff.mp z;omega
  have pO:((zie N).map λi=>exB k (stB p A N r B l i) (nx i)).Pairwise (Ord w):=by
   rw [zkJ];refine zkT (λ{a b} ha O h=>?_) (zkI (n:=N));have:=hO a b h (zig.mp O);unfold Ord;rw [zdb,zdb,YJ,YJ];exact this
  have pN:(S.map (nuB k)).Pairwise (Ord w):=by
   rw [zkJ];refine zj0.mpr λ_ _ _ _ _=>⟨λz=>?_,λz=>?_⟩
   ·exact absurd z (zi8 (k+1))
   ·exact absurd z (zi8 (k+1))
  have so : ∀b,b∈(zie N).map (λi=>exB k (stB p A N r B l i) (nx i))->b.s<=k:=λb O=>by
   obtain⟨i,hi,rfl⟩:=ziB.mp O;have hi:=zig.mp hi;rw [zdb,YJ];exact(has_iff.mp (mA i hi).2).1
  have sn : ∀b,b∈S.map (nuB k)->b.s=k+1:=λb O=>by
   obtain⟨y,_,rfl⟩:=ziB.mp O;rfl
  unfold kI;rw [zk5,e0,zkA];refine zle _ ?_;cases hw:w k with
  | false=>
   simp only [zjR,if_false];refine List.pairwise_append.mpr ⟨pN,pO,λa ha b O=>?_⟩;have h1:=sn a ha;have h2:=so b O;exact⟨λz=>by omega,λ_=>by rw [h1];exact hw⟩
  | true=>
   simp only [if_true];refine List.pairwise_append.mpr ⟨pO,pN,λa ha b O=>?_⟩;have h1:=sn b O;have h2:=so a ha;exact⟨λ_=>by rw [h1];exact hw,λz=>by omega⟩
end
def F_law_times_32:List D->Option Res:=jC 6 (zJ (z5 3 (jq (zE (zR (sIx (zf 2) (zk (.int 1)))) (.nm 0) 1 [2] zV (jq (zE (zD (zH (sIx (zf 1) (zk (.int 2))))) (.nm 0) 1 [0] zV (sIx (zf 0) (ze 1))))))) (zJ (xS 4 (qF zC)) (zJ (xT (zD (zH (sIx (zf 1) (zk (.int 2))))) (.nm 5) (jY 4 (zF (zX (zE (zD (zf 3)) (.nm 0) 1 [0,5] zV (zq jW (zbz (zX (zE (Jh (ze 2) (ze 0)) (.tp [0,1]) 2 [] zV (zq qH (ze 0) (ze 1))))) (ze 1))))))) (jK (qj (zb (sIx (zf 1) (zk (.int 0))) (zb (sIx (zf 2) (zk (.int 1))) (zb (zF (zf 4)) zC))))))))
def F_law_same_32:List D->Option Res:=jC 1 (jK (qj (zb (ze 0) (zb (ze 0) (zb (zF (zX (zE (zR (ze 0)) (.nm 0) 1 [0] zV (zF (zX (zE (zR (ze 1)) (.nm 0) 1 [0] zV (qJ (zq dEq (ze 1) (ze 0))))))))) zC)))))
def F_law_in_turns_32:List D->Option Res:=jC 11 (zJ (JB (.tp [3,4,5]) (ze 0)) (zJ (xS 6 (qF zC)) (zJ (xT (wG (ze 5)) (.tp [7,8]) (zJ (z5 9 (zq jx (ze 7) (qJ (zq dEq (sIx (zf 8) (zk (.int 0))) (zk (.str "l")))))) (zJ (z5 10 (zq jx (ze 7) (qJ (zq dEq (sIx (zf 8) (zk (.int 0))) (zk (.str "r")))))) (jY 6 (qj (zb (sIx (zf 8) (zk (.int 0))) (zb (zA F_law_times_32 (zb (ze 3) (zb (zA F_law_times_32 (zb (ze 3) (zb (sIx (zf 1) (ze 10)) (zb (sIx (zf 8) (zk (.int 1))) zC)))) (zb (sIx (zf 2) (ze 9)) zC)))) zC))))))) (jK (qj (zb (ze 3) (zb (ze 4) (zb (zF (zf 6)) zC))))))))
def F_law_is_table_32:List D->Option Res:=jC 5 (zJ (sIf (qX (jc (sB (sIs .tuple (ze 1)))) (qX (sB (zq dNe (qw (zf 1)) (zk (.int 3)))) (qX (jc (sB (zA F_law_whole (zb (sIx (zf 1) (zk (.int 0))) zC)))) (jc (sB (zA F_law_whole (zb (sIx (zf 1) (zk (.int 1))) zC))))))) (jK (zk (.bl false))) jh) (zJ (sIf (qX (sB (zq dNe (KI (ze 1) KK (sBd (zk (.int 2)))) (qj (zb (ze 2) (zb (ze 3) zC))))) (qX (jc (sB (sIs .tuple (sIx (zf 1) (zk (.int 2)))))) (sB (zq dNe (qw (zH (sIx (zf 1) (zk (.int 2))))) (ze 2))))) (jK (zk (.bl false))) jh) (zJ (xT (zD (zH (sIx (zf 1) (zk (.int 2))))) (.nm 4) (zJ (sIf (qX (jc (sB (sIs .tuple (ze 4)))) (sB (zq dNe (qw (zf 4)) (ze 3)))) (jK (zk (.bl false))) jh) (sIf (jc (sB (WH (zX (zE (zD (zf 4)) (.nm 0) 1 [0] zV (YU (zA F_law_whole (zb (ze 0) zC)) (xP dLe dLt (zk (.int 0)) (ze 0) (ze 1)))))))) (jK (zk (.bl false))) jh))) (jK (zk (.bl true))))))
def F_law_paper_right:List D->Option Res:=jC 12 (zJ (JB (.tp [2,3,4]) (ze 0)) (zJ (sIf (qX (jc (sB (sIs .tuple (ze 1)))) (qX (sB (zq dNe (qw (zf 1)) (zk (.int 3)))) (jc (sB (WH (zX (zE (zD (zf 1)) (.nm 0) 1 [] zV (sIs .list (ze 0))))))))) (jK (zk (.bl false))) jh) (zJ (JB (.tp [5,6,7]) (ze 1)) (zJ (xT (zD (zH (ze 5))) (.nm 8) (zJ (sIf (qX (jc (sB (sIs .tuple (ze 8)))) (qX (sB (zq dNe (qw (zf 8)) (zk (.int 2)))) (qX (jc (sB (zA F_law_whole (zb (sIx (zf 8) (zk (.int 0))) zC)))) (jc (sB (zA F_law_whole (zb (sIx (zf 8) (zk (.int 1))) zC))))))) (jK (zk (.bl false))) jh) (sIf (jc (sB (yo dLe dLe dLt (zk (.int 0)) (sIx (zf 8) (zk (.int 0))) (sIx (zf 8) (zk (.int 1))) (qw (zf 3))))) (jK (zk (.bl false))) jh))) (zJ (sIf (qX (sB (zq dNe (ze 5) (jq (w4 (zf 5))))) (qX (sB (zq dNe (qw (zf 6)) (qw (zf 3)))) (sB (zq dNe (qw (zf 7)) (qw (zf 3)))))) (jK (zk (.bl false))) jh) (zJ (xT (W4 (ze 3) (ze 6) (ze 7)) (.tp [9,10,11]) (zJ (sIf (qX (jc (sB (zA F_law_is_table_32 (zb (ze 2) (zb (ze 10) (zb (ze 9) (zb (ze 9) zC))))))) (jc (sB (zA F_law_is_table_32 (zb (ze 2) (zb (ze 11) (zb (ze 9) (zb (ze 9) zC)))))))) (jK (zk (.bl false))) jh) (sIf (sB (zq dNe (zA F_law_times_32 (zb (ze 2) (zb (ze 10) (zb (ze 11) zC)))) (zA F_law_same_32 (zb (ze 9) zC)))) (jK (zk (.bl false))) jh))) (jK (zq dEq (zA F_law_in_turns_32 (zb (ze 0) (zb (ze 6) (zb (ze 7) zC)))) (zA F_law_bar_row (zb (ze 2) (zb (YT (zk (.str "")) (zX (zE (zD (zf 4)) (.nm 0) 1 [] zV (sIx (zf 0) (zk (.int 0)))))) (zb (ze 5) zC))))))))))))
def F_stretch_of:List D->Option Res:=jC 1 (jK (qj (zb (sIx (zf 0) (zk (.int 0))) (zb (zq wo (zq jx (sIx (zf 0) (zk (.int 0))) (qw (zH (sIx (zf 0) (zk (.int 1)))))) (zk (.int 1))) zC))))
def F_has_room:List D->Option Res:=jC 2 (jK (xP dLe dLt (sIx (zf 0) (zk (.int 0))) (ze 1) (zq jx (sIx (zf 0) (zk (.int 0))) (qw (zH (sIx (zf 0) (zk (.int 1))))))))
def F_loads_in:List D->Option Res:=jC 2 (xC (zE (zD (zf 0)) (.nm 0) 1 [1] (sB (zA F_has_room (zb (ze 0) (zb (ze 1) zC)))) (sIx (zH (sIx (zf 0) (zk (.int 1)))) (zq wo (ze 1) (sIx (zf 0) (zk (.int 0)))))))
def F_columns:List D->Option Res:=jC 2 (jK (zA F_turned_over (zb (qj (zb (qw (zf 1)) (zb (ze 0) (zb (zF (zf 1)) zC)))) zC)))
def F_mixed_load:List D->Option Res:=jC 5 (zJ (z5 4 (jq (zE (Jh (ze 2) (ze 1)) (.tp [0,1]) 2 [3] (sB (zA F_has_room (zb (ze 1) (zb (ze 2) zC)))) (ze 0)))) (jK (zA F_led (zb (sIx (zf 0) (zk (.int 0))) (zb (zA F_columns (zb (sIx (zH (sIx (zf 0) (zk (.int 1)))) (ze 3)) (zb (jq (zY F_loads_in (zb (ze 1) (zb (ze 3) zC)))) zC))) (zb (ze 4) zC))))))
def F_mixed:List D->Option Res:=jC 5 (zJ (z5 3 (sIx (zf 1) (zA F_lead_of (zb (ze 2) zC)))) (zJ (z5 4 (jq (zE (zR (qw (zH (sIx (zf 3) (zk (.int 1)))))) (.nm 0) 1 [0,1,2,3] zV (zA F_mixed_load (zb (ze 1) (zb (ze 2) (zb (ze 3) (zb (zq jx (sIx (zf 4) (zk (.int 0))) (ze 0)) zC)))))))) (jK (qj (zb (sIx (zf 3) (zk (.int 0))) (zb (zF (zf 4)) zC))))))
def F_settled:List D->Option Res:=jC 8 (zJ (z5 3 (sIx (zH (sIx (zH (sIx (zf 0) (zk (.int 2)))) (ze 1))) (zk (.int 0)))) (zJ (z5 4 (sIx (zH (sIx (zH (sIx (zf 0) (zk (.int 2)))) (ze 1))) (zk (.int 1)))) (zJ (z5 5 (XJ (sB (zq dEq (ze 3) (zk (.str "r")))) (jq (zY F_kernel (zb (sIx (zf 0) (zk (.int 0))) (zb (ze 4) zC)))) (jq (zY F_image (zb (sIx (zf 0) (zk (.int 0))) (zb (ze 4) zC)))))) (zJ (z5 6 (jq (zY F_led_into (zb (sIx (zf 0) (zk (.int 0))) (zb (zA F_columns (zb (sIx (zH (sIx (zf 0) (zk (.int 1)))) (ze 1)) (zb (jq (zY F_loads_in (zb (ze 2) (zb (ze 1) zC)))) zC))) (zb (ze 5) zC)))))) (zJ (z5 7 (XL (zE (zD (zf 6)) (.nm 0) 1 [] zV (qj (zb (zA F_lead_of (zb (ze 0) zC)) (zb (ze 0) zC)))))) (xC (zE (w5 (ze 2)) (.tp [0,1]) 2 [0,2,7] zV (XJ (sB (zdA (ze 0) (ze 4))) (zA F_mixed (zb (ze 2) (zb (ze 3) (zb (zd0 (ze 4) (ze 0)) zC)))) (ze 1)))))))))
def F_next_load:List D->Option Res:=jC 4 (zJ (sIf (sB (zq dEq (sIx (zf 1) (zk (.int 0))) (zk (.str "l")))) (jK (zA F_solved (zb (ze 0) (zb (sIx (zf 1) (zk (.int 1))) (zb (ze 2) zC))))) jh) (zJ (z5 3 (zA F_led (zb (ze 0) (zb (sIx (zf 1) (zk (.int 1))) (zb (ze 2) zC))))) (jK (XJ (sB (zbB (zf 3))) (ze 3) (zk .non)))))
def F_taken_on:List D->Option Res:=jC 4 (zJ (z5 3 (zA F_next_load (zb (ze 0) (zb (ze 1) (zb (sIx (zH (sIx (zf 2) (zk (.int 1)))) (zdY (zk (.int 1)))) zC))))) (jK (XJ (sB (zq zdE (ze 3) (zk .non))) (ze 2) (qj (zb (sIx (zf 2) (zk (.int 0))) (zb (zq jx (sIx (zf 2) (zk (.int 1))) (qj (zb (ze 3) zC))) zC))))))
def F_new_loads:List D->Option Res:=jC 3 (zJ (sIf (sB (zq dEq (sIx (zf 1) (zk (.int 0))) (zk (.str "l")))) (xC (zY F_kernel (zb (ze 0) (zb (sIx (zf 1) (zk (.int 1))) zC)))) jh) (zJ (z5 2 (jq (zE (zD (zX (zY F_image (zb (ze 0) (zb (sIx (zf 1) (zk (.int 1))) zC))))) (.nm 0) 1 [] zV (zA F_lead_of (zb (ze 0) zC))))) (xC (zE (wG (sIx (zH (zA F_same_table (zb (sIx (zH (sIx (zf 1) (zk (.int 1)))) (zk (.int 0))) zC))) (zk (.int 2)))) (.tp [0,1]) 2 [2] (sB (vK (ze 0) (zf 2))) (ze 1)))))
def F_grown:List D->Option Res:=jC 9 (zJ (z5 3 (sIx (zf 0) (zk (.int 0)))) (zJ (z5 4 (sIx (zH (sIx (zf 0) (zk (.int 2)))) (ze 1))) (zJ (z5 5 (jq (zE (zD (zf 2)) (.nm 0) 1 [1] (jc (sB (zA F_has_room (zb (ze 0) (zb (ze 1) zC))))) (ze 0)))) (zJ (z5 6 (jq (zY F_settled (zb (ze 0) (zb (ze 1) (zb (jq (zE (zD (zf 2)) (.nm 0) 1 [1] (sB (zA F_has_room (zb (ze 0) (zb (ze 1) zC)))) (ze 0))) zC)))))) (zJ (z5 7 (jq (zE (zD (zf 6)) (.nm 0) 1 [3,4] zV (zA F_taken_on (zb (ze 1) (zb (ze 2) (zb (ze 0) zC))))))) (zJ (z5 8 (jq (zE (zD (zX (zY F_new_loads (zb (ze 3) (zb (ze 4) zC))))) (.nm 0) 1 [1] zV (qj (zb (zq jx (ze 1) (zk (.int 1))) (zb (qj (zb (ze 0) zC)) zC)))))) (jK (jq (yp (zf 5) (zH (XJ (sB (zq dEq (sIx (zf 4) (zk (.int 0))) (zk (.str "r")))) (jq (yp (zf 8) (zf 7))) (jq (yp (zf 7) (zf 8))))))))))))))
def F_all_grown:List D->Option Res:=jC 3 (zJ (z5 1 (jq (zE (zD (zH (sIx (zH (zA F_same_table (zb (sIx (zH (sIx (zf 0) (zk (.int 1)))) (zk (.int 0))) zC))) (zk (.int 2))))) (.nm 0) 1 [] zV (qj (zb (zk (.int 0)) (zb (qj (zb (ze 0) zC)) zC)))))) (zJ (xT (zR (qw (zH (sIx (zf 0) (zk (.int 2)))))) (.nm 2) (z5 1 (zA F_grown (zb (ze 0) (zb (ze 2) (zb (ze 1) zC)))))) (xC (XG F_stretch_of (zf 1)))))
def F_barred:List D->Option Res:=jC 4 (zJ (z5 1 (jq (zY F_all_grown (zb (ze 0) zC)))) (zJ (z5 2 (jq (zE (wG (sIx (zf 0) (zk (.int 1)))) (.tp [0,1]) 2 [1] zV (zA F_columns (zb (ze 1) (zb (jq (zY F_loads_in (zb (ze 2) (zb (ze 0) zC)))) zC)))))) (zJ (z5 3 (jq (zE (zD (zf 2)) (.nm 0) 1 [0] zV (zA F_back_of (zb (sIx (zf 1) (zk (.int 0))) (zb (ze 0) zC)))))) (jK (qj (zb (jq (zE (zD (zf 1)) (.nm 0) 1 [] zV (zA F_stretch_of (zb (ze 0) zC)))) (zb (ze 3) (zb (ze 2) zC))))))))
def F_law_any_row:List D->Option Res:=jC 14 (zJ (z5 4 (sIx (zX (qF (zb (zk (.int 2)) (zb (zk (.int 3)) (zb (zk (.int 5)) (zb (zk (.int 7)) zC)))))) (zq jW (zA F_law_cell (zb (ze 0) (zb (ze 1) zC))) (zk (.int 4))))) (zJ (z5 5 (jq (zE (zR (ze 2)) (.nm 0) 1 [0,1,3] zV (zq jW (zq kB (zA F_law_cell (zb (ze 1) (zb (zq jx (zq jx (ze 2) (zk (.int 1))) (ze 0)) zC))) (zk (.int 4))) (zq jx (ze 3) (zk (.int 1))))))) (zJ (xS 6 (qF zC)) (zJ (xT (zR (zq wo (ze 2) (zk (.int 1)))) (.nm 7) (zJ (z5 8 (zA F_law_cell (zb (ze 0) (zb (zq jx (zq jx (ze 1) (zk (.int 8))) (ze 7)) zC)))) (zJ (z5 9 (sIx (zf 5) (zq jx (ze 7) (zq jW (ze 8) (zk (.int 2)))))) (zJ (z5 10 (sIx (zf 5) (zq wo (zq jx (ze 7) (zk (.int 1))) (zq jW (ze 8) (zk (.int 2)))))) (zJ (KJ 11 (yO (zR (ze 10)) (.nm 0) 1 [9] (zE (zR (ze 1)) (.nm 0) 1 [] zV (zk (.int 0))))) (zJ (xT (zR (zq jx (zq jW (zq kB (ze 8) (zk (.int 2))) (zq jx (zq qH (ze 9) (ze 10)) (zk (.int 1)))) (zk (.int 1)))) (.nm 12) (zJ (z5 13 (zA F_law_cell (zb (ze 0) (zb (zq jx (zq jx (zq jx (ze 1) (zk (.int 14))) (zq qH (zk (.int 12)) (ze 7))) (ze 12)) zC)))) (sIf (sB (zq dGt (zq qH (ze 9) (ze 10)) (zk (.int 0)))) (QN 11 (zq jW (ze 13) (ze 10)) (zq jW (zq kB (ze 13) (zk (.int 8))) (ze 9)) (zq jW (zq kB (ze 13) (zk (.int 64))) (ze 4))) jh))) (zJ (sIf (JD (sB (zq dEq (zq jW (zq kB (ze 8) (zk (.int 256))) (zk (.int 3))) (zk (.int 0)))) (sB (zq dGt (ze 10) (zk (.int 1))))) (KL 11 (zq wo (ze 10) (zk (.int 1))) (zE (zD (QL 11 (zk (.int 0)))) (.nm 0) 1 [4,8] zV (zq jW (zq qH (zq kB (ze 2) (zk (.int 1024))) (ze 0)) (ze 1)))) jh) (KM 11 (jY 6 (qj (zb (vJ (zk (.str "rl")) (zq jW (ze 8) (zk (.int 2)))) (zb (qj (zb (ze 10) (zb (ze 9) (zb (zF (zX (zE (zD (zf 11)) (.nm 0) 1 [] zV (zF (zf 0))))) zC)))) zC)))))))))))) (jK (qj (zb (ze 4) (zb (zF (zf 5)) (zb (zF (zf 6)) zC)))))))))
def F_law_k30:List D->Option Res:=jC 3 (zJ (z5 1 (zA F_law_any_row (zb (ze 0) (zb (zk (.int 1)) (zb (zq jx (zk (.int 1)) (zq jW (zA F_law_cell (zb (ze 0) (zb (zk (.int 0)) zC))) (zk (.int 5)))) (zb (zk (.int 3)) zC)))))) (zJ (z5 2 (zA F_barred (zb (ze 1) zC))) (zJ (sIf (jc (sB (zA F_law_paper_right (zb (ze 1) (zb (ze 2) zC))))) (jK (zk (.bl false))) jh) (jK (zq dEq (jq (zE (zR (qw (zH (sIx (zf 1) (zk (.int 1)))))) (.nm 0) 1 [2] zV (qw (zX (zY F_law_with_k28 (zb (sIx (zf 1) (zk (.int 0))) (zb (ze 0) zC))))))) (jq (kJ (zH (sIx (zf 1) (zk (.int 1)))))))))))
theorem zu{F G:CO Fl}{γ γ':Ctx}{r:Option Fl}(h:F γ=some (.next γ'))(g:G γ'=r):zJ F G γ=r:=by
 rw [jb,h];exact g
theorem jB{n:Nat}{F:CO Fl}{ds:List D}{r:Res}(h:F (je n ds)=some (.ret r)):jC n F ds=some r:=by
 show(F (je n ds)).bind _=_;rw [h];rfl
theorem Qa{T:Tg}{F:CO Fl}(P:Nat->Ctx->Prop)(n:Nat){γ:Ctx}(S:P 0 γ)(step : ∀s,s<n->∀γ,P s γ->∃I z,qB T (.int (s:Int)) γ=some I/\F I=some (.next z)/\P (s+1) z) :
 ∃γ',qh T F ((zie n).map λ(i:Nat)=>D.int (i:Int)) γ=some (.next γ')/\P n γ':=by
 have key : ∀(k s:Nat) (γ:Ctx),s+k=n->P s γ->∃γ',qh T F ((zkw s k).map λ(i:Nat)=>D.int (i:Int)) γ=some (.next γ')/\P n γ':=by
  intro k
  induction k with
  | zero=>
   intro s γ e O;obtain rfl:s=n:=by omega
   exact⟨γ,rfl,O⟩
  | succ k U=>
   intro s γ e O;obtain⟨I,z,e1,Y,Z⟩:=step s ⋯ γ O;obtain⟨γ',q1,q2⟩:=U (s+1) z ⋯ Z;refine⟨γ',?_,q2⟩;rw [zjY,ziK,jQ,e1];simp only [zij,Y];exact q1
 have:=key n 0 γ ⋯ S;rw [<- zjT]at this;exact this
theorem yB{T:Tg}{F:CO Fl}{f:CO D}(P:Nat->Ctx->Prop)(n:Nat)(hn:n<=lim){γ:Ctx}(O:f γ=some (.int (n:Int)))(S:P 0 γ)(step : ∀s,s<n->∀γ,P s γ->∃z I,qB T (.int (s:Int)) γ=some z/\F z=some (.next I)/\P (s+1) I) :
 ∃γ',xT (zR f) T F γ=some (.next γ')/\P n γ':=by
 obtain⟨γ',e,U⟩:=Qa P n S step;refine⟨γ',?_,U⟩;have Y:=jD;have r:inR (n:Int)=true:=Zk ⋯ ⋯;rw [Qv,xx,O];simp only [zij,qc,r,if_true,zjK,jI];rw [jg n λi=>(i:Int)];exact e
@[simp] theorem zg1(γ:Ctx)(f g):zcj f g γ=((f γ).bind asI).bind λi=>((g γ).bind asI).map λj=> .int (if j<i then j else i):=rfl
def zha(m m':Nat)(w w':Nat->Bool):Prop:=m=m'/\∀k,k<m->w k=w' k
instance (m m':Nat) (w w':Nat->Bool):Decidable (zha m m' w w'):=inferInstanceAs (Decidable (m=m'/\∀k,k<m->w k=w' k))
section
variable{p p':Int}{m m':Nat}{w w':Nat->Bool}{wd wd':Nat->Nat}{T T':Nat->Nat->Nat->Int}
theorem zdp(k):jE (qv w wd T k)=some (.T,[.str (qY (wch (w k))),jf (hiW w wd k) (wiW w wd k) (T k)]):=rfl
theorem Ys:zO (.nm 0) zV (sIx (zf 0) (zk (.int 0))) [Cell.no] (jH m w wd T)=some ((zie m).map λk=>D.str (qY (wch (w k)))):=by
 unfold jH;refine zw _ _ λk z=>zx rfl rfl ?_;simp [zdp]
end
theorem Wi(xs:List D)(n:Nat)(hn:xs.length=n)(a5 : ∀i (h:i<n),∃z,xs[i]'(hn ▸ h) = .int z)(aq:n<=63)(k:Int)(hk:0<=k)(ar:k<100000) :
 ∃m,F_law_cell [.lst xs,.int k]=some (.val (.int m))/\0<=m/\m<1000000007:=by
 have O : ∀x:Int,wB x 48271=true:=λx=>yV _ _ ⋯ ⋯;have S : ∀x:Int,wB 7 x=true:=λx=>yf _ _ ⋯ ⋯;have U : ∀x:Int,wB 13 x=true:=λx=>yf _ _ ⋯ ⋯;have Y : ∀x:Int,wB x 69621=true:=λx=>yV _ _ ⋯ ⋯;have c5:wB (7*k) k=true:=yV _ _ ⋯ ⋯;have I:zfj 10 9=true:=by decide
 have Z:zfj 10 30=true:=by decide
 have hl:lim=2500:=rfl;by_cases ad:n=0
 ·subst ad
  have e0:xs=[]:=zje hn;subst e0;simp [F_law_cell,jC,je,jb,O,S,U,Y,c5,I,Z];omega
 ·have hp:0<n:=by omega
  obtain⟨i,hi⟩:=zj9 (zi5 k (show(n:Int)≠0 by omega));have a6:i<n:=by have:=ziS k (show(0:Int)<n by omega);omega
  obtain⟨zi,ei⟩:=a5 i a6;have ii:ixD n (i:Int)=some i:=by rw [qL,if_pos a6]
  by_cases h1:n=1
  ·subst h1
   have i0:i=0:=by omega
   subst i0;have k1:k%1=0:=by omega
   simp [F_law_cell,jC,je,jb,O,S,U,Y,c5,I,Z,hn,ei];omega
  ·obtain⟨z0,e0⟩:=a5 0 hp
   have i0:ixD n 0=some 0:=by have:=qL n 0;rw [if_pos hp]at this;exact this
   have q1:(0:Int)<(n:Int) - 1:=by omega
   have q2:(1:Int)<(n:Int):=by omega
   have ac:1<n:=by omega
   have q3:(n:Int) - 1<1073741824:=by omega
   have q4:(0:Int)<(n:Int):=by omega
   obtain⟨j,hj⟩:=zj9 (zi5 k (show(n:Int) - 1≠0 by omega));have a7:1+j<n:=by have:=ziS k q1;omega
   obtain⟨zj,ej⟩:=a5 (1+j) a7;have ij:ixD n (1+(j:Int))=some (1+j):=by
    have:=qL n (1+j);rw [if_pos a7]at this;rw [<- this];congr 1
   have hd:0<=k/((n:Int) - 1)/\k/((n:Int) - 1)<=k:=⟨Int.ediv_nonneg hk ⋯,Int.ediv_le_self _ hk⟩;obtain⟨t,ht⟩:=zj9 hd.1;by_cases ha:z0%2=1
   ·obtain⟨t',an,aw⟩ : ∃t':Nat,(if (t:Int)<60 then (t:Int)else 60)=t'/\t'<=60:=by
     split
     ·exact⟨t,rfl,by omega⟩
     ·exact⟨60,rfl,by omega⟩
    have ao:inR (t':Int)=true:=Zk ⋯ ⋯;simp [F_law_cell,jC,je,jb,O,S,U,Y,c5,hn,hp,a7,q2,ac,e0,i0,q1,q3,ha,hj,ij,ej,ht,I,Z];rw [an,if_pos ao];simp only [zij,jI,zjK];rw [jg t' λi=>(i:Int)];have key : ∀(m s:Nat) (v:Int) (c:Cell),∃v' c',qh (.nm 3) (z5 2 (zq kB (ze 2) (zq zdg (zk (D.int 10)) (zk (D.int 9))))) ((zkw s m).map λ(i:Nat)=>D.int i) [.val (.lst xs),.val (.int k),.val (.int v),c,.no] =
     some (.next [.val (.lst xs),.val (.int k),.val (.int v'),c',.no]):=by
     intro m
     induction m with
     | zero=>intro s v c;exact⟨v,c,rfl⟩
     | succ m ih=>
      intro s v c;rw [zjY,ziK,jQ];obtain⟨v',c',h⟩:=ih (s+1) (v/10 ^ 9) (.val (.int s));refine⟨v',c',?_⟩;rw [<- h];simp [I]
    obtain⟨v',c',h⟩:=key t' 0 zj .no;rw [<- zjT]at h;rw [h];simp [I];omega
   ·simp [F_law_cell,jC,je,jb,O,S,U,Y,c5,hn,q2,ac,q4,hp,e0,i0,ha,hi,ei,a6,ii,I,Z]
    omega
theorem zdl(ns:List Int)(hn:ns.length<=63)(k:Int)(z:0<=k)(I:k<100000) : ∃m,F_law_cell [wn ns,.int k]=some (.val (.int m))/\0<=m/\m<1000000007:=
 Wi (ns.map D.int) ns.length ⋯ (λi hi=>⟨ns[i],by simp⟩) hn k z I
def yH(ns:List Int)(k:Int):Int:=match F_law_cell [wn ns,.int k]with
 | some (.val (.int m))=>m
 | _=>0
theorem wq{ns:List Int}(hn:ns.length<=63){k:Int}(z:0<=k)(I:k<100000):F_law_cell [wn ns,.int k]=some (.val (.int (yH ns k)))/\0<=yH ns k/\yH ns k<1000000007:=by
 obtain⟨m,h,h1,h2⟩:=zdl ns hn k z I;have e:yH ns k=m:=by unfold yH;rw [h]
 rw [e];exact⟨h,h1,h2⟩
def jy(bs:List (Int×Int)):List D:=bs.map λb=>D.tup [.int b.1,.int b.2]
@[simp] theorem Qq(bs):(jy bs).length=bs.length:=by simp [jy]
theorem Za : ∀bs,yR (jy bs)=some bs
 | []=>rfl
 | b::bs=>by
  have z:=Za bs;unfold jy at z;simp [jy,yR,zaC,z]
def xB(bs:List (Int×Int)):List (Int×Int):=(jO bs).map λi=>bs.getD i (0,0)
theorem wW(bs):(xB bs).Perm bs:=by
 have:=(jA bs).map λi=>bs.getD i (0,0);rw [z9]at this;exact this
theorem YL{bs:List (Int×Int)}(h:bs.length<64):KC (jy bs)=some (jy (xB bs)):=by
 unfold KC;rw [Za];show(if (jy bs).length<64 then some ((jO bs).map λi=>(jy bs).getD i .non)else none)=_;rw [Qq,if_pos h];unfold xB;congr 1;unfold jy;rw [ziZ];refine ziy λi hi=>?_;have hi:i<bs.length:=zig.mp ((jA bs).mem_iff.mp hi);simp [hi]
def zf7(n:Int)(b:Int×Int):Prop:=0<=b.1/\b.1<=b.2/\b.2<n
@[simp] theorem zbk(γ f):w4 f γ=(f γ).bind λa=>match a.1 with
 | .L=>KC a.2
 | _=>none:=rfl
section ap
variable(γ:Ctx)
@[simp] theorem zf2(f):zbA f γ=(f γ).bind λd=>match d with
 | .str z=>if jF z=true then some (qM z)else none
 | _=>none:=rfl
@[simp] theorem zbl(f):JC f γ=(f γ).bind λd=>match d with
 | .str z=>if jF z=true then some (j4 (qM z))else none
 | _=>none:=rfl
@[simp] theorem zbm(f):w5 f γ=(f γ).bind λd=>match d with
 | .lst ds=>some (j4 ds)
 | _=>none:=rfl
@[simp] theorem zhF(f g):zhh f g γ=(f γ).bind λd=>(g γ).bind λa=>match d with
 | .str x=>(wF a.2).map λl=> .bl (l.any λy=>y==x)
 | _=>none:=rfl
end ap
def zbP(b:Int×Int)(r:Int):Bool:=decide (b.1<=r) && decide (r<=b.2)
def jz(bs:List (Int×Int))(r:Int):List Nat:=(zie bs.length).filter λi=>zbP (bs.getD i (0,0)) r
def zbN(l:List Nat):List D:=l.map λ(i:Nat)=>D.int i
@[simp] theorem zaN(l):(zbN l).length=l.length:=by simp [zbN]
theorem JO(bs r):(jz bs r).length<=bs.length:=by
 have:=zlv (λi=>zbP (bs.getD i (0,0)) r) (zie bs.length);simpa [jz]using this
theorem V0(bs:List (Int×Int)):j4 (jy bs)=(zie bs.length).map λ(i:Nat)=>D.tup [.int i,.tup [.int (bs.getD i (0,0)).1,.int (bs.getD i (0,0)).2]]:=by
 unfold j4;rw [Qq];refine ziy λi hi=>?_;have hi:=zig.mp hi;simp [jy,hi]
theorem xi{bs:List (Int×Int)}(z:bs.length<=lim)(r:Int):wA [.lst (jy bs),.int r]=some (.own (zbN (jz bs r))):=by
 have key:zO (.tp [0,1]) (sB (xP dLe dLe (sIx (zf 1) (zk (.int 0))) (ze 2) (sIx (zf 1) (zk (.int 1))))) (ze 0) [Cell.no,Cell.no,Cell.val (.int r)] ((zie bs.length).map λ(i:Nat)=>D.tup [.int i,.tup [.int (bs.getD i (0,0)).1,.int (bs.getD i (0,0)).2]]) =
  some (((zie bs.length).filter λi=>zbP (bs.getD i (0,0)) r).map λ(i:Nat)=>D.int i):=by
  refine ja (λi=>zbP (bs.getD i (0,0)) r) (λ(i:Nat)=>D.int i) _ λi hi=>⟨_,rfl,?_,λ_=>rfl⟩;generalize bs.getD i (0,0)=b;by_cases h:b.1<=r
  ·simp [zbP,h]
  ·simp [zbP,h]
 have I:(j4 (jy bs)).length=bs.length:=by simp [j4]
 simp only [wA,jC,je,Xl,qr,zbm,qi,ziK,zlu,ziQ,zjd,zii,zkD,zlp,zkA,zin,zQ,zij,I,z,if_true];rw [show zT 2 [1] (Cell.val (D.lst (jy bs))::Cell.val (D.int r)::zii (2 - (0+1+1)) Cell.no)=[Cell.no,Cell.no,Cell.val (.int r)]from rfl,V0,key];rfl
theorem xY:F_law_with_k28=wA:=rfl
def zb2(e b:List Nat):D:= .tup [.int e.length,.int b.length,.tup (e.map λx=>D.tup (b.map λy=>D.int (if x=y then 1 else 0)))]
theorem Zt{p:Int}(z:Pr p){h w:Nat}(I:h<=100)(hw:w<=lim)(f:Nat->Nat->Int) :
 ∃r B l,F_image [.int p,jf h w f]=some (.own (zS r h B))/\IsB p h r B l/\∀v,Span p h (Fam r B) v↔Span p h (Fam w λj i=>f i j) v:=by
 obtain⟨r,B,l,e,O,S⟩:=qI z I hw .T λj i=>f i j;have U:=jD;refine⟨r,B,l,?_,O,S⟩;simp only [dsq]at e;have o:=yk f (show h<=lim by omega) hw;unfold jf at o ⊢;simp [F_image,jC,je,o,e]
theorem Qb{T:Tg}{F:CO Fl}(P:Nat->Ctx->Prop) : ∀(ds es:List D) (k:Nat) (γ:Ctx),P k γ->(∀i d γ,ds[i]? = some d->P (k+i) γ->∃γ',(qB T d γ).bind F=some (.next γ')/\P (k+i+1) γ')->
 ∃γ',P (k+ds.length) γ'/\qh T F (ds++es) γ=qh T F es γ'
 | [],es,k,γ,h,_=>⟨γ,h,rfl⟩
 | d::ds,es,k,γ,h,step=>by
  obtain⟨z,e,h1⟩:=step 0 d γ rfl h;obtain⟨γ',h2,I⟩:=Qb P ds es (k+1) z (by simpa using h1) (λi d' O hd S=>by
   have:=step (i+1) d' O (by simpa using hd) (by rw [show k+(i+1)=k+1+i by omega];exact S);rw [show k+(i+1)+1=k+1+i+1 by omega]at this;exact this)
  refine⟨γ',by rw [show k+(d::ds).length=k+1+ds.length by simp;omega];exact h2,?_⟩;rw [zlp,jQ];cases eb:qB T d γ with
  | none=>rw [eb]at e;simp at e
  | some U=>
   rw [eb]at e;simp only [zij]at e ⊢;rw [e];exact I
theorem Kb(n:Nat)(v:Vc):j4 (zB n v)=(zie n).map λ(i:Nat)=>D.tup [.int i,.int (v i)]:=by
 unfold j4;rw [vi];refine ziy λi hi=>?_;have:=zig.mp hi;simp [zB,this]
theorem kn{n a:Nat}(hn:n<=lim)(v:Vc)(ha:a<n)(I : ∀i,i<a->v i=0)(h1:v a≠0):F_lead_of [.tup (zB n v)]=some (.val (.int a)):=by
 have key:zO (.tp [0,1]) (sB (zq dNe (ze 1) (zk (.int 0)))) (ze 0) [Cell.no,Cell.no] ((zie n).map λ(i:Nat)=>D.tup [.int i,.int (v i)])=some (((zie n).filter λi=> !decide (v i=0)).map λ(i:Nat)=>D.int i):=by
  refine ja _ _ _ λi hi=>⟨_,rfl,?_,λ_=>rfl⟩;simp
 cases hf:(zie n).filter λi=> !decide (v i=0)with
 | nil=>exact absurd (by have:=vR hf a ha;simpa using this) h1
 | cons b rest=>
  obtain⟨U,O,S⟩:=kc hf;have e:b=a:=by
   rcases zkN a b with z | z | z
   ·exact absurd (by have:=S a z;simpa using this) h1
   ·exact z.symm
   ·exact absurd (I b z) (by simpa using O)
  subst e;rw [hf]at key;simp [F_lead_of,jC,je,Kb,hn,zT,zii,key]
theorem Zn{n a:Nat}(ha:a<n)(v z:Vc)(x:Int)(h1:z a=x)(h2 : ∀i,i<n->i≠a->z i=v i):(zB n v).set a (.int x)=zB n z:=by
 apply zkK;intro i;rw [zl0];by_cases hi:i<n
 ·by_cases e:a=i
  ·subst e;simp [ha,zB,h1]
  ·have:=h2 i hi (zi6 e)
   simp [e,zB,hi,this]
 ·have l1:(zB n v)[i]? = none:=by simp [zB];omega
  have l2:(zB n z)[i]? = none:=by simp [zB];omega
  rw [l1,l2,if_neg ⋯]
def Xo(w:Nat)(B:Nat->Vc)(l:Nat->Nat)(r:Nat):Vc:=λj=>zo (λk=>if l k=j then B k w else 0) r
def xv:CO Fl:=(zJ (z5 6 (zA F_lead_of (zb (ze 5) zC))) (zJ (sIf (sB (zq dEq (ze 6) (ze 3))) (jK (zk .non)) jh) (XH 4 (ze 6) (sIx (zf 5) (ze 3)))))
section
variable{p:Int}{h w r:Nat}
theorem XX{l:Nat->Nat}(hm : ∀k m,k<m->m<r->l k<l m){k m:Nat}(I:k<r)(O:m<r)(e:l k=l m):k=m:=by
 rcases zkN k m with z | z | z
 ·have:=hm k m z O;omega
 ·exact z
 ·have:=hm m k z I;omega
def aug(w:Nat)(f:Nat->Nat->Int)(b:Vc):Nat->Vc:=λi j=>if j<w then f i j else b i
theorem KD{B:Nat->Vc}{l:Nat->Nat}(a3:w+1<=lim)(O:IsB p (w+1) r B l){s:Nat}(hs:s<=r)(h1 : ∀k,k<s->l k<w)(es:List D)(a0 z I:Cell) :
 ∃c5 c6,qh (.nm 5) xv (zS s (w+1) B++es) [a0,z,I,.val (.int w),.own (zB w λ_=>0),.no,.no]=qh (.nm 5) xv es [a0,z,I,.val (.int w),.own (zB w (Xo w B l s)),c5,c6]:=by
 obtain⟨γ',⟨c5,c6,rfl⟩,e⟩:=Qb (T:= .nm 5) (F:=xv) (λt γ=>∃c5 c6,γ=[a0,z,I,.val (.int w),.own (zB w (Xo w B l t)),c5,c6]) (zS s (w+1) B) es 0 [a0,z,I,.val (.int w),.own (zB w λ_=>0),.no,.no]
  ⟨.no,.no,by rw [xL (f:=Xo w B l 0) (g:=λ_=>0) λi _=>rfl]⟩ (by
   rintro k d γ hd ⟨c5,c6,rfl⟩;rw [zi1];have Y:k<s:=by have:=(zit.mp hd).1;simpa using this
   have a4:d = .tup (zB (w+1) (B k)):=by simp [Y]at hd;exact hd.symm
   subst a4;have S:k<r:=by omega
   have Z:=h1 k Y;have le:=kn a3 (B k) (show l k<w+1 by omega) (λi hi=>O.bef k i S hi) (by rw [O.one k S];decide);refine⟨_,?_,.val (.tup (zB (w+1) (B k))),.val (.int (l k)),rfl⟩;have U : ¬((l k:Int)=(w:Int)):=by omega
   have a5 : ¬l k=w:=by omega
   have hx:w<w+1:=by omega
   have ev:=Zn Z (Xo w B l k) (Xo w B l (k+1)) (B k w) (by
    unfold Xo;simp only [zo,if_true];rw [zK (g:=λ_=>0) λm hm=>by
     rw [if_neg λe=>by have:=O.mono m k hm S;omega],zZ]
    omega) (λi hi U=>by
    unfold Xo;simp only [zo];rw [if_neg (zi6 U)];omega)
   simp [xv,jb,le,U,a5,Z,hx,ev])
 rw [Ke]at e;refine⟨c5,c6,?_⟩;rw [e];rw [zi1]
theorem zdo(w:Nat)(f:Nat->Nat->Int)(b:Vc)(i:Nat):zB w (f i)++[.int (b i)]=zB (w+1) (aug w f b i):=by
 unfold zB;rw [zjE,zjf];congr 1
 ·exact ziy λj z=>by simp [aug,zig.mp z]
 ·simp [aug]
theorem wx(Y:Pr p)(hh:h<=90)(hw:w<=90)(f:Nat->Nat->Int)(b:Vc) :
 ∃r B l s,IsB p (w+1) r B l/\(∀v,Span p (w+1) (Fam r B) v↔Span p (w+1) (Fam h (aug w f b)) v)/\s<=r/\(∀k,k<s->l k<w)/\(∀k,s<=k->k<r->w<=l k)/\
  F_solved [.int p,jf h w f,.tup (zB h b)]=some (.val (if s<r then .non else .tup (zB w (Xo w B l s)))):=by
 have hl:=jD;have S:h<=lim:=by omega
 have Z:w<=lim:=by omega
 have O:w+1<=lim:=by omega
 obtain⟨r,B,l,e,I,a0⟩:=qI Y (show w+1<=100 by omega) S .L (aug w f b);obtain⟨s,U,s1,s2⟩:=ve w I.mono;refine⟨r,B,l,s,I,a0,U,s1,s2,?_⟩;have rows:zO (.tp [0,1]) zV (zq jx (ze 0) (qj (zb (ze 1) zC))) [Cell.no,Cell.no] ((zie h).map λi=>D.tup [.tup (zB w (f i)),.int (b i)])=some (zS h (w+1) (aug w f b)):=by
  unfold zS;refine zw _ _ λi hi=>zx rfl rfl ?_;simp [jx,O,zdo]
 have zp:Jg (zS h w f) (zB h b)=(zie h).map λi=>D.tup [.tup (zB w (f i)),.int (b i)]:=by
  unfold Jg zS zB;rw [zkz];simp
 have a2:zii w (D.int 0)=zB w λ_=>0:=by rw [YX];rfl
 have c1:((w+1:Nat):Int)=(w:Int)+1:=by omega
 simp only [dsq]at e;rw [c1]at e;obtain⟨d,hd⟩ : ∃d,r=s+d:=⟨r - s,by omega⟩;have sp:zS r (w+1) B=zS s (w+1) B++zS d (w+1) λk=>B (s+k):=by
  unfold zS;rw [hd,zk7,zjf,ziZ];rfl
 obtain⟨c5,c6,lp⟩:=KD O I U s1 (zS d (w+1) λk=>B (s+k)) (.val (.int p)) (.val (jf h w f)) (.val (.tup (zB h b)));have x0:jE (jf h w f)=some (.T,[.int h,.int w,.tup (zS h w f)]):=rfl;have e0:F_solved=jC 7 (zJ (z5 3 (sIx (zf 1) (zk (.int 1)))) (zJ (xS 4 (W6 (zX (qF (zb (zk (.int 0)) zC))) (ze 3))) (zJ (xT (zD (zH (jq (zY F_base_of (zb (ze 0) (zb (zq jx (ze 3) (zk (.int 1))) (zb (jq (zE (Jh (sIx (zf 1) (zk (.int 2))) (ze 2)) (.tp [0,1]) 2 [] zV (zq jx (ze 0) (qj (zb (ze 1) zC))))) zC))))))) (.nm 5) xv) (jK (zF (zf 4)))))):=rfl;rw [e0];simp [jC,je,jb,x0,Z,zp,S,zT,zii,rows,e];rw [a2,sp,lp];by_cases z:s<r
 ·
  have a7:d=1:=by
   rcases ziN 1 d with q | q
   ·have h1:=I.mono s (s+1) ⋯ ⋯
    have h2:=s2 s (zim _) z;have h3:=I.lt (s+1) ⋯;omega
   ·omega
  subst a7;have a8:l s=w:=by have:=s2 s (zim _) z;have:=I.lt s z;omega
  have le:=kn O (B s) (show w<w+1 by omega) (λi hi=>I.bef s i z ⋯) (by have:=I.one s z;rw [a8]at this;rw [this];decide);have one:zS 1 (w+1) (λk=>B (s+k))=[.tup (zB (w+1) (B s))]:=rfl;rw [one,jQ];simp [xv,jb,le,z]
 ·have a9:d=0:=by omega
  subst a9;have zero:zS 0 (w+1) (λk=>B (s+k))=[]:=rfl;rw [zero];simp [qh,z]
end
section
variable{p:Int}{m:Nat}{w:Nat->Bool}{wd:Nat->Nat}{T:Nat->Nat->Nat->Int}{a:Nat}
abbrev lk(p:Int)(m:Nat)(w:Nat->Bool)(wd:Nat->Nat)(T:Nat->Nat->Nat->Int)(i j:Int)(a:Nat)(ds:List D)(c:Cell):Ctx:=[.val (j9 p m w wd T),.val (.int i),.val (.int j),.val (jf a a λi j=>if i=j then 1 else 0),.own ds,c]
end
section
variable{p:Int}{m:Nat}{w:Nat->Bool}{wd:Nat->Nat}{T:Nat->Nat->Nat->Int}
theorem xQ:jE (j9 p m w wd T)=some (.T,[.int p,.tup (zB (m+1) λk=>(wd k:Int)),.tup (jH m w wd T)]):=rfl
end
@[simp] theorem zfu(γ:Ctx)(f):JC f γ=(f γ).bind λd=>match d with
 | .str z=>if jF z=true then some (j4 (qM z))else none
 | _=>none:=rfl
def pr(a b:Nat):D:= .tup [.int a,.int b]
@[simp] theorem zhl(a b):jE (pr a b)=some (.T,[.int (a:Int),.int (b:Int)]):=rfl
def mk(lo:Nat)(ch:List Int)(r:Nat):Int:=if lo<=r then ch.getD (r - lo) 0 else 0
def Ji(h w:Nat)(f:Nat->Nat->Int):List D:=(zie h).map λi=>D.lst (zB w (f i))
@[simp] theorem zaR(h w f):(Ji h w f).length=h:=by simp [Ji]
theorem yi(ds:List D):jE (.lst ds)=some (.L,ds):=rfl
theorem jS(ds:List D):jE (.tup ds)=some (.T,ds):=rfl
theorem XM{α:Type}(s:Nat)(f:Nat->α):(zie (s+1)).map f=(zie s).map f++[f s]:=by
 rw [zjE,zjf];rfl
theorem Ws(s w wd T):jH (s+1) w wd T=jH s w wd T++[qv w wd T s]:=XM _ _
section
variable{p:Int}{m:Nat}{w:Nat->Bool}{wd wd':Nat->Nat}{T T' J:Nat->Nat->Nat->Int}
theorem QF(h w f):jE (jf h w f)=some (.T,[.int (h:Int),.int (w:Int),.tup (zS h w f)]):=rfl
theorem yF(h w f):(zS h w f).length=h:=by simp [zS]
theorem Xe(s w:Nat)(f:Nat->Nat->Int):zS (s+1) w f=zS s w f++[.tup (zB w (f s))]:=XM _ _
end
def wl(l:List Bool):Str:=⟨⟨l.map wch⟩⟩
def zgx(n k:Nat)(u:Nat->Int):Int:=if 0<k then (if k+1<n then u (k - 1)+(u (k+1)+0)else u (k - 1)+0)else if k+1<n then u (k+1)+0 else 0
def mv(n k:Nat)(u:Nat->Int)(i:Nat):Int:=if i=k then zgx n k u - u k else u i
theorem zdu{w:Nat}{B:Nat->Vc}{l:Nat->Nat}{r j:Nat}(h : ∀k,k<r->l k≠j):Xo w B l r j=0:=by
 unfold Xo;rw [zK (g:=λ_=>0) λk z=>if_neg (h k z),zZ]
theorem zfw{p:Int}{w n r:Nat}{B:Nat->Vc}{l:Nat->Nat}(I:IsB p n r B l){k:Nat}(z:k<r):Xo w B l r (l k)=B k w:=by
 unfold Xo;rw [z7 z λm hm O=>if_neg λe=>O (XX I.mono hm z e),if_pos rfl]
theorem WY{p:Int}{h w:Nat}{f:Nat->Nat->Int}{b y:Vc}(S : ∀i,i<h->zo (λj=>f i j*y j) w%p=b i%p){v:Vc}(U:Span p (w+1) (Fam h (aug w f b)) v):(v w - zo (λj=>v j*y j) w)%p=0:=by
 induction U with
 | @zero v I=>
  have e:zo (λj=>v j*y j) w%p=zo (λ_=>0) w%p:=zU λj O=>by rw [ziE,I j ⋯];simp
  rw [zjZ,e,I w ⋯,zZ];simp
 | @step v z g c Y a3 h1 Z=>
  obtain⟨i,hi,rfl⟩:=Y;have e1:zo (λj=>v j*y j) w%p=(zo (λj=>z j*y j) w+c*zo (λj=>f i j*y j) w)%p:=by
   rw [<- jX,<- ql];refine zU λj O=>?_;rw [ziE,h1 j ⋯,<- ziE];have:aug w f b i j=f i j:=by simp [aug,O]
   rw [this,Int.add_mul,zkF]
  have e2:v w%p=(z w+c*b i)%p:=by
   rw [h1 w ⋯];have:aug w f b i w=b i:=by simp [aug]
   rw [this]
  have e3:(c*zo (λj=>f i j*y j) w)%p=(c*b i)%p:=by rw [ziE,S i hi,<- ziE]
  rw [zjZ,e1,e2,<- zjZ];have e4:(z w+c*b i - (zo (λj=>z j*y j) w+c*zo (λj=>f i j*y j) w))=(z w - zo (λj=>z j*y j) w)+(c*b i - c*zo (λj=>f i j*y j) w):=by omega
  rw [e4,zjB,Z,zjZ,e3];simp
theorem W0{p:Int}(U:Pr p){h w:Nat}(hh:h<=90)(hw:w<=90)(f:Nat->Nat->Int)(b y:Vc)(S : ∀i,i<h->0<=b i/\b i<p)(hy : ∀i,i<h->zo (λj=>f i j*y j) w%p=b i) :
 ∃x:Vc,F_solved [.int p,jf h w f,.tup (zB h b)]=some (.val (.tup (zB w x)))/\(∀j,0<=x j/\x j<p)/\∀i,i<h->zo (λj=>f i j*x j) w%p=b i:=by
 have p0:=U.pos;obtain⟨r,B,l,s,O,Y,hs,s1,s2,Z⟩:=wx U hh hw f b;have a3 : ¬s<r:=λz=>by
  have ab:=O.lt s z;have ac:=s2 s (zim _) z;have el:l s=w:=by omega
  have sp:=(Y (B s)).mp (.gen ⟨s,z,rfl⟩);have q:=WY (y:=y) (λi hi=>by rw [hy i hi,zjn (S i hi).1 (S i hi).2]) sp;have h1:=O.one s z;rw [el]at h1;have h2:zo (λj=>B s j*y j) w=0:=by
   rw [zK (g:=λ_=>0) λj hj=>by rw [O.bef s j z ⋯];simp];exact zZ _
  rw [h1,h2,Int.sub_zero,U.one]at q;omega
 rw [if_neg a3]at Z;have er:s=r:=by omega
 subst er;refine⟨_,Z,λj=>?_,λi hi=>?_⟩
 ·by_cases e : ∃k,k<s/\l k=j
  ·obtain⟨k,I,rfl⟩:=e
   rw [zfw O I];exact O.rng k w I ⋯
  ·rw [zdu λk I e'=>e ⟨k,I,e'⟩];exact⟨Int.le_refl _,p0⟩
 ·have co:=wO O ((Y (aug w f b i)).mpr (.gen ⟨i,hi,rfl⟩)) w ⋯
  have a8:aug w f b i w=b i:=by simp [aug]
  rw [a8,zjn (S i hi).1 (S i hi).2]at co;rw [co];congr 1;unfold Xo;rw [zK (g:=λj=>zo (λk=>f i j*(if l k=j then B k w else 0)) s) λj _=>(jX _ _ _).symm,xl];refine zK λk I=>?_;rw [z7 (i:=l k) (s1 k I) λj hj a9=>by rw [if_neg (zi6 a9)];simp,if_pos rfl];simp only [aug,if_pos (s1 k I)]
def xf(wd:Nat->Nat)(b:Bar):List D:=(zie b.n).map λi=>D.tup (zB (wd (b.s+i)) (b.v (b.s+i)))
def jV(wd:Nat->Nat)(b:Bar):D:= .tup [.int b.s,.tup (xf wd b)]
@[simp] theorem K5(wd b):(xf wd b).length=b.n:=by simp [xf]
theorem X0{wd:Nat->Nat}{b:Bar}{i:Nat}(h:i<b.n):(xf wd b)[i]? = some (.tup (zB (wd (b.s+i)) (b.v (b.s+i)))):=by simp [xf,h]
@[simp] theorem zgS(wd b):jE (jV wd b)=some (.T,[.int b.s,.tup (xf wd b)]):=rfl
section
variable{wd:Nat->Nat}{b:Bar}{bars:List Bar}
theorem wV(h1:1<=b.n)(hn:b.s+b.n<=100):F_stretch_of [jV wd b]=some (.val (.tup [.int b.s,.int ((b.s+b.n - 1:Nat):Int)])):=by
 have e:((b.s:Int)+(b.n:Int) - 1)=((b.s+b.n - 1:Nat):Int):=by omega
 simp [F_stretch_of,jC,je,jV,zii];omega
theorem xK(hn:b.s+b.n<=100)(r:Nat):F_has_room [jV wd b,.int r]=some (.val (.bl (b.has r))):=by
 by_cases h:b.s<=r
 ·by_cases h2:r<b.s+b.n
  ·have:(r:Int)<(b.s:Int)+b.n:=by omega
   simp [F_has_room,jC,je,jV,zii,Bar.has,h,h2,this]
  ·have : ¬((r:Int)<(b.s:Int)+b.n):=by omega
   simp [F_has_room,jC,je,jV,zii,Bar.has,h,h2,this]
 ·simp [F_has_room,jC,je,jV,zii,Bar.has,h]
theorem kL{N:Nat}{A:Nat->Bar}(z : ∀j,j<N->(A j).s+(A j).n<=100)(I:N<=lim)(r:Nat) :
 F_loads_in [.lst ((zie N).map λj=>jV wd (A j)),.int r]=some (.own (((zie N).filter λj=>(A j).has r).map λj=>D.tup (zB (wd r) ((A j).v r)))):=by
 simp only [F_loads_in,jC,je,Xl,qr,qQ,j5,ziK,zlu,ziQ,zjd,zii,zkD,zlp,zkA,zin,kh,jE,ziC,zij,ziD,zjm,I,if_true];rw [ja (λj=>(A j).has r) (λj=>D.tup (zB (wd r) ((A j).v r))) (zie N) λj O=>⟨_,rfl,?_,λU=>?_⟩]
 ·rfl
 ·have e:=xK (wd:=wd) (z j (zig.mp O)) r
  simp [zT,e]
 ·obtain⟨h1,h2⟩:=has_iff.mp U
  obtain⟨i,rfl⟩:=Nat.exists_eq_add_of_le h1;have hi:i<(A j).n:=by omega
  have e1:(((A j).s+i:Nat):Int) - ((A j).s:Int)=(i:Int):=by omega
  have S:=X0 (wd:=wd) hi;have I:=jD;have Y:=z j (zig.mp O);simp [zT,jV,hi,S];rw [show((A j).s:Int)+(i:Int) - ((A j).s:Int)=(i:Int)by omega,qL,if_pos hi];exact S
theorem yG{q h:Nat}(g:Nat->Vc)(z:q<=lim)(I:h<=lim):F_columns [.int h,.lst (zS q h g)]=some (.val (jf h q λi j=>g j i)):=by
 have e:=yk (h:=q) (w:=h) g z I;unfold jf at e;simp [F_columns,jC,je,zii,z,e];rfl
theorem XZ(h:Nat)(u:Nat->Vc)(L:List Nat):(L.map λj=>D.tup (zB h (u j)))=zS L.length h λi=>u (L.getD i 0):=by
 unfold zS
 conv=>lhs;rw [<- z9 0 L]
 rw [ziZ];rfl
theorem zaQ(u:Nat->Int)(L:List Nat):(L.map λj=>D.int (u j))=zB L.length λi=>u (L.getD i 0):=by
 unfold zB
 conv=>lhs;rw [<- z9 0 L]
 rw [ziZ];rfl
theorem wT(P:Nat->Bool)(g:Nat->Int) : ∀N,zo (λi=>g (((zie N).filter P).getD i 0)) ((zie N).filter P).length=zo (λj=>if P j=true then g j else 0) N
 | 0=>rfl
 | N+1=>by
  have z:=wT P g N;rw [zjE,zk5];show _=zo _ N+_;rw [<- z];cases hP:P N with
  | false=>simp [hP]
  | true=>
   have e:([N].filter P)=[N]:=by simp [hP]
   rw [e,zjo,zkk];show zo _ _+_=_;simp only [if_true];congr 1
   ·refine zK λi hi=>?_
    simp [zil,zi9 hi]
   ·simp [zil,hP]
end
section
variable{wd:Nat->Nat}{N m:Nat}{A:Nat->Bar}{p:Int}{w:Nat->Bool}{T:Nat->Nat->Nat->Int}{t:Vc}
theorem WO:Jg (zB N t) ((zie N).map λj=>jV wd (A j))=(zie N).map λj=>D.tup [.int (t j),jV wd (A j)]:=by
 unfold Jg zB;rw [List.zip_map,ziZ];have e:(zie N).zip (zie N)=(zie N).map λi=>(i,i):=by
  rw [List.zip_eq_zipWith,List.zipWith_self]
 rw [e,ziZ];rfl
theorem ZR(S:Pr p)(U : ∀j,j<N->(A j).s+(A j).n<=100)(hN:N<=60)(hm:m<=5)(Y : ∀k,wd k<=60){r:Nat}(hr:r<=m)(Z : ∀j i,j<N->(A j).has r=true->i<wd r->0<=(A j).v r i/\(A j).v r i<p) :
 F_mixed_load [j9 p m w wd T,.lst ((zie N).map λj=>jV wd (A j)),.tup (zB N t),.int r]=some (.val (.tup (zB (wd r) (mxV p A N t r)))):=by
 have hl:=jD;have p7:=S.le;have aa:=Y r;have e1:=kL (wd:=wd) U (show N<=lim by omega) r;rw [XZ (wd r) (λj=>(A j).v r)]at e1;have hq:((zie N).filter λj=>(A j).has r).length<=N:=by
  have:=zlv (λj=>(A j).has r) (zie N);simpa using this
 have e2:=yG (q:=((zie N).filter λj=>(A j).has r).length) (h:=wd r) (λi=>(A (((zie N).filter λj=>(A j).has r).getD i 0)).v r) ⋯ ⋯;have I:=Kp (p:=p) (h:=wd r) (w:=((zie N).filter λj=>(A j).has r).length) .L (λi j=>(A (((zie N).filter λj=>(A j).has r).getD j 0)).v r i) (λi=>t (((zie N).filter λj=>(A j).has r).getD i 0)) S.pos ⋯ ⋯ (λi j hi O=>by
  have a1:((zie N).filter λj=>(A j).has r).getD j 0∈(zie N).filter λj=>(A j).has r:=by
   rw [zil,zih O];exact zka _
  obtain⟨h1,h2⟩:=ziO.mp a1;have:=Z _ i (zig.mp h1) (by simpa using h2) hi;omega)
 have e4:(zB (wd r) λi=>zo (λj=>(A (((zie N).filter λj=>(A j).has r).getD j 0)).v r i*t (((zie N).filter λj=>(A j).has r).getD j 0)) ((zie N).filter λj=>(A j).has r).length%p)=zB (wd r) (mxV p A N t r):=xL λi _=>by
  unfold mxV;rw [wT (λj=>(A j).has r) (λj=>(A j).v r i*t j) N];congr 1;refine zK λj _=>?_;rw [zjN]
 rw [e4]at I;have e5:zO (.tp [0,1]) (sB (zA F_has_room (zb (ze 1) (zb (ze 2) zC)))) (ze 0) [.no,.no,.val (.int r)] ((zie N).map λj=>D.tup [.int (t j),jV wd (A j)])=some (zB ((zie N).filter λj=>(A j).has r).length λi=>t (((zie N).filter λj=>(A j).has r).getD i 0)):=by
  rw [<- zaQ];refine ja (λj=>(A j).has r) (λj=>D.int (t j)) _ λj O=>⟨_,rfl,?_,λ_=>rfl⟩;have e:=xK (wd:=wd) (U j (zig.mp O)) r;simp [e]
 have a4:r<m+1:=by omega
 have z:=WO (N:=N) (wd:=wd) (t:=t) (A:=A);simp only [dsq]at I;have a5:N<=lim:=by omega
 refine jB (zu (γ':=[.val (j9 p m w wd T),.val (.lst ((zie N).map λj=>jV wd (A j))),.val (.tup (zB N t)),.val (.int r),.val (.lst (zB ((zie N).filter λj=>(A j).has r).length λi=>t (((zie N).filter λj=>(A j).has r).getD i 0)))]) ?_ ?_)
 ·simp [-zil,je,zT,zii,z,e5,a5]
 ·simp [-zil,j9,e1,e2,I,a4]
theorem zaO(S:Pr p)(I : ∀j,j<N->(A j).s+(A j).n<=m+1)(U:N<=60)(hm:m<=5)(Y : ∀k,wd k<=60)(Z : ∀j r i,j<N->(A j).has r=true->i<wd r->0<=(A j).v r i/\(A j).v r i<p){a:Nat}(ha:a<N)(t0 : ∀i,i<a->t i=0)(t1:t a≠0) :
 F_mixed [j9 p m w wd T,.lst ((zie N).map λj=>jV wd (A j)),.tup (zB N t)]=some (.val (jV wd (mxB p A N t a))):=by
 have hl:=jD;have a2:N<=lim:=by omega
 have e0:=kn a2 t ha t0 t1;have a9:=I a ha;have e1:zO (.nm 0) zV (zA F_mixed_load (zb (ze 1) (zb (ze 2) (zb (ze 3) (zb (zq jx (sIx (zf 4) (zk (.int 0))) (ze 0)) zC))))) [.no,.val (j9 p m w wd T),.val (.lst ((zie N).map λj=>jV wd (A j))),.val (.tup (zB N t)),.val (jV wd (A a))] ((zie (A a).n).map λ(i:Nat)=>D.int i)=some (xf wd (mxB p A N t a)):=by
  unfold xf;refine zw _ _ λi hi=>zx rfl rfl ?_;have hi:=zig.mp hi;have e:=ZR (T:=T) (w:=w) (t:=t) S (λj z=>by have:=I j z;omega) U hm Y (r:=(A a).s+i) (by have:i<(A a).n:=hi;omega) λj c z hh hc=>Z j _ c z hh hc;have e2:(((A a).s+i:Nat):Int)=((A a).s:Int)+(i:Int):=by omega
  rw [e2]at e;have i0:inR (((A a).s:Int)+(i:Int))=true:=decide_eq_true (by have:i<(A a).n:=hi;omega);simp [e];rfl
 have hn:(A a).n<=lim:=by omega
 have i1:inR ((A a).n:Int)=true:=decide_eq_true ⋯;refine jB (zu (γ':=[.val (j9 p m w wd T),.val (.lst ((zie N).map λj=>jV wd (A j))),.val (.tup (zB N t)),.val (jV wd (A a)),.no]) ?_ (zu (γ':=[.val (j9 p m w wd T),.val (.lst ((zie N).map λj=>jV wd (A j))),.val (.tup (zB N t)),.val (jV wd (A a)),.val (.lst (xf wd (mxB p A N t a)))]) ?_ ?_))
 ·simp [je,zii,e0,ha]
 ·have O:=e1
  rw [show((zie (A a).n).map λ(i:Nat)=>D.int i)=zB (A a).n λi=>(i:Int)from rfl]at O;simp [zT,jI,i1,hn,O]
 ·have a7:(mxB p A N t a).n<=lim:=hn
  simp [K5,a7];rfl
end
def b1:CO Fl:=(sIf (jc (sB (zA Zu (zb (ze 1) zC)))) XI jh)
def b2:CO Fl:=(z5 3 (zq jx (QO (ze 1)) (zk (.int 1))))
def b3:CO Fl:=(sIf (jc (sB (WH (zX (zE (zD (zf 2)) (.nm 0) 1 [3] zV (zA yY (zb (ze 1) (zb (ze 0) zC)))))))) XI jh)
def b4:CO Fl:=(z5 4 (jq (w4 (zf 2))))
def x1:CO Xn:=(xIf (jc (sB (zA Zu (zb (ze 1) zC)))) (zf9 "NoRow") xNo)
def x3:CO Xn:=(xIf (jc (sB (WH (zX (zE (zD (zf 2)) (.nm 0) 1 [3] zV (zA yY (zb (ze 1) (zb (ze 0) zC)))))))) (zf9 "NoRow") xNo)
def x7:CO Xn:=(xIf (sB (zq dGt (zbz (zf 6)) (zk (.int 30)))) (zf9 "TooMany") xNo)
theorem VY(m:Nat)(w:Nat->Bool):j4 (qM (Qz m w))=(zie m).map λ(k:Nat)=>D.tup [.int k,.str (qY (wch (w k)))]:=by
 have e:qM (Qz m w)=(zie m).map λk=>D.str (qY (wch (w k))):=by
  unfold qM;rw [wP,ziZ];rfl
 unfold j4;rw [e];simp only [ziD,zjm];refine ziy λk z=>?_;simp [zig.mp z]
def zfD(n:Int)(b:Int×Int):Bool:=decide (0<=b.1/\b.1<n/\0<=b.2/\b.2<n/\b.1<=b.2)
def zd2(m:Nat)(bs:List (Int×Int)):List D:=(zie (m+1)).map λ(r:Nat)=>D.lst (zbN (jz bs r))
def qe(m:Nat)(bs:List (Int×Int)):List D:=zB (m+1) λr=>((jz bs r).length:Int)
def kM(m:Nat)(w:Nat->Bool)(bs:List (Int×Int)):List D:=(zie m).map λk=>D.tup [.str (qY (wch (w k))),zb2 (jz bs (endR w k)) (jz bs (begR w k))]
def BR(p:Int)(m:Nat)(w:Nat->Bool)(bs:List (Int×Int)):D:= .tup [.int p,.tup (qe m bs),.tup (kM m w bs)]
section
variable{p:Int}{m:Nat}{w:Nat->Bool}{bs:List (Int×Int)}
abbrev g0(p:Int)(z:Str)(bs:List (Int×Int)):Ctx:=[.val (.int p),.val (.str z),.val (.lst (jy bs)),.no,.no,.no,.no,.no]
abbrev g2(p:Int)(z:Str)(m:Nat)(bs:List (Int×Int)):Ctx:=[.val (.int p),.val (.str z),.val (.lst (jy bs)),.val (.int ((m+1:Nat):Int)),.no,.no,.no,.no]
abbrev g6(p:Int)(z:Str)(m:Nat)(bs:List (Int×Int)):Ctx:=[.val (.int p),.val (.str z),.val (.lst (jy bs)),.val (.int ((m+1:Nat):Int)),.val (.lst (jy (xB bs))),.val (.lst (zd2 m (xB bs))),.val (.tup (qe m (xB bs))),.no]
theorem QA:(qe m bs).length=m+1:=by simp [qe]
end
def Vw:CO Fl:=(zJ (z5 7 (zq jx (ze 5) (qJ (zq dEq (ze 6) (zk (.str "l")))))) (zJ (z5 8 (zq jx (ze 5) (qJ (zq dEq (ze 6) (zk (.str "r")))))) (zJ (z5 9 (jq (zE (zD (zX (zY F_law_with_k28 (zb (ze 2) (zb (ze 8) zC))))) (.nm 0) 1 [2,7] zV (zF (zX (zE (zD (zX (zY F_law_with_k28 (zb (ze 1) (zb (ze 2) zC))))) (.nm 0) 1 [0] zV (qJ (zq dEq (ze 1) (ze 0))))))))) (jY 4 (qj (zb (ze 6) (zb (qj (zb (sIx (zf 3) (ze 8)) (zb (sIx (zf 3) (ze 7)) (zb (zF (zf 9)) zC)))) zC)))))))
theorem v0:F_law_bar_row=jC 10 (zJ (z5 3 (jq (zE (zR (zq jx (QO (ze 1)) (zk (.int 1)))) (.nm 0) 1 [2] zV (qw (zX (zY F_law_with_k28 (zb (ze 1) (zb (ze 0) zC)))))))) (zJ (xS 4 (qF zC)) (zJ (xT (JC (ze 1)) (.tp [5,6]) Vw) (jK (qj (zb (ze 0) (zb (zF (zf 3)) (zb (zF (zf 4)) zC)))))))):=rfl
section
variable{p:Int}{m:Nat}{w:Nat->Bool}{bs:List (Int×Int)}
theorem Wp(w:Nat->Bool)(k:Nat):((k:Int)+if w k=true then 1 else 0)=((begR w k:Nat):Int):=by unfold begR;split<;>omega
theorem V3(w:Nat->Bool)(k:Nat):((k:Int)+if (!w k)=true then 1 else 0)=((endR w k:Nat):Int):=by unfold endR;cases w k<;>simp
theorem zc0{b:List Nat}(x:Nat):zO (.nm 0) zV (qJ (zq dEq (ze 1) (ze 0))) [Cell.no,Cell.val (.int x)] (zbN b)=some (b.map λy=>D.int (if x=y then 1 else 0)):=by
 unfold zbN;refine zw _ _ λy z=>zx rfl rfl ?_;by_cases h:x=y
 ·simp [h]
 ·have h' : ¬((x:Int)=(y:Int)):=by omega
  simp [h,h']
abbrev lc(p:Int)(m:Nat)(w:Nat->Bool)(bs:List (Int×Int))(acc:List D)(c5 c6 c7 c8 c9:Cell):Ctx:=[.val (.int p),.val (.str (Qz m w)),.val (.lst (jy bs)),.val (.lst (qe m bs)),.own acc,c5,c6,c7,c8,c9]
def Ko(w:Nat->Bool)(bs:List (Int×Int))(k:Nat):D:=D.tup [.str (qY (wch (w k))),zb2 (jz bs (endR w k)) (jz bs (begR w k))]
theorem Vv(hm:m<=5)(hb:bs.length<64){k:Nat}(z:k<m)(acc:List D)(ha:acc.length<lim)(c7 c8 c9:Cell) : ∃S U Y,Vw (lc p m w bs acc (.val (.int k)) (.val (.str (qY (wch (w k))))) c7 c8 c9)=some (.next (lc p m w bs (acc++[Ko w bs k]) (.val (.int k)) (.val (.str (qY (wch (w k))))) S U Y)):=by
 have hl:=jD;have I:bs.length<=lim:=by omega
 have h1:=Z0 w z;have h2:=Jb w z;have O : ∀r:Int,(jz bs r).length<=lim:=λr=>by have:=JO bs r;omega
 have Z:=zbQ (w k);have q2:=zdc (w k);have bi:=Wp w k;have ei:=V3 w k;refine⟨.val (.int ((begR w k:Nat):Int)),.val (.int ((endR w k:Nat):Int)),.val (.lst ((jz bs (endR w k)).map λx=>D.tup ((jz bs (begR w k)).map λy=>D.int (if x=y then 1 else 0)))),?_⟩;have s7:(z5 7 (zq jx (ze 5) (qJ (zq dEq (ze 6) (zk (.str "l")))))) (lc p m w bs acc (.val (.int k)) (.val (.str (qY (wch (w k))))) c7 c8 c9)=some (.next (lc p m w bs acc (.val (.int k)) (.val (.str (qY (wch (w k))))) (.val (.int ((begR w k:Nat):Int))) c8 c9)):=by
  rw [<- bi];simp [lc,Z]
 have s8 : ∀c7,(z5 8 (zq jx (ze 5) (qJ (zq dEq (ze 6) (zk (.str "r")))))) (lc p m w bs acc (.val (.int k)) (.val (.str (qY (wch (w k))))) c7 c8 c9)=some (.next (lc p m w bs acc (.val (.int k)) (.val (.str (qY (wch (w k))))) c7 (.val (.int ((endR w k:Nat):Int))) c9)):=λc7=>by
  rw [<- ei];simp [lc,q2]
 have rows:zO (.nm 0) zV (zF (zX (zE (zD (zX (zY F_law_with_k28 (zb (ze 1) (zb (ze 2) zC))))) (.nm 0) 1 [0] zV (qJ (zq dEq (ze 1) (ze 0)))))) [Cell.no,Cell.val (.lst (jy bs)),Cell.val (.int ((begR w k:Nat):Int))] (zbN (jz bs (endR w k)))=some ((jz bs (endR w k)).map λx=>D.tup ((jz bs (begR w k)).map λy=>D.int (if x=y then 1 else 0))):=by
  rw [zbN];refine zw _ _ λx hx=>zx rfl rfl ?_;have:=zc0 (b:=jz bs (begR w k)) x;simp [xY,xi I,O,zT,qG,zii,this]
 have s9:(z5 9 (jq (zE (zD (zX (zY F_law_with_k28 (zb (ze 2) (zb (ze 8) zC))))) (.nm 0) 1 [2,7] zV (zF (zX (zE (zD (zX (zY F_law_with_k28 (zb (ze 1) (zb (ze 2) zC))))) (.nm 0) 1 [0] zV (qJ (zq dEq (ze 1) (ze 0))))))))) (lc p m w bs acc (.val (.int k)) (.val (.str (qY (wch (w k))))) (.val (.int ((begR w k:Nat):Int))) (.val (.int ((endR w k:Nat):Int))) c9) =
  some (.next (lc p m w bs acc (.val (.int k)) (.val (.str (qY (wch (w k))))) (.val (.int ((begR w k:Nat):Int))) (.val (.int ((endR w k:Nat):Int))) (.val (.lst ((jz bs (endR w k)).map λx=>D.tup ((jz bs (begR w k)).map λy=>D.int (if x=y then 1 else 0))))))):=by
  rw [yX,Zq,qr,qQ,kN,zbn];simp only [lc,j6,xy,qi,zin,zio,zQ,zij,ziC,xY,xi I,zaa,zaN,O,if_true];rw [show zT 1 [2,7] [Cell.val (D.int p),Cell.val (D.str (Qz m w)),Cell.val (D.lst (jy bs)),Cell.val (D.lst (qe m bs)),Cell.own acc,Cell.val (D.int (k:Int)),Cell.val (D.str (qY (wch (w k)))),Cell.val (D.int ((begR w k:Nat):Int)),Cell.val (D.int ((endR w k:Nat):Int)),c9]=[Cell.no,Cell.val (.lst (jy bs)),Cell.val (.int ((begR w k:Nat):Int))]from rfl];rw [xY]at rows;rw [rows];rfl
 have wl:(qe m bs).length=m+1:=QA;have i1:ixD (m+1) ((endR w k:Nat):Int)=some (endR w k):=by rw [qL,if_pos h1]
 have i2:ixD (m+1) ((begR w k:Nat):Int)=some (begR w k):=by rw [qL,if_pos h2]
 have w1:(qe m bs)[endR w k]? = some (.int ((jz bs (endR w k)).length:Int)):=Z1 (n:=m+1) (λr=>((jz bs r).length:Int)) h1;have w2:(qe m bs)[begR w k]? = some (.int ((jz bs (begR w k)).length:Int)):=Z1 (n:=m+1) (λr=>((jz bs r).length:Int)) h2;unfold Vw;rw [jb,s7];show zJ _ _ _=_;rw [jb,s8];show zJ _ _ _=_;rw [jb,s9,ZF];simp only [ww,lc,yW,j6,xy,qi,yI,j5,qT,zin,zio,zQ,z6,Xi,zfo,zij,ziC,qc,wl,i1,i2,w1,w2,ziQ,zjd,ha,if_true];rfl
theorem va(hm:m<=5)(Z:bs.length<64):F_law_bar_row [.int p,.str (Qz m w),.lst (jy bs)]=some (.val (BR p m w bs)):=by
 have hl:=jD;have a0:bs.length<=lim:=by omega
 have z:m+1<=lim:=by omega
 have I:=Kq w (show m<=1000 by omega);have k1:zO (.nm 0) zV (qw (zX (zY F_law_with_k28 (zb (ze 1) (zb (ze 0) zC))))) [Cell.no,Cell.val (.lst (jy bs))] (zB (m+1) λi=>(i:Int))=some (qe m bs):=by
  unfold qe;rw [jg,jg];refine zw _ _ λr hr=>zx rfl rfl ?_;simp [xY,xi a0]
 have e1:(z5 3 (jq (zE (zR (zq jx (QO (ze 1)) (zk (.int 1)))) (.nm 0) 1 [2] zV (qw (zX (zY F_law_with_k28 (zb (ze 1) (zb (ze 0) zC)))))))) (je 10 [.int p,.str (Qz m w),.lst (jy bs)])=some (.next [.val (.int p),.val (.str (Qz m w)),.val (.lst (jy bs)),.val (.lst (qe m bs)),.no,.no,.no,.no,.no,.no]):=by
  rw [yX,Zq,qr,xx,show je 10 [D.int p,.str (Qz m w),.lst (jy bs)]=[.val (.int p),.val (.str (Qz m w)),.val (.lst (jy bs)),.no,.no,.no,.no,.no,.no,.no]from rfl];simp only [kj,zds,qi,xz,zin,zio,zQ,zij,I,if_true,Xt,zbc,qc];rw [show((m:Int)+1)=((m+1:Nat):Int)by omega];simp only [yC z,if_true,zjK,zij,jI,vi,z];rw [show zT 1 [2] [Cell.val (D.int p),Cell.val (D.str (Qz m w)),Cell.val (D.lst (jy bs)),Cell.no,Cell.no,Cell.no,Cell.no,Cell.no,Cell.no,Cell.no]=[Cell.no,Cell.val (.lst (jy bs))]from rfl,k1];rfl
 have key : ∀(k s:Nat) (c5 c6 c7 c8 c9:Cell),s+k=m->∃a2 a3 a4 a5 a6,qh (.tp [5,6]) Vw ((zkw s k).map λ(k:Nat)=>D.tup [.int k,.str (qY (wch (w k)))]) (lc p m w bs ((zie s).map (Ko w bs)) c5 c6 c7 c8 c9)=some (.next (lc p m w bs ((zie m).map (Ko w bs)) a2 a3 a4 a5 a6)):=by
  intro k
  induction k with
  | zero=>
   intro s c5 c6 c7 c8 c9 h;obtain rfl:s=m:=by omega
   exact⟨c5,c6,c7,c8,c9,rfl⟩
  | succ k ih=>
   intro s c5 c6 c7 c8 c9 h;obtain⟨O,S,U,e⟩:=Vv (p:=p) (w:=w) hm Z (show s<m by omega) ((zie s).map (Ko w bs)) (by simp;omega) c7 c8 c9;obtain⟨a8,a9,aa,ab,ac,Y⟩:=ih (s+1) (.val (.int s)) (.val (.str (qY (wch (w s))))) O S U ⋯;refine⟨a8,a9,aa,ab,ac,?_⟩;rw [zjY,ziK,jQ];show((Vw (lc p m w bs _ (.val (.int s)) (.val (.str (qY (wch (w s))))) c7 c8 c9)).bind _)=_;rw [e];rw [zjE,zjf,zlS]at Y;exact Y
 obtain⟨d5,d6,O,S,U,e⟩:=key m 0 .no .no .no .no .no ⋯;rw [<- zjT]at e;have hz:jF (Qz m w)=true:=I;rw [v0];unfold jC;rw [jb,e1];show(zJ _ _ _).bind _=_;rw [jb];show(zJ _ _ (lc p m w bs [] .no .no .no .no .no)).bind _=_;rw [jb,Qv,zbl];simp only [lc,qi,zin,zio,zQ,zij,hz,if_true,VY];simp only [lc,List.range_zero,zlu]at e;rw [e];simp [BR];rfl
end
section
variable{p:Int}{m:Nat}{w:Nat->Bool}{bs:List (Int×Int)}
def zdB(b:List Nat)(x:Nat):D:=D.tup (b.map λy=>D.int (if x=y then 1 else 0))
theorem XC(e b:List Nat):zb2 e b = .tup [.int e.length,.int b.length,.tup (e.map (zdB b))]:=rfl
theorem Wa(b x):deep (zdB b x)<=1:=by
 have:deeps (b.map λy=>D.int (if x=y then 1 else 0))<=0:=qE λd hd=>by
  obtain⟨y,_,rfl⟩:=ziB.mp hd;simp [deep]
 unfold zdB;simp only [deep];omega
theorem V9(e b):deep (zb2 e b)<=3:=by
 have:deeps (e.map (zdB b))<=1:=qE λd hd=>by
  obtain⟨y,_,rfl⟩:=ziB.mp hd;exact Wa b y
 rw [XC];simp only [deep,deeps];omega
theorem zaH(b x):okS (zdB b x)=true:=by
 unfold zdB;simp only [okS];exact xH λd hd=>by
  obtain⟨y,_,rfl⟩:=ziB.mp hd;simp [okS]
theorem zaG(e b):okS (zb2 e b)=true:=by
 rw [XC];simp only [okS,okSs,zkX,zlm];exact xH λd hd=>by
  obtain⟨y,_,rfl⟩:=ziB.mp hd;exact zaH b y
theorem zeO:okD (BR p m w bs)=true:=by
 refine Zb (n:=6) ?_ ⋯ ?_
 ·have h1:deeps (qe m bs)<=0:=qE λd hd=>by
   unfold qe zB at hd;obtain⟨y,_,rfl⟩:=ziB.mp hd;simp [deep]
  have h2:deeps (kM m w bs)<=4:=qE λd hd=>by
   unfold kM at hd;obtain⟨k,_,rfl⟩:=ziB.mp hd;have:=V9 (jz bs (endR w k)) (jz bs (begR w k));simp only [deep,deeps];omega
  unfold BR;simp only [deep,deeps];omega
 ·have h1:okSs (qe m bs)=true:=xH λd hd=>by
   unfold qe zB at hd;obtain⟨y,_,rfl⟩:=ziB.mp hd;simp [okS]
  have h2:okSs (kM m w bs)=true:=xH λd hd=>by
   unfold kM at hd;obtain⟨k,_,rfl⟩:=ziB.mp hd;have O:=zaG (jz bs (endR w k)) (jz bs (begR w k));have z:=Vj (w k);simp only [okD,Bool.and_eq_true]at z;simp only [okS,okSs,zlm,Bool.and_eq_true];have I:=z.2;simp only [okS]at I;exact⟨I,O⟩
  unfold BR;simp [okS,okSs,h1,h2]
end
end DL
namespace DL
open PySem L2 PySem.W PyProof.Rows
def le2(x y:Int×Int):Prop:=kG y x=false
theorem k5(x):le2 x x:=by unfold le2 kG;simp
theorem ZT{x y:Int×Int}:le2 x y↔x.1<y.1\/(x.1=y.1/\x.2<=y.2):=by
 unfold le2 kG;by_cases h:y.1=x.1
 ·rw [if_pos h,decide_eq_false_iff_not];omega
 ·rw [if_neg h,decide_eq_false_iff_not];omega
theorem Vt{x y:Int×Int}:kG x y=true↔x.1<y.1\/(x.1=y.1/\x.2<y.2):=by
 unfold kG;by_cases h:x.1=y.1
 ·rw [if_pos h,decide_eq_true_iff];omega
 ·rw [if_neg h,decide_eq_true_iff];omega
theorem kZ{x y z:Int×Int}(a:le2 x y)(b:le2 y z):le2 x z:=by rw [ZT]at *;omega
theorem k6{x y:Int×Int}(a:kG x y=true):le2 x y:=by rw [Vt]at a;rw [ZT];omega
theorem zeV{x y z:Int×Int}(a:kG x y=true)(b:le2 y z):kG x z=true:=by rw [Vt]at *;rw [ZT]at b;omega
theorem ZU{x y:Int×Int}(a:le2 x y)(b:le2 y x):x=y:=by
 rw [ZT]at *;obtain⟨x1,z⟩:=x;obtain⟨I,O⟩:=y;simp only [Prod.mk.injEq]at *;omega
section
variable(key:Nat->Int×Int)
def vA(p:Array Nat)(i:Nat):Int×Int:=key (p.getD i 0)
def ltK(i j:Nat):Bool:=kG (key i) (key j)
def Srt(p:Array Nat)(n:Nat):Prop:=∀i j,i<=j->j<n->le2 (vA key p i) (vA key p j)
def Dec(p:Array Nat)(n:Nat):Prop:=∀i j,i<=j->j<n->le2 (vA key p j) (vA key p i)
variable{key}
theorem xn{α β:Type}{lt:Nat->Nat->Bool}(f:α->KasT β) : ∀t:KasT α,qO lt (t.bind f)=qO lt (f (qO lt t))
 | .ret a=>rfl
 | .ask i j k=>xn f (k (lt i j))
theorem xD(p:Array Nat)(i j):(kas_rev p i j).size=p.size:=mirror_size _ _ _ _
theorem zgb(p:Array Nat)(i:Nat):vA key p i=key (p[i]?.getD 0):=by unfold vA;rw [zki]
theorem Yv{p:Array Nat}{i j:Nat}(z:j<=p.size)(k:Nat):vA key (kas_rev p i j) k=if i<=k/\k<j then vA key p (i+j - 1 - k)else vA key p k:=by
 have:=getElem?_mirror_all (xs:=p) (i:=i) z k;unfold vA kas_rev;rw [zki,this];split<;>rw [zki]
theorem vy{p:Array Nat}{i j:Nat}(I:j<=p.size)(z : ∀k,i<=k->k<j->vA key p k=vA key p (j - 1))(k:Nat):vA key (kas_rev p i j) k=vA key p k:=by
 rw [Yv I];split
 ·rename_i h
  rw [z _ ⋯ ⋯,z k h.1 h.2]
 ·rfl
theorem zbv{p:Array Nat}{k l:Nat}(z:k<p.size)(I:l<=k)(i:Nat):vA key (bubble p k (k - l)) i=if i=l then vA key p k else if l<i/\i<=k then vA key p (i - 1)else vA key p i:=by
 have:=getElem?_bubble (xs:=p) z (k - l) ⋯ i;rw [show k - (k - l)=l by omega]at this;simp only [zgb];rw [this];split
 ·rfl
 ·split<;>rfl
theorem WX{p:Array Nat}{n:Nat}(hn:1<=n)(z:Srt key p n)(h:le2 (vA key p (n - 1)) (vA key p n)):Srt key p (n+1):=λi j I S=>by
 by_cases e:j=n
 ·subst e
  by_cases O:i=j
  ·subst O;exact k5 _
  ·exact kZ (z i (j - 1) ⋯ ⋯) h
 ·exact z i j I ⋯
theorem vk{p:Array Nat}{n:Nat}(hn:1<=n)(z:Dec key p n)(h:le2 (vA key p n) (vA key p (n - 1))):Dec key p (n+1):=λi j I S=>by
 by_cases e:j=n
 ·subst e
  by_cases O:i=j
  ·subst O;exact k5 _
  ·exact kZ h (z i (j - 1) ⋯ ⋯)
 ·exact z i j I ⋯
theorem Wr(p:Array Nat) : ∀(f n:Nat),1<=n->Srt key p n->n<=qO (ltK key) (kas_asc p f n)/\qO (ltK key) (kas_asc p f n)<=n+f/\Srt key p (qO (ltK key) (kas_asc p f n))/\(qO (ltK key) (kas_asc p f n)=n+f\/kG (vA key p (qO (ltK key) (kas_asc p f n))) (vA key p (qO (ltK key) (kas_asc p f n) - 1))=true)
 | 0,n,hn,hs=>⟨zim _,zim _,hs,.inl rfl⟩
 | f+1,n,hn,hs=>by
  have e:qO (ltK key) (kas_asc p (f+1) n)=qO (ltK key) (if kG (vA key p n) (vA key p (n - 1))=true then .ret n else kas_asc p f (n+1)):=rfl;rw [e];by_cases c:kG (vA key p n) (vA key p (n - 1))=true
  ·rw [if_pos c]
   exact⟨zim _,by show n<=n+(f+1);omega,hs,.inr c⟩
  ·rw [if_neg c]
   obtain⟨O,S,z,I⟩:=Wr p f (n+1) ⋯ (WX hn hs (by unfold le2;simpa using c));exact⟨by omega,by omega,z,I.imp (λh=>by omega) id⟩
def Blk(key:Nat->Int×Int)(p:Array Nat)(n q:Nat):Prop:=q+1<=n/\∀i,n - (q+1)<=i->i<n->vA key p i=vA key p (n - 1)
theorem Xj(p:Array Nat){n:Nat}(hn:1<=n):Blk key p n 0:=⟨hn,λi h1 h2=>by rw [show i=n - 1 by omega]⟩
theorem Z4 : ∀(f:Nat) (p:Array Nat) (n q:Nat),Dec key p n->Blk key p n q->n+f<=p.size->
 ∃p' n' z,qO (ltK key) (kas_desc f p n q)=(p',n',z)/\p'.size=p.size/\n<=n'/\n'<=n+f/\Dec key p' n'/\Blk key p' n' z
 | 0,p,n,q,hd,hb,_=>⟨p,n,q,rfl,rfl,zim _,zim _,hd,hb⟩
 | f+1,p,n,q,hd,hb,hs=>by
  have hn:1<=n:=by have:=hb.1;omega
  have e:qO (ltK key) (kas_desc (f+1) p n q)=qO (ltK key) (if kG (vA key p n) (vA key p (n - 1))=true then (if q>0 then kas_desc f (kas_rev p (n - (q+1)) n) (n+1) 0 else kas_desc f p (n+1) 0)
   else .ask (p.getD (n - 1) 0) (p.getD n 0) λd=>if d=true then .ret (p,n,q)else kas_desc f p (n+1) (q+1)):=rfl
  rw [e];by_cases c:kG (vA key p n) (vA key p (n - 1))=true
  ·rw [if_pos c]
   by_cases U:q>0
   ·rw [if_pos U]
    have Y:=vy (key:=key) (p:=p) (i:=n - (q+1)) (j:=n) ⋯ hb.2;have a1:Dec key (kas_rev p (n - (q+1)) n) (n+1):=λi j a2 hj=>by rw [Y,Y];exact vk hn hd (k6 c) i j a2 hj
    obtain⟨p',n',z,e1,I,Z,e4,O,S⟩:=Z4 f (kas_rev p (n - (q+1)) n) (n+1) 0 a1 (Xj _ ⋯) (by rw [xD];omega);exact⟨p',n',z,e1,by rw [I,xD],by omega,by omega,O,S⟩
   ·rw [if_neg U]
    obtain⟨p',n',z,e1,I,Z,e4,O,S⟩:=Z4 f p (n+1) 0 (vk hn hd (k6 c)) (Xj _ ⋯) ⋯;exact⟨p',n',z,e1,I,by omega,by omega,O,S⟩
  ·rw [if_neg c]
   have e':qO (ltK key) (.ask (p.getD (n - 1) 0) (p.getD n 0) λd=>if d=true then .ret (p,n,q)else kas_desc f p (n+1) (q+1))=qO (ltK key) (if kG (vA key p (n - 1)) (vA key p n)=true then .ret (p,n,q)else kas_desc f p (n+1) (q+1)):=rfl;rw [e'];by_cases d:kG (vA key p (n - 1)) (vA key p n)=true
   ·rw [if_pos d]
    exact⟨p,n,q,rfl,rfl,zim _,by omega,hd,hb⟩
   ·rw [if_neg d]
    have l1:le2 (vA key p (n - 1)) (vA key p n):=by unfold le2;simpa using c
    have l2:le2 (vA key p n) (vA key p (n - 1)):=by unfold le2;simpa using d
    have eq:=ZU l1 l2;have a6:Blk key p (n+1) (q+1):=⟨by have:=hb.1;omega,λi h1 h2=>by
     rw [Nat.add_sub_cancel];by_cases hi:i=n
     ·rw [hi]
     ·rw [hb.2 i ⋯ ⋯,eq]⟩
    obtain⟨p',n',z,e1,I,Z,e4,O,S⟩:=Z4 f p (n+1) (q+1) (vk hn hd l2) a6 ⋯;exact⟨p',n',z,e1,I,by omega,by omega,O,S⟩
def WE(key:Nat->Int×Int)(size nrem:Nat)(r:Nat×Array Nat):Prop:=1<=r.1/\r.1<=nrem/\r.2.size=size/\Srt key r.2 r.1
theorem XB{p:Array Nat}{n nrem:Nat}(hn:1<=n)(O:n<=nrem)(S:nrem<=p.size)(hd:Dec key p n):WE key p.size nrem (qO (ltK key) (kas_tail3 n nrem p)):=by
 have z:Srt key (kas_rev p 0 n) n:=λi j U Y=>by
  rw [Yv ⋯,Yv ⋯,if_pos ⟨by omega,by omega⟩,if_pos ⟨by omega,by omega⟩];exact hd _ _ ⋯ ⋯
 obtain⟨Z,a2,I,_⟩:=Wr (kas_rev p 0 n) (nrem - n) n hn z;unfold kas_tail3;rw [xn];exact⟨by show 1<=qO _ _;omega,by show qO _ _<=nrem;omega,xD _ _ _,I⟩
theorem Vh{p:Array Nat}{n nrem:Nat}(hn:1<=n)(hr:n<nrem)(hs:nrem<=p.size)(O : ∀i,i<n->vA key p i=vA key p (n - 1))(a0:kG (vA key p n) (vA key p (n - 1))=true):WE key p.size nrem (qO (ltK key) (kas_descPart n nrem p)):=by
 have hd:Dec key p n:=λi j S I=>by rw [O i ⋯,O j I];exact k5 _
 obtain⟨p',n',z,e1,U,e3,e4,Y,e6⟩:=Z4 (nrem - (n+1)) p (n+1) 0 (vk hn hd (k6 a0)) (Xj _ ⋯) ⋯;unfold kas_descPart;rw [xn,e1];show WE key p.size nrem (qO (ltK key) (if z>0 then kas_tail3 n' nrem (kas_rev p' (n' - (z+1)) n')else kas_tail3 n' nrem p'));split
 ·have Z:=vy (key:=key) (p:=p') (i:=n' - (z+1)) (j:=n') ⋯ e6.2
  have:=XB (p:=kas_rev p' (n' - (z+1)) n') (n:=n') (nrem:=nrem) ⋯ ⋯ (by rw [xD];omega) (λi j S I=>by rw [Z,Z];exact Y i j S I);rw [xD,U]at this;exact this
 ·have:=XB (p:=p') (n:=n') (nrem:=nrem) ⋯ ⋯ ⋯ Y
  rw [U]at this;exact this
theorem zbd{p:Array Nat}{nrem:Nat}(hn:1<=nrem)(Z:nrem<=p.size):WE key p.size nrem (qO (ltK key) (kas_count nrem p)):=by
 have h1:Srt key p 1:=λi j a6 hj=>by rw [show i=j by omega];exact k5 _
 obtain⟨z,a2,I,S⟩:=Wr p (nrem - 1) 1 (zim _) h1;unfold kas_count;rw [xn];generalize qO (ltK key) (kas_asc p (nrem - 1) 1)=n at z a2 I S;show WE key p.size nrem (qO (ltK key) (if (n==nrem)=true then .ret (n,p)else if n>1 then .ask (p.getD 0 0) (p.getD (n - 1) 0) λc=>if c=true then .ret (n,p)else kas_descPart n nrem (kas_rev p 0 n)else kas_descPart n nrem p));split
 ·rename_i h
  have:=eq_of_beq h;exact⟨z,by show n<=nrem;omega,rfl,I⟩
 ·rename_i h
  have a8:n≠nrem:=λe=>h (by rw [e];exact beq_self_eq_true _);have U:kG (vA key p n) (vA key p (n - 1))=true:=S.resolve_left ⋯;split
  ·have e:qO (ltK key) (.ask (p.getD 0 0) (p.getD (n - 1) 0) λc=>if c=true then .ret (n,p)else kas_descPart n nrem (kas_rev p 0 n))=qO (ltK key) (if kG (vA key p 0) (vA key p (n - 1))=true then .ret (n,p)else kas_descPart n nrem (kas_rev p 0 n)):=rfl
   rw [e];split
   ·exact⟨z,by show n<=nrem;omega,rfl,I⟩
   ·rename_i c
    have l:le2 (vA key p (n - 1)) (vA key p 0):=by unfold le2;simpa using c
    have Y : ∀i,i<n->vA key p i=vA key p (n - 1):=λi hi=>ZU (I i (n - 1) ⋯ ⋯) (kZ l (I 0 i ⋯ hi));have O:=vy (key:=key) (p:=p) (i:=0) (j:=n) ⋯ (λk _ hk=>Y k hk);have:=Vh (key:=key) (p:=kas_rev p 0 n) (n:=n) (nrem:=nrem) z ⋯ (by rw [xD];omega) (λi hi=>by rw [O,O];exact Y i hi) (by rw [O,O];exact U);rw [xD]at this;exact this
  ·exact Vh z ⋯ Z (λi hi=>by rw [show i=n - 1 by omega]) U
theorem ZO{p:Array Nat}{k:Nat}(I:Srt key p k) : ∀(f l r:Nat),l<=r->r<=k->r - l<=f->(∀i,i<l->le2 (vA key p i) (vA key p k))->(∀i,r<=i->i<k->kG (vA key p k) (vA key p i)=true)->
 qO (ltK key) (kas_place p k f l r)<=k/\(∀i,i<qO (ltK key) (kas_place p k f l r)->le2 (vA key p i) (vA key p k))/\∀i,qO (ltK key) (kas_place p k f l r)<=i->i<k->kG (vA key p k) (vA key p i)=true
 | 0,l,r,h1,h2,h3,h4,h5=>⟨by show l<=k;omega,h4,λi hi z=>h5 i (by have:l<=i:=hi;omega) z⟩
 | f+1,l,r,h1,h2,h3,h4,h5=>by
  have e:qO (ltK key) (kas_place p k (f+1) l r)=qO (ltK key) (if l>=r then .ret l else .ask (p.getD k 0) (p.getD ((l+r)/2) 0) λc=>if c=true then kas_place p k f l ((l+r)/2)else kas_place p k f ((l+r)/2+1) r):=rfl;rw [e];by_cases O:l>=r
  ·rw [if_pos O]
   exact⟨by show l<=k;omega,h4,λi hi z=>h5 i (by have:l<=i:=hi;omega) z⟩
  ·rw [if_neg O]
   have S:qO (ltK key) (.ask (p.getD k 0) (p.getD ((l+r)/2) 0) λc=>if c=true then kas_place p k f l ((l+r)/2)else kas_place p k f ((l+r)/2+1) r)=qO (ltK key) (if kG (vA key p k) (vA key p ((l+r)/2))=true then kas_place p k f l ((l+r)/2)else kas_place p k f ((l+r)/2+1) r):=rfl;rw [S];by_cases c:kG (vA key p k) (vA key p ((l+r)/2))=true
   ·rw [if_pos c]
    exact ZO I f l ((l+r)/2) ⋯ ⋯ ⋯ h4 λi hi z=>zeV c (I _ _ hi z)
   ·rw [if_neg c]
    have l1:le2 (vA key p ((l+r)/2)) (vA key p k):=by unfold le2;simpa using c
    exact ZO I f ((l+r)/2+1) r ⋯ h2 ⋯ (λi hi=>kZ (I i ((l+r)/2) ⋯ ⋯) l1) h5
theorem zeh{p:Array Nat}{k l:Nat}(O:k<p.size)(S:l<=k)(I:Srt key p k)(h1 : ∀i,i<l->le2 (vA key p i) (vA key p k))(h2 : ∀i,l<=i->i<k->kG (vA key p k) (vA key p i)=true):Srt key (bubble p k (k - l)) (k+1):=λi j Z hj=>by
 rw [zbv O S,zbv O S];by_cases hi:i=l
 ·subst hi
  rw [if_pos rfl];by_cases z:j=i
  ·rw [if_pos z];exact k5 _
  ·rw [if_neg z,if_pos ⟨by omega,by omega⟩]
   exact k6 (h2 _ ⋯ ⋯)
 ·rw [if_neg hi]
  by_cases U:l<i/\i<=k
  ·rw [if_pos U,if_neg (show ¬j=l by omega),if_pos ⟨by omega,by omega⟩]
   exact I _ _ ⋯ ⋯
  ·rw [if_neg U]
   by_cases z:j=l
   ·rw [if_pos z];exact h1 i ⋯
   ·rw [if_neg z]
    by_cases Y:l<j/\j<=k
    ·rw [if_pos Y];exact I _ _ ⋯ ⋯
    ·rw [if_neg Y];exact I _ _ Z ⋯
theorem zbT : ∀(f:Nat) (p:Array Nat) (k n:Nat),k+f=n->p.size=n->Srt key p k->Srt key (qO (ltK key) (kas_bin f p k)) n/\(qO (ltK key) (kas_bin f p k)).size=n
 | 0,p,k,n,h1,h2,hs=>by
  obtain rfl:k=n:=by omega
  exact⟨hs,h2⟩
 | f+1,p,k,n,h1,h2,hs=>by
  obtain⟨z,I,O⟩:=ZO hs k 0 k ⋯ (zim _) ⋯ (λi hi=>by omega) (λi S U=>by omega);unfold kas_bin;rw [xn];exact zbT f _ (k+1) n ⋯ (by rw [bubble_size];exact h2) (zeh ⋯ z hs I O)
theorem zb9{n:Nat}(hn:1<=n):Srt key (qO (ltK key) (kas_sort n)) n/\(qO (ltK key) (kas_sort n)).size=n:=by
 have hsz:(zkj (zie n)).size=n:=by simp
 obtain⟨I,O,S,z⟩:=zbd (key:=key) (p:=zkj (zie n)) (nrem:=n) hn ⋯;unfold kas_sort;rw [xn];generalize qO (ltK key) (kas_count n (zkj (zie n)))=r at I O S z;show Srt key (qO (ltK key) (if r.1<n then kas_bin (n - max r.1 1) r.2 (max r.1 1)else .ret r.2)) n/\(qO (ltK key) (if r.1<n then kas_bin (n - max r.1 1) r.2 (max r.1 1)else .ret r.2)).size=n;rw [show max r.1 1=r.1 by omega];split
 ·exact zbT (n - r.1) r.2 r.1 n ⋯ ⋯ z
 ·have:r.1=n:=by omega
  rw [this]at z;exact⟨z,by show r.2.size=n;omega⟩
end
theorem yN(bs:List (Int×Int)):(xB bs).Pairwise le2:=by
 unfold xB jO;by_cases h:bs.length<2
 ·rw [if_pos h]
  rcases bs with _ | ⟨a,_ | ⟨b,bs⟩⟩
  ·exact zkn.nil
  ·exact List.pairwise_singleton _ _
  ·simp only [ziQ]at h;omega
 ·rw [if_neg h]
  obtain⟨s1,s2⟩:=zb9 (key:=λi=>bs.getD i (0,0)) (n:=bs.length) ⋯;have e:(qO (λi j=>kG (bs.getD i (0,0)) (bs.getD j (0,0))) (kas_sort bs.length))=qO (ltK λi=>bs.getD i (0,0)) (kas_sort bs.length):=rfl;rw [e];generalize qO (ltK λi=>bs.getD i (0,0)) (kas_sort bs.length)=p at s1 s2;rw [zj0];intro i j hi z I;simp only [ziD,zjA]at hi z;have:=s1 i j ⋯ ⋯;unfold vA at this;simp only [zki,Array.getElem?_eq_getElem hi,Array.getElem?_eq_getElem z,Option.getD_some]at this;simpa using this
theorem vE : ∀{a b:List (Int×Int)},a.Perm b->a.Pairwise le2->b.Pairwise le2->a=b
 | [],b,h,_,_=>by rw [h.nil_eq]
 | x::a,[],h,_,_=>by have:=h.length_eq;simp at this
 | x::a,y::b,h,ha,hb=>by
  have hx:x∈y::b:=h.mem_iff.mp ziv;have I:y∈x::a:=h.mem_iff.mpr ziv;have e:x=y:=by
   rcases ziq.mp hx with e | e
   ·exact e
   ·rcases ziq.mp I with z | z
    ·exact z.symm
    ·exact ZU (List.rel_of_pairwise_cons ha z) (List.rel_of_pairwise_cons hb e)
  subst e;rw [vE (List.Perm.cons_inv h) ha.of_cons hb.of_cons]
theorem QH{a b:List (Int×Int)}(h:a.Perm b):xB a=xB b:=
 vE ((wW a).trans (h.trans (wW b).symm)) (yN a) (yN b)
end DL
namespace DL
open PySem L2
section
variable{p:Int}{m:Nat}{w:Nat->Bool}{bs:List (Int×Int)}
def VU(n:Int)(bs:List (Int×Int)):Bool:=bs.all (zfD n)
def kR(bs:List (Int×Int)):Bool:=decide (bs=xB bs)
theorem Zm(a b c d:Int):eqD (.tup [.int a,.int b]) (.tup [.int c,.int d])=(a==c && b==d):=by
 simp [eqD,eqDs,eqI]
theorem Qd : ∀a b:List (Int×Int),eqDs (jy a) (jy b)=decide (a=b)
 | [],[]=>rfl
 | [],_::_=>rfl
 | _::_,[]=>rfl
 | (x1,x2)::a,(y1,y2)::b=>by
  have z:=Qd a b;show(eqD (.tup [.int x1,.int x2]) (.tup [.int y1,.int y2]) && eqDs (jy a) (jy b))=_;rw [z,Zm];by_cases h1:x1=y1<;>by_cases h2:x2=y2<;>by_cases I:a=b<;>simp [h1,h2,I]
end
section
variable{p:Int}{m:Nat}{w:Nat->Bool}{wd:Nat->Nat}{f g T:Nat->Nat->Nat->Int}
theorem Vs{n:Nat}{a:Nat->Int}{x:Nat->Int}{i:Nat}(hi:i<n)(ha : ∀k,k<n->a k%p=dlt i k%p):zo (λk=>a k*x k) n%p=x i%p:=by
 rw [zU (g:=λk=>dlt i k*x k) λk z=>Vo (ha k z) rfl,z7 hi λk _ I=>by simp [dlt,zi6 I]];simp [dlt]
theorem Vr{n:Nat}{a:Nat->Int}{x:Nat->Int}{i:Nat}(hi:i<n)(ha : ∀k,k<n->a k%p=dlt k i%p):zo (λk=>x k*a k) n%p=x i%p:=by
 rw [zU (g:=λk=>x k*dlt k i) λk z=>Vo rfl (ha k z),z7 hi λk _ I=>by simp [dlt,I]];simp [dlt]
theorem YA(I : ∀k,k<m+1->Pair p (wd k) (f k) (g k)){k i j:Nat}(O:k<m)(hi:i<wd (endR w k))(S:j<wd (begR w k))(U:0<=T k i j/\T k i j<p):jT p w wd g f (jT p w wd f g T) k i j=T k i j:=by
 have Z:=I _ (Z0 w O);have pb:=I _ (Jb w O);have s1 : ∀a b,jT p w wd f g T k a b=zo (λc=>f (endR w k) a c*(zo (λd=>T k c d*g (begR w k) d b) (wd (begR w k))%p)) (wd (endR w k))%p:=λa b=>(QC k a b).symm;have s2 : ∀b,b<wd (begR w k)->zo (λa=>jT p w wd f g T k a b*g (endR w k) i a) (wd (endR w k))%p=zo (λd=>T k i d*g (begR w k) d b) (wd (begR w k))%p:=λb Y=>by
  rw [zK (g:=λa=>g (endR w k) i a*(zo (λc=>f (endR w k) a c*(zo (λd=>T k c d*g (begR w k) d b) (wd (begR w k))%p)) (wd (endR w k))%p)) λa _=>by rw [s1,zjN]];rw [vB p (g (endR w k)) (f (endR w k)) (λc b=>zo (λd=>T k c d*g (begR w k) d b) (wd (begR w k))%p) (wd (endR w k)) (wd (endR w k)) i b];rw [Vs (i:=i) hi λl z=>by rw [ziY];exact Z.gf i l hi z];rw [ziY]
 show zo (λb=>f (begR w k) b j*(zo (λa=>jT p w wd f g T k a b*g (endR w k) i a) (wd (endR w k))%p)) (wd (begR w k))%p=_;rw [zK (g:=λb=>(zo (λd=>T k i d*g (begR w k) d b) (wd (begR w k))%p)*f (begR w k) b j) λb Y=>by rw [s2 b Y,zjN]];rw [<- vB p (T k) (g (begR w k)) (f (begR w k)) (wd (begR w k)) (wd (begR w k)) i j];rw [Vr (i:=j) S λl z=>by rw [ziY];exact pb.gf l j z S];exact zjn U.1 U.2
end
def zfM:CO Fl:=(z5 3 (jq (zE (zR (sIx (zf 2) (zk (.int 1)))) (.nm 0) 1 [2] zV (jq (zE (zD (zH (sIx (zf 1) (zk (.int 2))))) (.nm 0) 1 [0] zV (sIx (zf 0) (ze 1)))))))
def zht:CO Fl:=(xS 4 (qF zC))
def zhs:CO Fl:=(xT (zD (zH (sIx (zf 1) (zk (.int 2))))) (.nm 5) (jY 4 (zF (zX (zE (zD (zf 3)) (.nm 0) 1 [0,5] zV (zq jW (zbz (zX (zE (Jh (ze 2) (ze 0)) (.tp [0,1]) 2 [] zV (zq qH (ze 0) (ze 1))))) (ze 1)))))))
def zgA:CO Fl:=(jK (qj (zb (sIx (zf 1) (zk (.int 0))) (zb (sIx (zf 2) (zk (.int 1))) (zb (zF (zf 4)) zC)))))
theorem zcW:F_law_times_32=jC 6 (zJ zfM (zJ zht (zJ zhs zgA))):=rfl
def zhv:CO Fl:=(sIf (qX (jc (sB (sIs .tuple (ze 1)))) (qX (sB (zq dNe (qw (zf 1)) (zk (.int 3)))) (qX (jc (sB (zA F_law_whole (zb (sIx (zf 1) (zk (.int 0))) zC)))) (jc (sB (zA F_law_whole (zb (sIx (zf 1) (zk (.int 1))) zC))))))) (jK (zk (.bl false))) jh)
def zeW:CO Fl:=(sIf (qX (sB (zq dNe (KI (ze 1) KK (sBd (zk (.int 2)))) (qj (zb (ze 2) (zb (ze 3) zC))))) (qX (jc (sB (sIs .tuple (sIx (zf 1) (zk (.int 2)))))) (sB (zq dNe (qw (zH (sIx (zf 1) (zk (.int 2))))) (ze 2))))) (jK (zk (.bl false))) jh)
def zhu:CO Fl:=(xT (zD (zH (sIx (zf 1) (zk (.int 2))))) (.nm 4) (zJ (sIf (qX (jc (sB (sIs .tuple (ze 4)))) (sB (zq dNe (qw (zf 4)) (ze 3)))) (jK (zk (.bl false))) jh) (sIf (jc (sB (WH (zX (zE (zD (zf 4)) (.nm 0) 1 [0] zV (YU (zA F_law_whole (zb (ze 0) zC)) (xP dLe dLt (zk (.int 0)) (ze 0) (ze 1)))))))) (jK (zk (.bl false))) jh)))
def zh2:CO Fl:=(jK (zk (.bl true)))
theorem zcX:F_law_is_table_32=jC 5 (zJ zhv (zJ zeW (zJ zhu zh2))):=rfl
def zhr:CO Fl:=(JB (.tp [3,4,5]) (ze 0))
def zhq:CO Fl:=(xS 6 (qF zC))
def zhp:CO Fl:=(xT (wG (ze 5)) (.tp [7,8]) (zJ (z5 9 (zq jx (ze 7) (qJ (zq dEq (sIx (zf 8) (zk (.int 0))) (zk (.str "l")))))) (zJ (z5 10 (zq jx (ze 7) (qJ (zq dEq (sIx (zf 8) (zk (.int 0))) (zk (.str "r")))))) (jY 6 (qj (zb (sIx (zf 8) (zk (.int 0))) (zb (zA F_law_times_32 (zb (ze 3) (zb (zA F_law_times_32 (zb (ze 3) (zb (sIx (zf 1) (ze 10)) (zb (sIx (zf 8) (zk (.int 1))) zC)))) (zb (sIx (zf 2) (ze 9)) zC)))) zC)))))))
def zgz:CO Fl:=(jK (qj (zb (ze 3) (zb (ze 4) (zb (zF (zf 6)) zC)))))
theorem zcV:F_law_in_turns_32=jC 11 (zJ zhr (zJ zhq (zJ zhp zgz))):=rfl
def ltB:CO Fl:=(jY 4 (zF (zX (zE (zD (zf 3)) (.nm 0) 1 [0,5] zV (zq jW (zbz (zX (zE (Jh (ze 2) (ze 0)) (.tp [0,1]) 2 [] zV (zq qH (ze 0) (ze 1))))) (ze 1))))))
theorem QD{p:Int}{h m w:Nat}(f g:Nat->Nat->Int)(Y:0<p)(hh:h<=400)(hm:m<=400)(hw:w<=400)(hg : ∀i j,i<m->j<w->0<=g i j/\g i j<100) :
 F_law_times_32 [.int p,jf h m f,jf m w g]=some (.val (jf h w λi j=>zo (λk=>f i k*g k j) m%p)):=by
 have hl:=jD;have l1:h<=lim:=by omega
 have l2:m<=lim:=by omega
 have l3:w<=lim:=by omega
 have Z:=QF h m f;have S:=QF m w g;have i0:ixD 3 0=some 0:=rfl;have i1:ixD 3 1=some 1:=rfl;have i2:ixD 3 2=some 2:=rfl;have k1 : ∀j:Nat,j<w->zO (.nm 0) zV (sIx (zf 0) (ze 1)) [Cell.no,Cell.val (.int (j:Int))] (zS m w g)=some (zB m λk=>g k j):=λj I=>by
  rw [jg];unfold zS;refine zw _ _ λi hi=>zx rfl rfl ?_;show sIx _ _ [Cell.val (.tup (zB w (g i))),Cell.val (.int (j:Int))]=_;have e:(zB w (g i))[j]? = some (.int (g i j)):=by unfold zB;simp [I]
  have el:(zB w (g i)).length=w:=by simp [zB]
  simp only [yI,j5,qi,zin,zio,z6,zQ,jS,zij,qc,el,qL,I,if_true,e]
 have k2:zO (.nm 0) zV (jq (zE (zD (zH (sIx (zf 1) (zk (.int 2))))) (.nm 0) 1 [0] zV (sIx (zf 0) (ze 1)))) [Cell.no,Cell.val (jf m w g)] (zB w λi=>(i:Int))=some (Ji w m λj k=>g k j):=by
  rw [jg w λi=>(i:Int)];unfold Ji;refine zw _ _ λj I=>zx rfl rfl ?_;have I:=zig.mp I;have dl:(zS m w g).length<=lim:=by rw [yF];exact l2
  show jq _ [Cell.val (.int (j:Int)),Cell.val (jf m w g)]=_;simp only [Zq,qr,qQ,vw,yI,j5,xz,zin,zio,ziQ,zjd,zi1,zjL,z6,zij,ziC,S,qc,i2,jS,dl,if_true];rw [show zT 1 [0] [Cell.val (.int (j:Int)),Cell.val (jf m w g)]=[Cell.no,Cell.val (.int (j:Int))]from rfl,k1 j I];rfl
 have s1:zfM (je 6 [.int p,jf h m f,jf m w g])=some (.next [.val (.int p),.val (jf h m f),.val (jf m w g),.val (.lst (Ji w m λj k=>g k j)),.no,.no]):=by
  have a5:inR (w:Int)=true:=Zk ⋯ ⋯;have dl:(zB w λi=>(i:Int)).length<=lim:=by simp [zB];exact l3
  show zfM [.val (.int p),.val (jf h m f),.val (jf m w g),.no,.no,.no]=_;unfold zfM;simp only [yX,Zq,qr,xx,yI,j5,xz,zin,zio,ziQ,zjd,zi1,zjL,z6,zij,ziC,S,qc,i1,a5,if_true,zjK,jI,dl];rw [show zT 1 [2] [.val (.int p),.val (jf h m f),.val (jf m w g),.no,.no,.no]=[Cell.no,Cell.val (jf m w g)]from rfl,k2];rfl
 have s2:zht [.val (.int p),.val (jf h m f),.val (jf m w g),.val (.lst (Ji w m λj k=>g k j)),.no,.no]=some (.next [.val (.int p),.val (jf h m f),.val (jf m w g),.val (.lst (Ji w m λj k=>g k j)),.own [],.no]):=rfl;have k3 : ∀i:Nat,zO (.nm 0) zV (zq jW (zbz (zX (zE (Jh (ze 2) (ze 0)) (.tp [0,1]) 2 [] zV (zq qH (ze 0) (ze 1))))) (ze 1)) [Cell.no,Cell.val (.int p),Cell.val (.tup (zB m (f i)))] (Ji w m λj k=>g k j)=some (zB w λj=>zo (λk=>f i k*g k j) m%p):=λi=>by
  rw [jg w];unfold Ji;refine zw _ _ λj I=>zx rfl rfl ?_;have I:=zig.mp I;have z:=kO m (f i) λk=>g k j;have k4:zO (.tp [0,1]) zV (zq qH (ze 0) (ze 1)) [Cell.no,Cell.no] ((zie m).map λk=>D.tup [.int (f i k),.int (g k j)])=some (zB m λk=>f i k*g k j):=by
   rw [jg m λk=>f i k*g k j];refine zw _ _ λk U=>zx rfl rfl ?_;have U:=zig.mp U;have b:=hg k j U I;have c:wB (f i k) (g k j)=true:=yV _ _ ⋯ ⋯;show zq _ _ _ [Cell.val (.int (f i k)),Cell.val (.int (g k j))]=_;simp [c]
  have zl:((zie m).map λk=>D.tup [.int (f i k),.int (g k j)]).length<=lim:=by simpa using l2
  have sm:=vC (λk=>f i k*g k j) m;have ah:zfk 0 p=true:=decide_eq_true Y;show zq _ _ _ [Cell.val (.lst (zB m λk=>g k j)),Cell.val (.int p),Cell.val (.tup (zB m (f i)))]=_;simp only [kj,zfq,kN,qr,zfp,qi,zin,zio,zQ,zij,ziC,yi,jS,z,zl,if_true];rw [show zT 2 [] [Cell.val (.lst (zB m λk=>g k j)),Cell.val (.int p),Cell.val (.tup (zB m (f i)))]=[Cell.no,Cell.no]from rfl,k4];simp only [ziC,zij,sm];simp [Y]
 obtain⟨γ',q,⟨c5,rfl⟩⟩ : ∃γ',qh (.nm 5) ltB (zS h m f) [.val (.int p),.val (jf h m f),.val (jf m w g),.val (.lst (Ji w m λj k=>g k j)),.own [],.no]=some (.next γ')/\∃c5,γ'=[.val (.int p),.val (jf h m f),.val (jf m w g),.val (.lst (Ji w m λj k=>g k j)),.own (zS h w λi j=>zo (λk=>f i k*g k j) m%p),c5]:=by
  have key : ∀(k s:Nat) (c5:Cell),s+k=h->∃O,qh (.nm 5) ltB ((zkw s k).map λi=>D.tup (zB m (f i))) [.val (.int p),.val (jf h m f),.val (jf m w g),.val (.lst (Ji w m λj k=>g k j)),.own (zS s w λi j=>zo (λk=>f i k*g k j) m%p),c5]=some (.next [.val (.int p),.val (jf h m f),.val (jf m w g),.val (.lst (Ji w m λj k=>g k j)),.own (zS h w λi j=>zo (λk=>f i k*g k j) m%p),O]):=by
   intro k
   induction k with
   | zero=>
    intro s c5 e;obtain rfl:s=h:=by omega
    exact⟨c5,rfl⟩
   | succ k ih=>
    intro s c5 e;obtain⟨O,q⟩:=ih (s+1) (.val (.tup (zB m (f s)))) ⋯;refine⟨O,?_⟩;rw [<- q,zjY,ziK,jQ,Xe];have sl:s<lim:=by omega
    have ll:(Ji w m λj k=>g k j).length<=lim:=by rw [zaR];exact l3
    simp only [ky,zij,ltB,ww,qT,kN,qr,qQ,j5,zjw,zjv,zin,zio,xM,z6,yi,ziC,ll,if_true];rw [show zT 1 [0,5] [Cell.val (.int p),Cell.val (jf h m f),Cell.val (jf m w g),Cell.val (.lst (Ji w m λj k=>g k j)),Cell.own (zS s w λi j=>zo (λk=>f i k*g k j) m%p),Cell.val (.tup (zB m (f s)))]=[Cell.no,Cell.val (.int p),Cell.val (.tup (zB m (f s)))]from rfl,k3 s];simp only [ziC,zij,yF,sl,if_true]
  obtain⟨O,q⟩:=key h 0 .no ⋯;rw [<- zjT]at q;exact⟨_,q,O,rfl⟩
 have s3:zhs [.val (.int p),.val (jf h m f),.val (jf m w g),.val (.lst (Ji w m λj k=>g k j)),.own [],.no]=some (.next [.val (.int p),.val (jf h m f),.val (jf m w g),.val (.lst (Ji w m λj k=>g k j)),.own (zS h w λi j=>zo (λk=>f i k*g k j) m%p),c5]):=by
  show xT _ _ ltB _=_;rw [Qv];simp only [qQ,vw,yI,j5,xz,zin,zio,ziQ,zjd,zi1,zjL,z6,zij,ziC,Z,qc,i2,jS];exact q
 have s4:zgA [.val (.int p),.val (jf h m f),.val (jf m w g),.val (.lst (Ji w m λj k=>g k j)),.own (zS h w λi j=>zo (λk=>f i k*g k j) m%p),c5]=some (.ret (.val (jf h w λi j=>zo (λk=>f i k*g k j) m%p))):=by
  have ae:3<=lim:=by omega
  unfold zgA;simp only [Zp,yW,j6,xy,yI,j5,xz,qT,zin,zio,ziQ,zjd,zi1,zjL,z6,wr,zij,ziC,Z,S,qc,i0,i1,ae,if_true];rfl
 rw [zcW];exact jB (zu s1 (zu s2 (zu s3 s4)))
def rnd(n:Nat)(ks:List Nat)(u:Nat->Int):Nat->Int:=ks.foldl (λu k=>mv n k u) u
def itr(n:Nat)(ks:List Nat)(u:Nat->Int):Nat->Nat->Int
 | 0=>u
 | j+1=>rnd n ks (itr n ks u j)
def acc(n:Nat)(ks:List Nat)(u:Nat->Int):Nat->Nat->Int
 | 0=>λ_=>0
 | j+1=>λi=>acc n ks u j i+itr n ks u j i
theorem zaJ(n f):okD (.lst (zB n f))=true:=Zb (by
 have:=Z5 n f;simp only [deep]at this ⊢;exact this) ⋯ (by
 have:=QV n f;simp only [okS]at this ⊢;exact this)
theorem zdW{n:Nat}(hn:n<=400):F_law_same_32 [.int n]=some (.val (jf n n λi j=>if i=j then 1 else 0)):=by
 have S:=jD;have l1:n<=lim:=by omega
 have z:inR (n:Int)=true:=Zk ⋯ ⋯;have dl:(zB n λi=>(i:Int)).length<=lim:=by simp [zB];exact l1
 have I : ∀i:Nat,zO (.nm 0) zV (qJ (zq dEq (ze 1) (ze 0))) [Cell.no,Cell.val (.int (i:Int))] (zB n λi=>(i:Int))=some (zB n λj=>if i=j then 1 else 0):=λi=>by
  rw [jg n λi=>(i:Int),jg n λj=>if i=j then (1:Int)else 0];refine zw _ _ λj U=>zx rfl rfl ?_;show qJ _ [Cell.val (.int (j:Int)),Cell.val (.int (i:Int))]=_;by_cases h:i=j
  ·simp [h]
  ·have : ¬((i:Int)=(j:Int)):=by omega
   simp [h,this]
 have O:zO (.nm 0) zV (zF (zX (zE (zR (ze 1)) (.nm 0) 1 [0] zV (qJ (zq dEq (ze 1) (ze 0)))))) [Cell.no,Cell.val (.int (n:Int))] (zB n λi=>(i:Int))=some (zS n n λi j=>if i=j then 1 else 0):=by
  have e:=I;rw [jg n λi=>(i:Int)];unfold zS;refine zw _ _ λi hi=>zx rfl rfl ?_;show zF _ [Cell.val (.int (i:Int)),Cell.val (.int (n:Int))]=_;simp only [qT,kN,qr,xx,qi,zin,zio,zQ,zij,qc,z,if_true,zjK,jI,dl];rw [show zT 1 [0] [Cell.val (.int (i:Int)),Cell.val (.int (n:Int))]=[Cell.no,Cell.val (.int (i:Int))]from rfl,I i];rfl
 have l3:3<=lim:=by omega
 refine jB ?_;show jK _ [Cell.val (.int (n:Int))]=_;simp only [Zp,yW,j6,xy,qT,kN,qr,xx,qi,zin,ziQ,zjd,zi1,zjL,zQ,zij,ziC,qc,z,if_true,zjK,jI,dl];rw [show zT 1 [0] [Cell.val (.int (n:Int))]=[Cell.no,Cell.val (.int (n:Int))]from rfl,O];simp only [ziC,zij,l3,if_true];rfl
def liB:CO Fl:=(zJ (sIf (qX (jc (sB (sIs .tuple (ze 4)))) (sB (zq dNe (qw (zf 4)) (ze 3)))) (jK (zk (.bl false))) jh) (sIf (jc (sB (WH (zX (zE (zD (zf 4)) (.nm 0) 1 [0] zV (YU (zA F_law_whole (zb (ze 0) zC)) (xP dLe dLt (zk (.int 0)) (ze 0) (ze 1)))))))) (jK (zk (.bl false))) jh))
theorem zcS(a b c d:Int):dNe (.tup [.int a,.int b]) (.tup [.int c,.int d])=some (.bl (!(a==c && b==d))):=by
 have o : ∀a b:Int,okD (.tup [.int a,.int b])=true:=λa b=>rfl;unfold dNe;rw [if_pos ⟨o a b,o c d⟩,Zm]
theorem Zg{p:Int}{h w:Nat}(f:Nat->Nat->Int)(hh:h<=400)(hw:w<=400)(hf : ∀i j,i<h->j<w->0<=f i j/\f i j<p)(a b:Nat) :
 F_law_is_table_32 [.int p,jf h w f,.int a,.int b]=some (.val (.bl (decide (h=a/\w=b)))):=by
 have hl:=jD;have l1:w<=lim:=by omega
 have Y:=QF h w f;have s1:zhv (je 5 [.int p,jf h w f,.int a,.int b])=some (.next [.val (.int p),.val (jf h w f),.val (.int a),.val (.int b),.no]):=rfl;have Z:KI (ze 1) KK (sBd (zk (.int 2))) [.val (.int p),.val (jf h w f),.val (.int a),.val (.int b),.no]=some (.tup [.int (h:Int),.int (w:Int)]):=rfl;have i2:ixD 3 2=some 2:=rfl;have l2:2<=lim:=by omega
 have ne:=zcS (h:Int) (w:Int) (a:Int) (b:Int);rw [zcX];by_cases O:h=a/\w=b
 ·obtain⟨rfl,rfl⟩:=O
  have s2:zeW [.val (.int p),.val (jf h w f),.val (.int h),.val (.int w),.no]=some (.next [.val (.int p),.val (jf h w f),.val (.int h),.val (.int w),.no]):=by
   have S:dNe (.tup [.int (h:Int),.int (w:Int)]) (.tup [.int (h:Int),.int (w:Int)])=some (.bl false):=by rw [ne];simp
   have nh:dNe (.int (h:Int)) (.int (h:Int))=some (.bl false):=Kh rfl;unfold zeW;rw [yJ,Qu,WL,kj,Z];simp only [yW,j6,xy,qi,Qu,Jc,WL,kj,zg3,Wu,vw,yI,j5,xz,zin,zio,ziQ,zjd,zi1,zjL,zQ,z6,zij,ziC,l2,if_true,S,Zo,zjR,if_false,Y,qc,i2,jS,yF,nh];rfl
  have step : ∀i:Nat,i<h->liB [.val (.int p),.val (jf h w f),.val (.int h),.val (.int w),.val (.tup (zB w (f i)))]=some (.next [.val (.int p),.val (jf h w f),.val (.int h),.val (.int w),.val (.tup (zB w (f i)))]):=λi hi=>by
   have cells:zO (.nm 0) zV (YU (zA F_law_whole (zb (ze 0) zC)) (xP dLe dLt (zk (.int 0)) (ze 0) (ze 1))) [Cell.no,Cell.val (.int p)] (zB w (f i))=some ((zie w).map λ_=>D.bl true):=by
    rw [jg];refine zw _ _ λj hj=>zx rfl rfl ?_;have q:=hf i j hi (zig.mp hj);show YU _ _ [Cell.val (.int (f i j)),Cell.val (.int p)]=_;simp [Xq,q.1,q.2]
   have dl:(zB w (f i)).length=w:=by simp [zB]
   have nw:dNe (.int (w:Int)) (.int (w:Int))=some (.bl false):=Kh rfl;have ty:zaY Ty.tuple (.tup (zB w (f i)))=true:=rfl;have a1:(sIf (qX (jc (sB (sIs .tuple (ze 4)))) (sB (zq dNe (qw (zf 4)) (ze 3)))) (jK (zk (.bl false))) jh) [.val (.int p),.val (jf h w f),.val (.int h),.val (.int w),.val (.tup (zB w (f i)))]=some (.next [.val (.int p),.val (jf h w f),.val (.int h),.val (.int w),.val (.tup (zB w (f i)))]):=by
    simp [ty,jS,dl,nw]
   refine zu a1 ?_;have a6:(zB w (f i)).length<=lim:=by rw [dl];exact l1
   simp only [yJ,Jc,WL,zfv,kN,qr,qQ,j5,zin,zio,z6,jS,zij,ziC,a6,if_true];rw [show zT 1 [0] [Cell.val (.int p),Cell.val (jf h w f),Cell.val (.int (h:Int)),Cell.val (.int (w:Int)),Cell.val (.tup (zB w (f i)))]=[Cell.no,Cell.val (.int p)]from rfl,cells];simp [YB]
  have key : ∀(k s:Nat) (c:Cell),s+k=h->∃I,qh (.nm 4) liB ((zkw s k).map λi=>D.tup (zB w (f i))) [.val (.int p),.val (jf h w f),.val (.int h),.val (.int w),c]=some (.next [.val (.int p),.val (jf h w f),.val (.int h),.val (.int w),I]):=by
   intro k
   induction k with
   | zero=>intro s c _;exact⟨c,rfl⟩
   | succ k ih=>
    intro s c e;obtain⟨I,q⟩:=ih (s+1) (.val (.tup (zB w (f s)))) ⋯;refine⟨I,?_⟩;rw [zjY,ziK,jQ];simp only [ky,zij,zjw,zjv,step s ⋯];exact q
  obtain⟨I,q⟩:=key h 0 .no ⋯;rw [<- zjT]at q;have s3:zhu [.val (.int p),.val (jf h w f),.val (.int h),.val (.int w),.no]=some (.next [.val (.int p),.val (jf h w f),.val (.int h),.val (.int w),I]):=by
   show xT _ _ liB _=_;rw [Qv];simp only [qQ,vw,yI,j5,xz,zin,zio,ziQ,zjd,zi1,zjL,z6,zij,ziC,Y,qc,i2,jS];exact q
  rw [decide_eq_true (show h=h/\w=w from⟨rfl,rfl⟩)];exact jB (zu s1 (zu s2 (zu s3 rfl)))
 ·have s2:zeW [.val (.int p),.val (jf h w f),.val (.int a),.val (.int b),.no]=some (.ret (.val (.bl false))):=by
   have S:dNe (.tup [.int (h:Int),.int (w:Int)]) (.tup [.int (a:Int),.int (b:Int)])=some (.bl true):=by
    rw [ne];by_cases h1:h=a
    ·have h2 : ¬w=b:=λz=>O ⟨h1,z⟩
     have U : ¬((w:Int)=(b:Int)):=by omega
     simp [h1,U]
    ·have U : ¬((h:Int)=(a:Int)):=by omega
     simp [U]
   unfold zeW;rw [yJ,Qu,WL,kj,Z];simp only [yW,j6,xy,qi,zin,zio,ziQ,zjd,zi1,zjL,zQ,zij,ziC,l2,if_true,S,Zo];rfl
  rw [decide_eq_false O];exact jB (zu s1 (by rw [jb,s2];rfl))
theorem wj(b:Bool):dEq (.str (qY (wch b))) (.str "r")=some (.bl (!b)):=by cases b<;>kernel_rfl
def luB:CO Fl:=(zJ (z5 9 (zq jx (ze 7) (qJ (zq dEq (sIx (zf 8) (zk (.int 0))) (zk (.str "l")))))) (zJ (z5 10 (zq jx (ze 7) (qJ (zq dEq (sIx (zf 8) (zk (.int 0))) (zk (.str "r")))))) (jY 6 (qj (zb (sIx (zf 8) (zk (.int 0))) (zb (zA F_law_times_32 (zb (ze 3) (zb (zA F_law_times_32 (zb (ze 3) (zb (sIx (zf 1) (ze 10)) (zb (sIx (zf 8) (zk (.int 1))) zC)))) (zb (sIx (zf 2) (ze 9)) zC)))) zC))))))
section
variable{p:Int}{m:Nat}{w:Nat->Bool}{wd:Nat->Nat}{T f g:Nat->Nat->Nat->Int}
abbrev luc(p:Int)(m:Nat)(w:Nat->Bool)(wd:Nat->Nat)(T f g:Nat->Nat->Nat->Int)(c6 c7 c8 c9 c10:Cell):Ctx:=[.val (j9 p m w wd T),.val (.lst (qu (m+1) wd f)),.val (.lst (qu (m+1) wd g)),.val (.int p),.val (.tup (zB (m+1) λk=>(wd k:Int))),.val (.tup (jH m w wd T)),c6,c7,c8,c9,c10]
theorem Js{k n:Nat}(h:k<n)(wd:Nat->Nat)(f:Nat->Nat->Nat->Int):(qu n wd f)[k]? = some (jf (wd k) (wd k) (f k)):=by unfold qu;simp [h]
theorem Yb(p0:0<p)(p7:p<=7)(hm:m<=5)(a3 : ∀k,wd k<=60)(hT : ∀k i j,k<m->i<hiW w wd k->j<wiW w wd k->0<=T k i j/\T k i j<p)(hg : ∀k i j,k<m+1->i<wd k->j<wd k->0<=g k i j/\g k i j<p) :
 F_law_in_turns_32 [j9 p m w wd T,.lst (qu (m+1) wd f),.lst (qu (m+1) wd g)]=some (.val (j9 p m w wd (jT p w wd f g T))):=by
 have hl:=jD;have s1:zhr (je 11 [j9 p m w wd T,.lst (qu (m+1) wd f),.lst (qu (m+1) wd g)])=some (.next (luc p m w wd T f g .no .no .no .no .no)):=rfl;have s2:zhq (luc p m w wd T f g .no .no .no .no .no)=some (.next (luc p m w wd T f g (.own []) .no .no .no .no)):=rfl;have step : ∀s,s<m->∀c9 c10:Cell,∃z I,luB (luc p m w wd T f g (.own (jH s w wd (jT p w wd f g T))) (.val (.int (s:Int))) (.val (qv w wd T s)) c9 c10)=some (.next (luc p m w wd T f g (.own (jH (s+1) w wd (jT p w wd f g T))) (.val (.int (s:Int))) (.val (qv w wd T s)) z I)):=λs O c9 c10=>by
  have h1:=Z0 w O;have h2:=Jb w O;have a0:jE (qv w wd T s)=some (.T,[.str (qY (wch (w s))),jf (hiW w wd s) (wiW w wd s) (T s)]):=rfl;have S:ixD 2 0=some 0:=rfl;have i1:ixD 2 1=some 1:=rfl;have eL:=zbQ (w s);have eR:=wj (w s);have b1:((s:Int)+if w s=true then 1 else 0)=((begR w s:Nat):Int):=Wp w s;have b2:((s:Int)+if (!w s)=true then 1 else 0)=((endR w s:Nat):Int):=V3 w s;have ta:=Js h1 wd f;have tb:=Js h2 wd g;have l2:2<=lim:=by omega
  have sl:s<lim:=by omega
  refine⟨.val (.int ((begR w s:Nat):Int)),.val (.int ((endR w s:Nat):Int)),?_⟩;have q1:(z5 9 (zq jx (ze 7) (qJ (zq dEq (sIx (zf 8) (zk (.int 0))) (zk (.str "l")))))) (luc p m w wd T f g (.own (jH s w wd (jT p w wd f g T))) (.val (.int (s:Int))) (.val (qv w wd T s)) c9 c10)=some (.next (luc p m w wd T f g (.own (jH s w wd (jT p w wd f g T))) (.val (.int (s:Int))) (.val (qv w wd T s)) (.val (.int ((begR w s:Nat):Int))) c10)):=by
   rw [<- b1];simp only [luc,yX,kj,qi,Wv,yI,j5,xz,zin,zio,ziQ,zjd,zi1,zjL,zQ,z6,zij,ziC,a0,qc,S,eL,zjw,zjv];cases w s<;>simp
  have U:(z5 10 (zq jx (ze 7) (qJ (zq dEq (sIx (zf 8) (zk (.int 0))) (zk (.str "r")))))) (luc p m w wd T f g (.own (jH s w wd (jT p w wd f g T))) (.val (.int (s:Int))) (.val (qv w wd T s)) (.val (.int ((begR w s:Nat):Int))) c10)=some (.next (luc p m w wd T f g (.own (jH s w wd (jT p w wd f g T))) (.val (.int (s:Int))) (.val (qv w wd T s)) (.val (.int ((begR w s:Nat):Int))) (.val (.int ((endR w s:Nat):Int))))):=by
   rw [<- b2];simp only [luc,yX,kj,qi,Wv,yI,j5,xz,zin,zio,ziQ,zjd,zi1,zjL,zQ,z6,zij,ziC,a0,qc,S,eR,zjw,zjv];cases w s<;>simp
  refine zu q1 (zu U ?_);have bE:=a3 (endR w s);have bB:=a3 (begR w s);have ab : ∀i j,i<wd (endR w s)->j<wd (begR w s)->0<=T s i j/\T s i j<100:=λi j hi Y=>by
   have:=hT s i j O (by rw [yT];exact hi) (by rw [yM];exact Y);omega
  have ac : ∀i j,i<wd (begR w s)->j<wd (begR w s)->0<=g (begR w s) i j/\g (begR w s) i j<100:=λi j hi Y=>by
   have:=hg (begR w s) i j h2 hi Y;omega
  have m1:=QD (p:=p) (h:=wd (endR w s)) (m:=wd (endR w s)) (w:=wd (begR w s)) (f (endR w s)) (T s) p0 ⋯ ⋯ ⋯ ab;have m2:=QD (p:=p) (h:=wd (endR w s)) (m:=wd (begR w s)) (w:=wd (begR w s)) (λi b=>zo (λa=>f (endR w s) i a*T s a b) (wd (endR w s))%p) (g (begR w s)) p0 ⋯ ⋯ ⋯ ac;have e1:hiW w wd s=wd (endR w s):=yT w wd s;have e2:wiW w wd s=wd (begR w s):=yM w wd s;have fe:(λi j=>zo (λb=>(zo (λa=>f (endR w s) i a*T s a b) (wd (endR w s))%p)*g (begR w s) b j) (wd (begR w s))%p)=jT p w wd f g T s:=by
   funext i j;unfold jT;congr 1;congr 1;funext b;rw [zjN];congr 1;congr 1;congr 1;funext a;rw [zjN]
  rw [fe]at m2;have ar:qv w wd (jT p w wd f g T) s = .tup [.str (qY (wch (w s))),jf (wd (endR w s)) (wd (begR w s)) (jT p w wd f g T s)]:=by unfold qv;rw [e1,e2]
  rw [Ws,ar];simp only [luc,ww,yW,j6,xy,yK,qi,yI,j5,xz,zin,zio,ziQ,zjd,zi1,zjL,zQ,z6,xM,zij,ziC,a0,qc,S,i1,yi,YE,qL,h1,h2,if_true,ta,tb,e1,e2,m1,m2,zbC,l2,Qt,sl,zjw,zjv]
 have key : ∀(k s:Nat) (c7 c8 c9 c10:Cell),s+k=m->∃Z a1 z I,qh (.tp [7,8]) luB ((zkw s k).map λ(k:Nat)=>D.tup [.int k,qv w wd T k]) (luc p m w wd T f g (.own (jH s w wd (jT p w wd f g T))) c7 c8 c9 c10)=some (.next (luc p m w wd T f g (.own (jH m w wd (jT p w wd f g T))) Z a1 z I)):=by
  intro k
  induction k with
  | zero=>
   intro s c7 c8 c9 c10 e;obtain rfl:s=m:=by omega
   exact⟨c7,c8,c9,c10,rfl⟩
  | succ k ih=>
   intro s c7 c8 c9 c10 e;obtain⟨d9,ai,q⟩:=step s ⋯ c9 c10;obtain⟨Z,a1,z,I,U⟩:=ih (s+1) (.val (.int (s:Int))) (.val (qv w wd T s)) d9 ai ⋯;refine⟨Z,a1,z,I,?_⟩;rw [<- U,zjY,ziK,jQ];have hb:qB (.tp [7,8]) (.tup [.int (s:Int),qv w wd T s]) (luc p m w wd T f g (.own (jH s w wd (jT p w wd f g T))) c7 c8 c9 c10)=some (luc p m w wd T f g (.own (jH s w wd (jT p w wd f g T))) (.val (.int (s:Int))) (.val (qv w wd T s)) c9 c10):=rfl;rw [hb];simp only [zij,q]
 obtain⟨c7,c8,c9,c10,q⟩:=key m 0 .no .no .no .no ⋯;rw [<- zjT]at q;have s3:zhp (luc p m w wd T f g (.own []) .no .no .no .no)=some (.next (luc p m w wd T f g (.own (jH m w wd (jT p w wd f g T))) c7 c8 c9 c10)):=by
  show xT _ _ luB _=_;have src:wG (ze 5) (luc p m w wd T f g (.own []) .no .no .no .no)=some ((zie m).map λ(k:Nat)=>D.tup [.int k,qv w wd T k]):=by
   show some (j4 (jH m w wd T))=_;rw [show jH m w wd T=(zie m).map (qv w wd T)from rfl,Ye]
  rw [Qv,src];exact q
 have s4:zgz (luc p m w wd T f g (.own (jH m w wd (jT p w wd f g T))) c7 c8 c9 c10)=some (.ret (.val (j9 p m w wd (jT p w wd f g T)))):=by
  have l3:3<=lim:=by omega
  unfold zgz;simp only [luc,Zp,yW,j6,xy,qi,qT,j5,zin,zio,ziQ,zjd,zi1,zjL,zQ,wr,zij,ziC,l3,if_true];rfl
 rw [zcV];exact jB (zu s1 (zu s2 (zu s3 s4)))
end
section
variable{wd:Nat->Nat}{N m k r:Nat}{A:Nat->Bar}{p:Int}{w:Nat->Bool}{T:Nat->Nat->Nat->Int}{B:Nat->Vc}{l:Nat->Nat}
theorem X9(l:Nat->Nat)(g:Nat->D)(i:Nat) : ∀(L:List Nat),Ka (L.map λj=>D.int ((l j:Nat):Int)) (L.map g) (i:Int)=(L.find? λj=>l j==i).map g
 | []=>rfl
 | j::L=>by
  have z:=X9 l g i L;simp only [ziK,Ka,zj5];by_cases h:l j=i
  ·simp [h]
  ·have h2 : ¬((l j:Nat):Int)=(i:Int):=by omega
   rw [if_neg h2,z];have:(l j==i)=false:=by simpa using h
   rw [this]
theorem J5(l:Nat->Nat) : ∀L:List Nat,Q8 (L.map λj=>D.int ((l j:Nat):Int))=some (L.map λj=>((l j:Nat):Int))
 | []=>rfl
 | j::L=>by simp [Q8,J5 l L]
theorem K7(z:IsB p N r B l)(I:r<=lim):V8 ((zie r).map λj=>D.int ((l j:Nat):Int)) ((zie r).map λj=>D.tup (zB N (B j)))=some (.dic ((zie r).map λj=>D.int ((l j:Nat):Int)) ((zie r).map λj=>D.tup (zB N (B j)))):=by
 unfold V8;rw [J5];dsimp only;rw [if_pos];refine⟨by simp,?_,by simpa using I⟩;rw [List.nodup_iff_pairwise_ne,zkJ];refine zkT (λ{a b} ha O h=>?_) (zkI (n:=r));have:=z.mono a b h (zig.mp O);omega
theorem Jp(f g:Nat->D) : ∀L:List Nat,kQ (L.map λj=>D.tup [f j,g j])=some (L.map f,L.map g)
 | []=>rfl
 | j::L=>by simp [kQ,Jp f g L]
theorem wu(h:k<(jH m w wd T).length):(jH m w wd T)[k]=qv w wd T k:=by simp [jH]
theorem xw(w wd T k):jE (qv w wd T k)=some (.T,[.str (qY (wch (w k))),jf (hiW w wd k) (wiW w wd k) (T k)]):=rfl
theorem Xd:j4 ((zie N).map λj=>jV wd (A j))=(zie N).map λ(i:Nat)=>D.tup [.int i,jV wd (A i)]:=by
 unfold j4;simp only [ziD,zjm];refine ziy λi hi=>?_;have hi:=zig.mp hi;simp [hi]
def Spec(p:Int)(w:Nat->Bool)(wd:Nat->Nat)(T:Nat->Nat->Nat->Int)(k:Nat)(u:Vc):Prop:=if w k=true then Span p (wd k) (Fam (wd (k+1)) λj i=>T k i j) u else Ker p (wd (k+1)) (wd k) (T k) u
theorem KB(S:Pr p)(U : ∀k,wd k<=8)(w)(T)(k:Nat) : ∃q g,q<=100/\(∀u,Span p (wd k) (Fam q g) u↔Spec p w wd T k u)/\
 (if w k=true then F_image [.int p,jf (hiW w wd k) (wiW w wd k) (T k)]=some (.own (zS q (wd k) g))else F_kernel [.int p,jf (hiW w wd k) (wiW w wd k) (T k)]=some (.own (zS q (wd k) g))):=by
 have hl:=jD;have Y:=U k;have a3:=U (k+1);have Z : ∀{r n:Nat} {B:Nat->Vc} {l:Nat->Nat},IsB p n r B l->r<=n:=λ{r n B l} z=>by
  have mono : ∀k,k<r->k<=l k:=by
   intro k
   induction k with
   | zero=>intro _;omega
   | succ k ih=>intro Y;have:=ih ⋯;have:=z.mono k (k+1) ⋯ Y;omega
  cases r with
  | zero=>omega
  | succ a0=>have:=mono a0 ⋯;have:=z.lt a0 ⋯;omega
 cases hw:w k with
 | true=>
  have e1:hiW w wd k=wd k:=by unfold hiW;rw [hw];rfl
  have I:wiW w wd k=wd (k+1):=by unfold wiW;rw [hw];rfl
  obtain⟨r,B,l,e,z,O⟩:=Zt S (h:=wd k) (w:=wd (k+1)) ⋯ ⋯ (T k);refine⟨r,B,by have:=Z z;omega,λu=>by unfold Spec;rw [hw,if_pos rfl];exact O u,?_⟩;rw [if_pos rfl,e1,I];exact e
 | false=>
  have e1:hiW w wd k=wd (k+1):=by unfold hiW;rw [hw];rfl
  have I:wiW w wd k=wd k:=by unfold wiW;rw [hw];rfl
  obtain⟨q,K,l,s,e,z,O,_⟩:=xO S (h:=wd (k+1)) (w:=wd k) ⋯ ⋯ (T k);refine⟨q,K,by have:=Z z;omega,λu=>by unfold Spec;rw [hw,if_neg ⋯];exact O u,?_⟩;rw [if_neg ⋯,e1,I];exact e
def sd1:CO Fl:=(z5 3 (sIx (zH (sIx (zH (sIx (zf 0) (zk (.int 2)))) (ze 1))) (zk (.int 0))))
def sd2:CO Fl:=(z5 4 (sIx (zH (sIx (zH (sIx (zf 0) (zk (.int 2)))) (ze 1))) (zk (.int 1))))
def sd3:CO Fl:=(z5 5 (XJ (sB (zq dEq (ze 3) (zk (.str "r")))) (jq (zY F_kernel (zb (sIx (zf 0) (zk (.int 0))) (zb (ze 4) zC)))) (jq (zY F_image (zb (sIx (zf 0) (zk (.int 0))) (zb (ze 4) zC))))))
def sd4:CO Fl:=(z5 6 (jq (zY F_led_into (zb (sIx (zf 0) (zk (.int 0))) (zb (zA F_columns (zb (sIx (zH (sIx (zf 0) (zk (.int 1)))) (ze 1)) (zb (jq (zY F_loads_in (zb (ze 2) (zb (ze 1) zC)))) zC))) (zb (ze 5) zC))))))
def sd5:CO Fl:=(z5 7 (XL (zE (zD (zf 6)) (.nm 0) 1 [] zV (qj (zb (zA F_lead_of (zb (ze 0) zC)) (zb (ze 0) zC))))))
def sd6:CO Fl:=(xC (zE (w5 (ze 2)) (.tp [0,1]) 2 [0,2,7] zV (XJ (sB (zdA (ze 0) (ze 4))) (zA F_mixed (zb (ze 2) (zb (ze 3) (zb (zd0 (ze 4) (ze 0)) zC)))) (ze 1))))
theorem QI:F_settled=jC 8 (zJ sd1 (zJ sd2 (zJ sd3 (zJ sd4 (zJ sd5 sd6))))):=rfl
theorem KH(Y:Pr p)(hb : ∀j,j<N->(A j).s+(A j).n<=m+1)(Z : ∀j,j<N->(A j).has k=true)(a3:k<m)(hN:N<=8)(hm:m<=5)(a0 : ∀k,wd k<=8)(hv : ∀j r i,j<N->(A j).has r=true->i<wd r->0<=(A j).v r i/\(A j).v r i<p) :
 ∃r B l,IsB p N r B l/\(∀t,Span p N (Fam r B) t↔Spec p w wd T k (app (λi j=>(A j).v k i) N t))/\
  F_settled [j9 p m w wd T,.int k,.lst ((zie N).map λj=>jV wd (A j))]=some (.own ((zie N).map λi=>jV wd (stB p A N r B l i))):=by
 have hl:=jD;obtain⟨q,g,hq,a9,S⟩:=KB Y a0 w T k;have an:=a0 k;obtain⟨r,B,l,e1,z,hs⟩:=Je Y (h:=wd k) (w:=N) (q:=q) ⋯ ⋯ hq (λi j=>(A j).v k i) g;refine⟨r,B,l,z,λt=>(hs t).trans (a9 _),?_⟩;have U:N<=lim:=by omega
 have ab:k<m+1:=by omega
 have rN:r<=N:=by
  have mono : ∀k,k<r->k<=l k:=by
   intro k
   induction k with
   | zero=>intro _;omega
   | succ k ih=>intro Z;have:=ih ⋯;have:=z.mono k (k+1) ⋯ Z;omega
  cases r with
  | zero=>omega
  | succ a4=>have:=mono a4 ⋯;have:=z.lt a4 ⋯;omega
 have a5:r<=lim:=by omega
 have e2:=kL (wd:=wd) (A:=A) (N:=N) (λj I=>by have:=hb j I;omega) U k;have ef:((zie N).filter λj=>(A j).has k)=zie N:=List.filter_eq_self.mpr λj I=>Z j (zig.mp I);rw [ef]at e2;have e3:=yG (q:=N) (h:=wd k) (λj=>(A j).v k) U ⋯;have af:F_loads_in [.lst ((zie N).map λj=>jV wd (A j)),.int k]=some (.own (zS N (wd k) λj=>(A j).v k)):=e2;have e4:zO (.nm 0) zV (qj (zb (zA F_lead_of (zb (ze 0) zC)) (zb (ze 0) zC))) [.no] (zS r N B)=some ((zie r).map λj=>D.tup [.int ((l j:Nat):Int),.tup (zB N (B j))]):=by
  unfold zS;refine zw _ _ λj I=>zx rfl rfl ?_;have I:=zig.mp I;have e:=kn U (B j) (z.lt j I) (λi hi=>z.bef j i I hi) (by rw [z.one j I];decide);simp [e]
 have e5:=K7 z a5;have e6:=Jp (λj=>D.int ((l j:Nat):Int)) (λj=>D.tup (zB N (B j))) (zie r);let ds:D:= .dic ((zie r).map λj=>D.int ((l j:Nat):Int)) ((zie r).map λj=>D.tup (zB N (B j)));let L:D:= .lst ((zie N).map λj=>jV wd (A j));have e7:zO (.tp [0,1]) zV (XJ (sB (zdA (ze 0) (ze 4))) (zA F_mixed (zb (ze 2) (zb (ze 3) (zb (zd0 (ze 4) (ze 0)) zC)))) (ze 1)) [.no,.no,.val (j9 p m w wd T),.val L,.val ds] ((zie N).map λ(i:Nat)=>D.tup [.int i,jV wd (A i)])=some ((zie N).map λi=>jV wd (stB p A N r B l i)):=by
  refine zw _ _ λi hi=>zx rfl rfl ?_;have hi:=zig.mp hi;have O:=X9 l (λj=>D.tup (zB N (B j))) i (zie r);have ak:(zie r).find? (λj=>l j==i)=ldx r l i:=rfl;rw [ak]at O;unfold stB;cases hx:ldx r l i with
  | none=>
   rw [hx]at O;simp [ds,zdA,O]
  | some j=>
   rw [hx]at O;obtain⟨h1,h2⟩:=qD hx;have e:=zaO (T:=T) (w:=w) (t:=B j) Y hb ⋯ hm (λk=>by have:=a0 k;omega) hv (a:=i) hi (λc hc=>z.bef j c h1 ⋯) (by rw [<- h2,z.one j h1];decide);simp [ds,zdA,zd0,O,L,e]
 rw [QI];refine jB (zu (γ':=[.val (j9 p m w wd T),.val (.int k),.val L,.val (.str (qY (wch (w k)))),.no,.no,.no,.no]) ?_
  (zu (γ':=[.val (j9 p m w wd T),.val (.int k),.val L,.val (.str (qY (wch (w k)))),.val (jf (hiW w wd k) (wiW w wd k) (T k)),.no,.no,.no]) ?_
  (zu (γ':=[.val (j9 p m w wd T),.val (.int k),.val L,.val (.str (qY (wch (w k)))),.val (jf (hiW w wd k) (wiW w wd k) (T k)),.val (.lst (zS q (wd k) g)),.no,.no]) ?_
  (zu (γ':=[.val (j9 p m w wd T),.val (.int k),.val L,.val (.str (qY (wch (w k)))),.val (jf (hiW w wd k) (wiW w wd k) (T k)),.val (.lst (zS q (wd k) g)),.val (.lst (zS r N B)),.no]) ?_
  (zu (γ':=[.val (j9 p m w wd T),.val (.int k),.val L,.val (.str (qY (wch (w k)))),.val (jf (hiW w wd k) (wiW w wd k) (T k)),.val (.lst (zS q (wd k) g)),.val (.lst (zS r N B)),.val ds]) ?_ ?_)))))
 ·simp [sd1,je,zii,xQ,xw,wu,a3];rfl
 ·simp [sd2,xQ,xw,wu,a3]
 ·cases hw:w k with
  | true=>
   rw [hw,if_pos rfl]at S;have eq:=wj true;simp [sd3,xQ,eq,S]
  | false=>
   rw [hw,if_neg ⋯]at S;have eq:=wj false;simp [sd3,xQ,eq,S]
 ·simp [sd4,xQ,ab,L,af,e3,e1]
 ·simp [sd5,zT,e4,a5,e6,e5];rfl
 ·simp [sd6,zT,L,Xd,U,e7]
end
def oD(n:Nat):Option Vc->D
 | none=> .non
 | some y=> .tup (zB n y)
theorem KG{p:Int}(S:Pr p){h w:Nat}(U:h<=90)(hw:w<=90)(f:Nat->Nat->Int)(b:Vc)(O : ∀i,i<h->0<=b i/\b i<p) :
 ∃o:Option Vc,F_solved [.int p,jf h w f,.tup (zB h b)]=some (.val (oD w o))/\(∀x,o=some x->(∀j,0<=x j/\x j<p)/\∀i,i<h->app f w x i%p=b i%p)/\(o=none->¬∃y:Vc,∀i,i<h->app f w y i%p=b i%p):=by
 have Y : ∀i,i<h->b i%p=b i:=λi hi=>zjn (O i hi).1 (O i hi).2;by_cases I : ∃y:Vc,∀i,i<h->app f w y i%p=b i%p
 ·obtain⟨y,I⟩:=I
  obtain⟨x,e,h1,h2⟩:=W0 S U hw f b y O λi hi=>by rw [<- Y i hi,<- I i hi];rfl
  refine⟨some x,e,λx' e'=>?_,λz=>by cases z⟩;cases e';exact⟨h1,λi hi=>by rw [Y i hi];exact h2 i hi⟩
 ·obtain⟨r,B,l,s,hb,a4,hs,s1,s2,Z⟩:=wx S U hw f b
  have a0:s<r:=by
   refine zjr λa0=>I ?_;have er:s=r:=by omega
   subst er;refine⟨Xo w B l s,λi hi=>?_⟩;have co:=wO hb ((a4 (aug w f b i)).mpr (.gen ⟨i,hi,rfl⟩)) w ⋯;have a6:aug w f b i w=b i:=by simp [aug]
   rw [a6]at co;rw [co];congr 1;unfold app Xo;rw [zK (g:=λj=>zo (λk=>f i j*(if l k=j then B k w else 0)) s) λj _=>(jX _ _ _).symm,xl];refine zK λk hk=>?_;rw [z7 (i:=l k) (s1 k hk) λj hj a7=>by rw [if_neg (zi6 a7)];simp,if_pos rfl];simp only [aug,if_pos (s1 k hk)]
  rw [if_pos a0]at Z;exact⟨none,Z,nofun,λ_=>I⟩
section
variable{wd:Nat->Nat}{m k:Nat}{p:Int}{w:Nat->Bool}{T:Nat->Nat->Nat->Int}
def nl1:CO Fl:=(sIf (sB (zq dEq (sIx (zf 1) (zk (.int 0))) (zk (.str "l")))) (jK (zA F_solved (zb (ze 0) (zb (sIx (zf 1) (zk (.int 1))) (zb (ze 2) zC))))) jh)
def nl2:CO Fl:=(z5 3 (zA F_led (zb (ze 0) (zb (sIx (zf 1) (zk (.int 1))) (zb (ze 2) zC)))))
def nl3:CO Fl:=(jK (XJ (sB (zbB (zf 3))) (ze 3) (zk .non)))
theorem zaM:F_next_load=jC 4 (zJ nl1 (zJ nl2 nl3)):=rfl
theorem ZZ(b:Bool):dEq (.str (qY (wch b))) (.str "l")=some (.bl b):=by cases b<;>kernel_rfl
theorem JW(I:Pr p)(a2 : ∀k,wd k<=8)(hT : ∀i j,i<hiW w wd k->j<wiW w wd k->0<=T k i j/\T k i j<p)(u:Vc)(hu : ∀i,i<wd k->0<=u i/\u i<p) :
 ∃o:Option Vc,F_next_load [.int p,qv w wd T k,.tup (zB (wd k) u)]=some (.val (oD (wd (k+1)) o))/\(∀y,o=some y->∀c,c<wd (k+1)->0<=y c/\y c<p)/\
  (w k=false->(o=none->∀c,c<wd (k+1)->app (T k) (wd k) u c%p=0)/\∀y,o=some y->(∀c,c<wd (k+1)->app (T k) (wd k) u c%p=y c%p)/\∃c,c<wd (k+1)/\y c%p≠0)/\
  (w k=true->(o=none->¬∃y:Vc,∀c,c<wd k->app (T k) (wd (k+1)) y c%p=u c%p)/\∀y,o=some y->∀c,c<wd k->app (T k) (wd (k+1)) y c%p=u c%p):=by
 have hl:=jD;have p7:=I.le;have hk:=a2 k;have aa:=a2 (k+1);rw [zaM];cases hw:w k with
 | true=>
  have e1:hiW w wd k=wd k:=by unfold hiW;rw [hw];rfl
  have O:wiW w wd k=wd (k+1):=by unfold wiW;rw [hw];rfl
  obtain⟨o,eo,h1,h2⟩:=KG I (h:=wd k) (w:=wd (k+1)) ⋯ ⋯ (T k) u hu;refine⟨o,?_,λy e c _=>(h1 y e).1 c,nofun,λ_=>⟨h2,λy e=>(h1 y e).2⟩⟩;refine jB ?_;have S:=ZZ true;have es:nl1 (je 4 [.int p,qv w wd T k,.tup (zB (wd k) u)])=some (.ret (.val (oD (wd (k+1)) o))):=by
   simp [nl1,je,zii,xw,hw,S,e1,O,eo]
  rw [jb,es];rfl
 | false=>
  have e1:hiW w wd k=wd (k+1):=by unfold hiW;rw [hw];rfl
  have O:wiW w wd k=wd k:=by unfold wiW;rw [hw];rfl
  rw [e1,O]at hT;have Y:=Kp (p:=p) (h:=wd (k+1)) (w:=wd k) .T (T k) u I.pos ⋯ ⋯ λi j hi hj=>by have:=hT i j hi hj;omega
  simp only [dsq]at Y;have S:=ZZ false;have tv:=XA (λi=>zo (λj=>T k i j*u j) (wd k)%p) (wd (k+1));by_cases U : ∃c,c<wd (k+1)/\zo (λj=>T k c j*u j) (wd k)%p≠0
  ·refine⟨some λi=>zo (λj=>T k i j*u j) (wd k)%p,?_,(λy e c _=>by cases e;exact⟨zi5 _ (by have:=I.pos;omega),ziS _ I.pos⟩),λ_=>⟨nofun,(λy e=>by cases e;exact⟨(λc _=>by rw [ziY];rfl),(by obtain⟨c,h1,h2⟩:=U;exact⟨c,h1,(by rw [ziY];exact h2)⟩)⟩)⟩,nofun⟩
   refine jB (zu (γ':=[.val (.int p),.val (qv w wd T k),.val (.tup (zB (wd k) u)),.no]) ?_ (zu (γ':=[.val (.int p),.val (qv w wd T k),.val (.tup (zB (wd k) u)),.val (.tup (zB (wd (k+1)) λi=>zo (λj=>T k i j*u j) (wd k)%p))]) ?_ ?_))
   ·simp [nl1,je,zii,xw,hw,S]
   ·simp [nl2,xw,e1,O,Y]
   ·have Z:(zie (wd (k+1))).any (λi=>(zo (λj=>T k i j*u j) (wd k)%p) != 0)=true:=by
     obtain⟨c,h1,h2⟩:=U;exact zl9.mpr ⟨c,zig.mpr h1,by simpa using h2⟩
    have ea:zbB (zf 3) [.val (.int p),.val (qv w wd T k),.val (.tup (zB (wd k) u)),.val (.tup (zB (wd (k+1)) λi=>zo (λj=>T k i j*u j) (wd k)%p))]=some (.bl true):=by
     show((yl _).map λs=>D.bl (s.any id))=_;rw [tv];show some (D.bl (((zie (wd (k+1))).map λi=>(zo (λj=>T k i j*u j) (wd k)%p) != 0).any id))=_;rw [List.any_map];rw [show(id∘λi=>(zo (λj=>T k i j*u j) (wd k)%p) != 0)=λi=>(zo (λj=>T k i j*u j) (wd k)%p) != 0 from rfl,Z]
    unfold nl3;simp only [Zp,zbU,WL,ea];rfl
  ·refine⟨none,?_,nofun,λ_=>⟨λ_ c hc=>zjr λz=>U ⟨c,hc,z⟩,nofun⟩,nofun⟩
   refine jB (zu (γ':=[.val (.int p),.val (qv w wd T k),.val (.tup (zB (wd k) u)),.no]) ?_ (zu (γ':=[.val (.int p),.val (qv w wd T k),.val (.tup (zB (wd k) u)),.val (.tup (zB (wd (k+1)) λi=>zo (λj=>T k i j*u j) (wd k)%p))]) ?_ ?_))
   ·simp [nl1,je,zii,xw,hw,S]
   ·simp [nl2,xw,e1,O,Y]
   ·have Z:(zie (wd (k+1))).any (λi=>(zo (λj=>T k i j*u j) (wd k)%p) != 0)=false:=zl3.mpr λc hc z=>U ⟨c,zig.mp hc,by simpa using z⟩
    have ea:zbB (zf 3) [.val (.int p),.val (qv w wd T k),.val (.tup (zB (wd k) u)),.val (.tup (zB (wd (k+1)) λi=>zo (λj=>T k i j*u j) (wd k)%p))]=some (.bl false):=by
     show((yl _).map λs=>D.bl (s.any id))=_;rw [tv];show some (D.bl (((zie (wd (k+1))).map λi=>(zo (λj=>T k i j*u j) (wd k)%p) != 0).any id))=_;rw [List.any_map];rw [show(id∘λi=>(zo (λj=>T k i j*u j) (wd k)%p) != 0)=λi=>(zo (λj=>T k i j*u j) (wd k)%p) != 0 from rfl,Z]
    unfold nl3;simp only [Zp,zbU,WL,ea];rfl
end
section
variable{wd:Nat->Nat}{m k:Nat}{p:Int}{w:Nat->Bool}{T:Nat->Nat->Nat->Int}
theorem zaW{n:Nat}(h:1<=n):ixD n (-1)=some (n - 1):=by
 unfold ixD;rw [if_neg ⋯,if_pos ⋯];congr 1;omega
theorem Vy{b:Bar}(z:b.s+b.n=k+1)(y:Vc):xf wd (exB k b (some y))=xf wd b++[D.tup (zB (wd (k+1)) y)]:=by
 unfold xf exB;dsimp only;rw [zjE,zjf];congr 1
 ·refine ziy λi hi=>?_
  have hi:=zig.mp hi;rw [if_neg ⋯]
 ·simp [z]
def tk1:CO Fl:=(z5 3 (zA F_next_load (zb (ze 0) (zb (ze 1) (zb (sIx (zH (sIx (zf 2) (zk (.int 1)))) (zdY (zk (.int 1)))) zC)))))
def tk2:CO Fl:=(jK (XJ (sB (zq zdE (ze 3) (zk .non))) (ze 2) (qj (zb (sIx (zf 2) (zk (.int 0))) (zb (zq jx (sIx (zf 2) (zk (.int 1))) (qj (zb (ze 3) zC))) zC)))))
theorem YC:F_taken_on=jC 4 (zJ tk1 tk2):=rfl
theorem WW{b:Bar}(h1:1<=b.n)(I:b.s+b.n=k+1)(U:k<=20){o:Option Vc}(e:F_next_load [.int p,qv w wd T k,.tup (zB (wd k) (b.v k))]=some (.val (oD (wd (k+1)) o))) :
 F_taken_on [.int p,qv w wd T k,jV wd b]=some (.val (jV wd (exB k b o))):=by
 have Y:=jD;have i1:=zaW h1;have z:=X0 (wd:=wd) (b:=b) (i:=b.n - 1) ⋯;rw [show b.s+(b.n - 1)=k by omega]at z;have Z:b.n - 1<b.n:=by omega
 rw [YC];refine jB (zu (γ':=[.val (.int p),.val (qv w wd T k),.val (jV wd b),.val (oD (wd (k+1)) o)]) ?_ ?_)
 ·unfold tk1
  have es:sIx (zH (sIx (zf 2) (zk (.int 1)))) (zdY (zk (.int 1))) (je 4 [.int p,qv w wd T k,jV wd b])=some (.tup (zB (wd k) (b.v k))):=by
   have O : ∀γ:Ctx,zdY (zk (.int 1)) γ=some (.int (-1)):=λ_=>rfl;simp [je,zii,i1,O];exact z
  simp only [yX,yK,j6,xy,es];simp [je,zii,e]
 ·cases o with
  | none=>simp [tk2,oD,zdE,exB]
  | some y=>
   have hn:b.n+1<=lim:=by omega
   have S:=Vy (wd:=wd) I y;simp [tk2,oD,zdE,hn,jx];unfold jV;rw [S];rfl
def WB(p:Int)(w:Nat->Bool)(wd:Nat->Nat)(T:Nat->Nat->Nat->Int)(k:Nat)(L:List Vc):Prop:=
 if w k=true then ∃q K l s,L=(zie q).map K/\IsB p (wd (k+1)) q K l/\(∀v,Span p (wd (k+1)) (Fam q K) v↔Ker p (wd k) (wd (k+1)) (T k) v)/\Rk p (wd k) (wd (k+1)) (λj i=>T k i j) s/\q+s=wd (k+1)
 else ∃r B l,IsB p (wd (k+1)) r B l/\(∀v,Span p (wd (k+1)) (Fam r B) v↔Span p (wd (k+1)) (Fam (wd k) λj i=>T k i j) v)/\L=((zie (wd (k+1))).filter λ(c:Nat)=> !decide ((c:Int)∈(zie r).map λj=>((l j:Nat):Int))).map jG
def nw1:CO Fl:=(sIf (sB (zq dEq (sIx (zf 1) (zk (.int 0))) (zk (.str "l")))) (xC (zY F_kernel (zb (ze 0) (zb (sIx (zf 1) (zk (.int 1))) zC)))) jh)
def nw2:CO Fl:=(z5 2 (jq (zE (zD (zX (zY F_image (zb (ze 0) (zb (sIx (zf 1) (zk (.int 1))) zC))))) (.nm 0) 1 [] zV (zA F_lead_of (zb (ze 0) zC)))))
def nw3:CO Fl:=(xC (zE (wG (sIx (zH (zA F_same_table (zb (sIx (zH (sIx (zf 1) (zk (.int 1)))) (zk (.int 0))) zC))) (zk (.int 2)))) (.tp [0,1]) 2 [2] (sB (vK (ze 0) (zf 2))) (ze 1)))
theorem zcR:F_new_loads=jC 3 (zJ nw1 (zJ nw2 nw3)):=rfl
theorem Zi(l:Nat->Nat) : ∀L:List Nat,Q7 (L.map λj=>D.int ((l j:Nat):Int))=some (L.map λj=>((l j:Nat):Int))
 | []=>rfl
 | j::L=>by simp [Q7,Zi l L]
theorem zcl{n r:Nat}{B:Nat->Vc}{l:Nat->Nat}(z:IsB p n r B l):r<=n:=by
 have mono : ∀k,k<r->k<=l k:=by
  intro k
  induction k with
  | zero=>intro _;omega
  | succ k O=>intro S;have:=O ⋯;have:=z.mono k (k+1) ⋯ S;omega
 cases r with
 | zero=>omega
 | succ I=>have:=mono I ⋯;have:=z.lt I ⋯;omega
theorem VZ(n:Nat):j4 (zS n n λi j=>if i=j then 1 else 0)=(zie n).map λ(i:Nat)=>D.tup [.int i,.tup (zB n (jG i))]:=by
 unfold j4 zS;simp only [ziD,zjm];refine ziy λi hi=>?_;have hi:=zig.mp hi;simp [hi];rfl
theorem JX(Z:Pr p)(a0 : ∀k,wd k<=8) : ∃L:List Vc,WB p w wd T k L/\F_new_loads [.int p,qv w wd T k]=some (.own (L.map λy=>D.tup (zB (wd (k+1)) y))):=by
 have hl:=jD;have hk:=a0 k;have af:=a0 (k+1);rw [zcR];unfold WB;cases hw:w k with
 | true=>
  have e1:hiW w wd k=wd k:=by unfold hiW;rw [hw];rfl
  have O:wiW w wd k=wd (k+1):=by unfold wiW;rw [hw];rfl
  obtain⟨q,K,l,s,e,z,S,hr,a5⟩:=xO Z (h:=wd k) (w:=wd (k+1)) ⋯ ⋯ (T k);refine⟨(zie q).map K,by rw [if_pos rfl];exact⟨q,K,l,s,rfl,z,S,hr,a5⟩,jB ?_⟩;have U:=ZZ true;have es:nw1 (je 3 [.int p,qv w wd T k])=some (.ret (.own (zS q (wd (k+1)) K))):=by
   simp [nw1,je,zii,xw,hw,U,e1,O,e]
  rw [jb,es,ziZ];rfl
 | false=>
  have e1:hiW w wd k=wd (k+1):=by unfold hiW;rw [hw];rfl
  have O:wiW w wd k=wd k:=by unfold wiW;rw [hw];rfl
  obtain⟨r,B,l,e,z,S⟩:=Zt Z (h:=wd (k+1)) (w:=wd k) ⋯ ⋯ (T k);have rn:=zcl z;have a6:r<=lim:=by omega
  have Y:wd (k+1)<=lim:=by omega
  refine⟨_,by rw [if_neg ⋯];exact⟨r,B,l,z,S,rfl⟩,?_⟩;have U:=ZZ false;have e4:zO (.nm 0) zV (zA F_lead_of (zb (ze 0) zC)) [.no] (zS r (wd (k+1)) B)=some ((zie r).map λj=>D.int ((l j:Nat):Int)):=by
   unfold zS;refine zw _ _ λj I=>zx rfl rfl ?_;have I:=zig.mp I;have e:=kn Y (B j) (z.lt j I) (λi hi=>z.bef j i I hi) (by rw [z.one j I];decide);simp [e]
  have e5:zO (.tp [0,1]) (sB (vK (ze 0) (zf 2))) (ze 1) [.no,.no,.val (.lst ((zie r).map λj=>D.int ((l j:Nat):Int)))] ((zie (wd (k+1))).map λ(i:Nat)=>D.tup [.int i,.tup (zB (wd (k+1)) (jG i))]) =
   some (((zie (wd (k+1))).filter λ(c:Nat)=> !decide ((c:Int)∈(zie r).map λj=>((l j:Nat):Int))).map λ(i:Nat)=>D.tup (zB (wd (k+1)) (jG i))):=by
   refine ja (λ(c:Nat)=> !decide ((c:Int)∈(zie r).map λj=>((l j:Nat):Int))) (λ(i:Nat)=>D.tup (zB (wd (k+1)) (jG i))) _ λi hi=>⟨_,rfl,?_,λ_=>rfl⟩;have im:=Zi l (zie r);show(vK (ze 0) (zf 2) [.val (.int i),_,.val (.lst ((zie r).map λj=>D.int ((l j:Nat):Int)))]).bind asB=_;show((Q7 ((zie r).map λj=>D.int ((l j:Nat):Int))).map λl=>D.bl (!decide ((i:Int)∈l))).bind asB=_;rw [im];rfl
  have es:=km (n:=wd (k+1)) Y;refine jB (zu (γ':=[.val (.int p),.val (qv w wd T k),.no]) ?_ (zu (γ':=[.val (.int p),.val (qv w wd T k),.val (.lst ((zie r).map λj=>D.int ((l j:Nat):Int)))]) ?_ ?_))
  ·simp [nw1,je,zii,xw,hw,U]
  ·simp [nw2,zT,xw,e1,O,e,a6,e4]
  ·have a1:jE (jf (hiW w wd k) (wiW w wd k) (T k))=some (.T,[.int (wd (k+1):Nat),.int (wd k:Nat),.tup (zS (wd (k+1)) (wd k) (T k))]):=by rw [e1,O];rfl
   have a2:jE (jf (wd (k+1)) (wd (k+1)) λi j=>if i=j then 1 else 0)=some (.T,[.int (wd (k+1):Nat),.int (wd (k+1):Nat),.tup (zS (wd (k+1)) (wd (k+1)) λi j=>if i=j then 1 else 0)]):=rfl;have a3:=VZ (wd (k+1));simp [nw3,zT,xw,a1,es,a2,a3,Y];rw [e5];exact congrArg some (congrArg (List.map _) (zl2 λc _=>by simp))
end
section
variable{wd:Nat->Nat}{m k r N:Nat}{p:Int}{w:Nat->Bool}{T:Nat->Nat->Nat->Int}{B:Nat->Vc}{l:Nat->Nat}{A:Nat->Bar}
theorem zbO(I:IsB p N r B l){j:Nat}(z:j<r):ldx r l (l j)=some j:=by
 cases h:ldx r l (l j)with
 | none=>exact absurd rfl (vg h j z)
 | some i=>
  obtain⟨h1,h2⟩:=qD h;rw [XX I.mono h1 z h2]
theorem Q2{a b:List Nat}(ha:a.Nodup)(z:b.Nodup)(h : ∀x,x∈a↔x∈b):a.length=b.length:=((List.perm_ext_iff_of_nodup ha z).mpr h).length_eq
theorem Z6(z:IsB p N r B l):(zie N).countP (λi=>(ldx r l i).isSome)=r:=by
 rw [zjJ];have e:((zie N).filter λi=>(ldx r l i).isSome).length=((zie r).map l).length:=by
  refine Q2 (List.nodup_range.sublist List.filter_sublist) ?_ λx=>?_
  ·rw [List.nodup_iff_pairwise_ne,zkJ]
   refine zkT (λ{a b} ha I h=>?_) (zkI (n:=r));have:=z.mono a b h (zig.mp I);omega
  ·rw [ziO,ziB]
   constructor
   ·rintro⟨h1,h2⟩
    obtain⟨j,O⟩:=zjx.mp h2;obtain⟨S,U⟩:=qD O;exact⟨j,zig.mpr S,U⟩
   ·rintro⟨j,h1,h2⟩
    have h1:=zig.mp h1;subst h2;exact⟨zig.mpr (z.lt j h1),by rw [zbO z h1];rfl⟩
 rw [e];simp
theorem Wg(q:Nat->Bool)(N:Nat):(zie N).countP q+(zie N).countP (λi=> !q i)=N:=by
 have:=zlY q (l:=zie N);rw [zjm]at this;rw [this];congr 1
 ·rw [<- this]
 ·rw [<- this]
  exact zj6 λi _=>by simp
theorem zgy(z : ∀j,j<N->(A j).has k=true)(t:Vc)(c:Nat):mxV p A N t k c%p=app (λi j=>(A j).v k i) N t c%p:=by
 unfold mxV app;rw [ziY];congr 1;exact zK λj I=>by rw [if_pos (z j I),zjN]
theorem ym(z : ∀j,j<N->(A j).has k=true){i j:Nat}(h:ldx r l i=some j)(c:Nat):(stB p A N r B l i).v k c%p=app (λi j=>(A j).v k i) N (B j) c%p:=by
 unfold stB;rw [h];exact zgy z (B j) c
theorem ZC{i:Nat}(h:ldx r l i=none):stB p A N r B l i=A i:=by unfold stB;rw [h]
theorem Yc(hp:Pr p)(a2 : ∀k,wd k<=8)(hk : ∀j,j<wd k->(A j).has k=true)(hs : ∀v:Vc,∃t,∀i,i<wd k->v i%p=app (λi j=>(A j).v k i) (wd k) t i%p)
 (Z:IsB p (wd k) r B l) (hW : ∀t,Span p (wd k) (Fam r B) t↔Spec p w wd T k (app (λi j=>(A j).v k i) (wd k) t)) {Y:List Vc} (hn:WB p w wd T k Y) {nx:Nat->Option Vc}
 (hr : ∀i,i<wd k->w k=false->(nx i=none->∀c,c<wd (k+1)->app (T k) (wd k) ((stB p A (wd k) r B l i).v k) c%p=0)/\∀y,nx i=some y->(∀c,c<wd (k+1)->app (T k) (wd k) ((stB p A (wd k) r B l i).v k) c%p=y c%p)/\∃c,c<wd (k+1)/\y c%p≠0)
 (hl : ∀i,i<wd k->w k=true->(nx i=none->¬∃y:Vc,∀c,c<wd k->app (T k) (wd (k+1)) y c%p=(stB p A (wd k) r B l i).v k c%p)/\∀y,nx i=some y->∀c,c<wd k->app (T k) (wd (k+1)) y c%p=(stB p A (wd k) r B l i).v k c%p) :
 (∀y,y∈Y->∀c,c<wd (k+1)->0<=y c/\y c<p)/\(∀y,y∈Y->w k=true->∀c,c<wd k->app (T k) (wd (k+1)) y c%p=0)/\
   (∀v,Span p (wd (k+1)) (λg=>(∃i,i<wd k/\nx i=some g)\/g∈Y) v)/\(zie (wd k)).countP (λi=>(nx i).isSome)+Y.length=wd (k+1):=by
 have two:=hp.two;cases hw:w k with
 | false=>
  have a7 : ∀t,Span p (wd k) (Fam r B) t↔Ker p (wd (k+1)) (wd k) (T k) (app (λi j=>(A j).v k i) (wd k) t):=λt=>by
   have:=hW t;unfold Spec at this;rw [hw,if_neg ⋯]at this;exact this
  unfold WB at hn;rw [hw,if_neg ⋯]at hn;obtain⟨r2,B2,l2,ae,hI,S⟩:=hn;obtain⟨g1,g2,g3,g4⟩:=zdO hp (a2 k) (a2 (k+1)) hs Z a7 ae hI;have aj : ∀c,c<wd (k+1)->(∀j,j<r2->l2 j≠c)->jG c∈Y:=λc O hn=>by
   rw [S];refine ziB.mpr ⟨c,ziO.mpr ⟨zig.mpr O,?_⟩,rfl⟩;simp only [zj7,decide_eq_false_iff_not,ziB,zig];rintro⟨j,h1,h2⟩;exact hn j h1 ⋯
  have on : ∀i,i<wd k->(nx i).isSome=(ldx r l i).isNone:=λi hi=>by
   cases hx:ldx r l i with
   | none=>
    obtain⟨c,h1,h2⟩:=g2 i hi (vg hx);cases I:nx i with
    | some y=>rfl
    | none=>
     have:=(hr i hi hw).1 I c h1;rw [ZC hx]at this;exact absurd this h2
   | some j=>
    obtain⟨h1,h2⟩:=qD hx;cases I:nx i with
    | none=>rfl
    | some y=>
     obtain⟨e,c,h3,h4⟩:=(hr i hi hw).2 y I;have z:=g1 j h1 c h3;rw [<- qp (λa _=>ym (B:=B) (r:=r) (l:=l) hk hx a) c,e c h3]at z;exact absurd z h4
  refine⟨λy I c O=>?_,(λy I z=>by cases z),λv=>g4 _ (λc O aa=>?_) (λc O aa=> .gen (.inr (aj c O aa))) v,?_⟩
  ·rw [S]at I
   obtain⟨i,_,rfl⟩:=ziB.mp I;unfold jG;split<;>omega
  ·have hx:ldx r l c=none:=by
    cases hx:ldx r l c with
    | none=>rfl
    | some j=>exact absurd (qD hx).2 (aa j (qD hx).1)
   have a1:=on c O;rw [hx]at a1;obtain⟨y,I⟩:=zjx.mp a1;refine(Span.gen (.inl ⟨c,O,I⟩)).congr λi hi=>?_;have:=((hr c O hw).2 y I).1 i hi;rw [ZC hx]at this;exact this
  ·have e1:(zie (wd k)).countP (λi=>(nx i).isSome)=(zie (wd k)).countP λi=> !(ldx r l i).isSome:=zj6 λi hi=>by
    rw [on i (zig.mp hi)];cases ldx r l i<;>simp
   have e2:=Wg (λi=>(ldx r l i).isSome) (wd k);rw [Z6 Z]at e2;have e3:=Wg (λi=>(ldx r2 l2 i).isSome) (wd (k+1));rw [Z6 ae]at e3;have e4:Y.length=(zie (wd (k+1))).countP λi=> !(ldx r2 l2 i).isSome:=by
    rw [S,ziD,<- zjJ];refine zj6 λi hi=>?_;cases hx:ldx r2 l2 i with
    | none=>
     have:=vg hx;simp only [zj7,decide_eq_false_iff_not,ziB,zig];constructor
     ·intro _;rfl
     ·rintro _ ⟨j,h1,h2⟩
      exact this j h1 ⋯
    | some j=>
     obtain⟨h1,h2⟩:=qD hx;simp only [zj7,decide_eq_false_iff_not,ziB,zig];constructor
     ·intro z;exact absurd ⟨j,h1,by rw [h2]⟩ z
     ·intro z;cases z
   rw [e1,e4];omega
 | true=>
  have a7 : ∀t,Span p (wd k) (Fam r B) t↔Span p (wd k) (Fam (wd (k+1)) λj i=>T k i j) (app (λi j=>(A j).v k i) (wd k) t):=λt=>by
   have:=hW t;unfold Spec at this;rw [hw,if_pos rfl]at this;exact this
  unfold WB at hn;rw [hw,if_pos rfl]at hn;obtain⟨q,K,lK,s,S,ao,ag,ap,aq⟩:=hn;obtain⟨g1,g2,g3,g4⟩:=zdP hp (a2 k) (a2 (k+1)) hs Z a7 ag ap aq;have on : ∀i,i<wd k->(nx i).isSome=(ldx r l i).isSome:=λi hi=>by
   cases hx:ldx r l i with
   | none=>
    cases I:nx i with
    | none=>rfl
    | some y=>
     have:=(hl i hi hw).2 y I;rw [ZC hx]at this;exact absurd ⟨y,this⟩ (g2 i hi (vg hx))
   | some j=>
    obtain⟨h1,h2⟩:=qD hx;cases I:nx i with
    | some y=>rfl
    | none=>
     obtain⟨y,ar⟩:=g1 j h1;exact absurd ⟨y,λc O=>by rw [ar c O,ym hk hx c]⟩ ((hl i hi hw).1 I)
  refine⟨λy I c O=>?_,λy I _ c O=>?_,λv=>g4 _ (λj=>(nx (l j)).getD λ_=>0) (λj U=>?_) (λj U=>?_) v,?_⟩
  ·rw [S]at I
   obtain⟨j,U,rfl⟩:=ziB.mp I;exact ao.rng j c (zig.mp U) O
  ·rw [S]at I
   obtain⟨j,U,rfl⟩:=ziB.mp I;exact(ag (K j)).mp (.gen ⟨j,zig.mp U,rfl⟩) c O
  ·have hx:=zbO Z U
   have ab:=Z.lt j U;have a1:=on (l j) ab;rw [hx]at a1;obtain⟨y,I⟩:=zjx.mp a1;rw [I];refine⟨.gen (.inl ⟨l j,ab,I⟩),λc O=>?_⟩;have:=(hl (l j) ab hw).2 y I c O;rw [ym hk hx c]at this;exact this
  ·refine .gen (.inr ?_)
   rw [S];exact ziB.mpr ⟨j,zig.mpr U,rfl⟩
  ·have e1:(zie (wd k)).countP (λi=>(nx i).isSome)=(zie (wd k)).countP λi=>(ldx r l i).isSome:=zj6 λi hi=>by
    rw [on i (zig.mp hi)]
   rw [e1,Z6 Z,S,ziD,zjm];omega
end
section
variable{wd:Nat->Nat}{m k:Nat}{p:Int}{w:Nat->Bool}{T:Nat->Nat->Nat->Int}
def gr1:CO Fl:=(z5 3 (sIx (zf 0) (zk (.int 0))))
def gr2:CO Fl:=(z5 4 (sIx (zH (sIx (zf 0) (zk (.int 2)))) (ze 1)))
def gr3:CO Fl:=(z5 5 (jq (zE (zD (zf 2)) (.nm 0) 1 [1] (jc (sB (zA F_has_room (zb (ze 0) (zb (ze 1) zC))))) (ze 0))))
def gr4:CO Fl:=(z5 6 (jq (zY F_settled (zb (ze 0) (zb (ze 1) (zb (jq (zE (zD (zf 2)) (.nm 0) 1 [1] (sB (zA F_has_room (zb (ze 0) (zb (ze 1) zC)))) (ze 0))) zC))))))
def gr5:CO Fl:=(z5 7 (jq (zE (zD (zf 6)) (.nm 0) 1 [3,4] zV (zA F_taken_on (zb (ze 1) (zb (ze 2) (zb (ze 0) zC)))))))
def gr6:CO Fl:=(z5 8 (jq (zE (zD (zX (zY F_new_loads (zb (ze 3) (zb (ze 4) zC))))) (.nm 0) 1 [1] zV (qj (zb (zq jx (ze 1) (zk (.int 1))) (zb (qj (zb (ze 0) zC)) zC))))))
def gr7:CO Fl:=(jK (jq (yp (zf 5) (zH (XJ (sB (zq dEq (sIx (zf 4) (zk (.int 0))) (zk (.str "r")))) (jq (yp (zf 8) (zf 7))) (jq (yp (zf 7) (zf 8))))))))
theorem VT:F_grown=jC 9 (zJ gr1 (zJ gr2 (zJ gr3 (zJ gr4 (zJ gr5 (zJ gr6 gr7)))))):=rfl
theorem zgw(y:Vc):jV wd (nuB k y) = .tup [.int ((k:Int)+1),.tup [.tup (zB (wd (k+1)) y)]]:=by
 unfold jV nuB xf;simp
theorem za4(hp:Pr p)(O : ∀k,wd k<=8)(hm:m<=5)(aa:k<m)(hT : ∀i j,i<hiW w wd k->j<wiW w wd k->0<=T k i j/\T k i j<p){bars:List Bar}(I:BrInv p w wd T k bars)(ah:bars.length<=100) :
 ∃a4,BrInv p w wd T (k+1) a4/\a4.length<=bars.length+8/\F_grown [j9 p m w wd T,.int k,.lst (bars.map (jV wd))]=some (.val (.lst (a4.map (jV wd)))):=by
 have hl:=jD;have p0:=hp.pos;have ac:bars.length<=lim:=by omega
 have a5:(bars.filter λb=>b.has k).length=wd k:=by rw [<- zjJ];exact I.ct k (zim _)
 let A:Nat->Bar:=λj=>(bars.filter λb=>b.has k).getD j WF;have eA:(bars.filter λb=>b.has k)=(zie (wd k)).map A:=by
  rw [<- a5];exact(z9 WF _).symm
 have mA : ∀j,j<wd k->A j∈bars/\(A j).has k=true:=λj S=>by
  have:A j∈bars.filter λb=>b.has k:=by
   show(bars.filter λb=>b.has k).getD j WF∈_;rw [zil,zih ⋯];exact zka _
  have:=ziO.mp this;exact⟨this.1,by simpa using this.2⟩
 have a6 : ∀j,j<wd k->BarOk p w wd T k (A j):=λj S=>I.ok _ (mA j S).1;have hO : ∀i c,i<c->c<wd k->Ord w (A i) (A c):=λi c h1 h2=>by
  have:=zj0.mp I.od i c ⋯ ⋯ h1;show Ord w ((bars.filter λb=>b.has k).getD i WF) ((bars.filter λb=>b.has k).getD c WF);rw [zil,zih ⋯,zil,zih ⋯];exact this
 have a3 : ∀j,j<wd k->(A j).has k=true:=λj S=>(mA j S).2;obtain⟨r,B,l,hB,hW,eS⟩:=KH (T:=T) (w:=w) (A:=A) (N:=wd k) (k:=k) hp (λj S=>by have:=(a6 j S).le;omega) a3 aa (O k) hm O λj rm i S hh hi=>(a6 j S).rng rm i hh hi;have okS : ∀i,i<wd k->BarOk p w wd T k (stB p A (wd k) r B l i):=λi hi=>zby p0 hB a6 a3 hO hi;have ae : ∀i,i<wd k->(stB p A (wd k) r B l i).has k=true:=λi hi=>by rw [QG];exact a3 i hi
 have ex : ∀i,∃o:Option Vc,i<wd k->(F_next_load [.int p,qv w wd T k,.tup (zB (wd k) ((stB p A (wd k) r B l i).v k))]=some (.val (oD (wd (k+1)) o))/\(∀y,o=some y->∀c,c<wd (k+1)->0<=y c/\y c<p)/\
  (w k=false->(o=none->∀c,c<wd (k+1)->app (T k) (wd k) ((stB p A (wd k) r B l i).v k) c%p=0)/\∀y,o=some y->(∀c,c<wd (k+1)->app (T k) (wd k) ((stB p A (wd k) r B l i).v k) c%p=y c%p)/\∃c,c<wd (k+1)/\y c%p≠0)/\
  (w k=true->(o=none->¬∃y:Vc,∀c,c<wd k->app (T k) (wd (k+1)) y c%p=(stB p A (wd k) r B l i).v k c%p)/\∀y,o=some y->∀c,c<wd k->app (T k) (wd (k+1)) y c%p=(stB p A (wd k) r B l i).v k c%p)):=λi=>by
  by_cases hi:i<wd k
  ·obtain⟨o,h⟩:=JW (T:=T) (w:=w) (k:=k) hp O hT ((stB p A (wd k) r B l i).v k) λc hc=>(okS i hi).rng k c (ae i hi) hc
   exact⟨o,λ_=>h⟩
  ·exact⟨none,λz=>absurd z hi⟩
 obtain⟨nx,Y⟩:=zk6 ex;obtain⟨U,hN,eN⟩:=JX (T:=T) (w:=w) (k:=k) hp O;have hs : ∀v:Vc,∃t,∀i,i<wd k->v i%p=app (λi j=>(A j).v k i) (wd k) t i%p:=λv=>by
  have hv:Span p (wd k) (Fam (wd k) λj=>(A j).v k) v:=(I.sp k (zim _) v).le λg hg=>by
   obtain⟨b,h1,h2,rfl⟩:=hg;have af:b∈bars.filter λb=>b.has k:=ziO.mpr ⟨h1,by simpa using h2⟩;rw [eA]at af;obtain⟨j,S,rfl⟩:=ziB.mp af;exact .gen ⟨j,zig.mp S,rfl⟩
  obtain⟨t,ht⟩:=Jx hv;exact⟨t,λi hi=>by rw [ht i hi];unfold app;rw [qR]⟩
 obtain⟨f1,f2,f3,f4⟩:=Yc (T:=T) (w:=w) (A:=A) hp O a3 hs hB hW hN (nx:=nx) (λi hi=>(Y i hi).2.2.1) λi hi=>(Y i hi).2.2.2;refine⟨kI p k w bars A (wd k) r B l nx U,VS p0 I a5 (λ_=>rfl) hB (λi y hi e=>(Y i hi).2.1 y e) f1 (λi hi e hw=>((Y i hi).2.2.1 hw).1 e) (λi y hi e hw=>(((Y i hi).2.2.1 hw).2 y e).1) (λi y hi e hw=>((Y i hi).2.2.2 hw).2 y e) f2 f3 f4,?_,?_⟩
 ·have h1:(bars.filter λb=> !b.has k).length+wd k=bars.length:=by
   have:=zlY (λb:Bar=>b.has k) (l:=bars);rw [<- a5,<- zjJ,<- zjJ,this];have e:bars.countP (λb=> !b.has k)=bars.countP λb=>decide (¬b.has k=true):=zj6 λb _=>by simp
   rw [e];omega
  have h2:=O (k+1);unfold kI;rw [zjo];cases w k<;>simp<;>omega
 ·
  let L:D:= .lst (bars.map (jV wd));have e3:zO (.nm 0) (jc (sB (zA F_has_room (zb (ze 0) (zb (ze 1) zC))))) (ze 0) [.no,.val (.int k)] (bars.map (jV wd))=some ((bars.filter λb=> !b.has k).map (jV wd)):=by
   refine ja (g:=jV wd) (λb=> !b.has k) (jV wd) bars λb hb=>⟨[.val (jV wd b),.val (.int k)],rfl,?_,λ_=>by rfl⟩;have e:=xK (wd:=wd) (b:=b) (by have:=(I.ok b hb).le;omega) k;simp [e]
  have e4:zO (.nm 0) (sB (zA F_has_room (zb (ze 0) (zb (ze 1) zC)))) (ze 0) [.no,.val (.int k)] (bars.map (jV wd))=some ((zie (wd k)).map λj=>jV wd (A j)):=by
   have:((bars.filter λb=>b.has k).map (jV wd))=(zie (wd k)).map λj=>jV wd (A j):=by rw [eA,ziZ];rfl
   rw [<- this];refine ja (g:=jV wd) (λb=>b.has k) (jV wd) bars λb hb=>⟨[.val (jV wd b),.val (.int k)],rfl,?_,λ_=>by rfl⟩;have e:=xK (wd:=wd) (b:=b) (by have:=(I.ok b hb).le;omega) k;simp [e]
  have e5:zO (.nm 0) zV (zA F_taken_on (zb (ze 1) (zb (ze 2) (zb (ze 0) zC)))) [.no,.val (.int p),.val (qv w wd T k)] ((zie (wd k)).map λi=>jV wd (stB p A (wd k) r B l i))=some ((zie (wd k)).map λi=>jV wd (exB k (stB p A (wd k) r B l i) (nx i))):=by
   refine zw _ _ λi hi=>zx rfl rfl ?_;have hi:=zig.mp hi;have h1:=has_iff.mp (ae i hi);have e:=WW (p:=p) (okS i hi).n1 (by have:=(okS i hi).le;omega) (show k<=20 by omega) (Y i hi).1;simp [e]
  have e6:zO (.nm 0) zV (qj (zb (zq jx (ze 1) (zk (.int 1))) (zb (qj (zb (ze 0) zC)) zC))) [.no,.val (.int k)] (U.map λy=>D.tup (zB (wd (k+1)) y))=some ((U.map (nuB k)).map (jV wd)):=by
   rw [ziZ];refine zw _ _ λy hy=>zx rfl rfl ?_;show _=some (jV wd (nuB k y));rw [zgw];rfl
  have b6:U.length<=lim:=by have:=O (k+1);omega
  have b7:wd k<=lim:=by have:=O k;omega
  let Z:D:= .lst ((bars.filter λb=> !b.has k).map (jV wd));let Se:D:= .lst ((zie (wd k)).map λi=>jV wd (stB p A (wd k) r B l i));let Ol:D:= .lst ((zie (wd k)).map λi=>jV wd (exB k (stB p A (wd k) r B l i) (nx i)));let Ne:D:= .lst ((U.map (nuB k)).map (jV wd));rw [VT];refine jB (zu (γ':=[.val (j9 p m w wd T),.val (.int k),.val L,.val (.int p),.no,.no,.no,.no,.no]) ?_
   (zu (γ':=[.val (j9 p m w wd T),.val (.int k),.val L,.val (.int p),.val (qv w wd T k),.no,.no,.no,.no]) ?_
   (zu (γ':=[.val (j9 p m w wd T),.val (.int k),.val L,.val (.int p),.val (qv w wd T k),.val Z,.no,.no,.no]) ?_
   (zu (γ':=[.val (j9 p m w wd T),.val (.int k),.val L,.val (.int p),.val (qv w wd T k),.val Z,.val Se,.no,.no]) ?_
   (zu (γ':=[.val (j9 p m w wd T),.val (.int k),.val L,.val (.int p),.val (qv w wd T k),.val Z,.val Se,.val Ol,.no]) ?_
   (zu (γ':=[.val (j9 p m w wd T),.val (.int k),.val L,.val (.int p),.val (qv w wd T k),.val Z,.val Se,.val Ol,.val Ne]) ?_ ?_))))))
  ·simp [gr1,je,zii,xQ,L]
  ·simp [gr2,xQ,wu,aa]
  ·simp [gr3,zT,L,ac,e3,Z]
  ·simp [gr4,zT,L,ac,e4,eS,Se]
  ·simp [gr5,zT,Se,b7,e5,Ol]
  ·simp [gr6,zT,eN,b6]
   rw [e6];simp [Ne]
  ·have ba:(bars.filter λb=> !b.has k).length<=100:=zjt (zlv _ _) ah
   have q1:=O k;have q2:=O (k+1);cases hw:w k with
   | false=>
    have eq:=wj false;have h1:U.length+wd k<=lim:=by omega
    have h2:(bars.filter λb=> !b.has k).length+(U.length+wd k)<=lim:=by omega
    simp [gr7,xw,hw,eq,Z,Ol,Ne,kI,h1,h2]
   | true=>
    have eq:=wj true;have h1:wd k+U.length<=lim:=by omega
    have h2:(bars.filter λb=> !b.has k).length+(wd k+U.length)<=lim:=by omega
    simp [gr7,xw,hw,eq,Z,Ol,Ne,kI,h1,h2]
end
section
variable{wd:Nat->Nat}{m k:Nat}{p:Int}{w:Nat->Bool}{T:Nat->Nat->Nat->Int}
def WJ(c:Nat):Bar:=⟨0,1,λ_=>jG c⟩
theorem zc8(U:Pr p):BrInv p w wd T 0 ((zie (wd 0)).map WJ):=by
 have two:=U.two;have mem : ∀b,b∈(zie (wd 0)).map WJ ↔ ∃c,c<wd 0/\b=WJ c:=λb=>by
  rw [ziB];exact⟨λ⟨c,h1,h2⟩=>⟨c,zig.mp h1,h2.symm⟩,λ⟨c,h1,h2⟩=>⟨c,zig.mpr h1,h2.symm⟩⟩
 have S : ∀c,(WJ c).has 0=true:=λc=>has_iff.mpr ⟨zim _,by show 0<0+1;omega⟩;refine⟨λb I=>?_,λr Y v=>?_,λr Y=>?_,?_⟩
 ·obtain⟨c,O,rfl⟩:=(mem b).mp I
  exact⟨zim _,by show 0+1<=0+1;omega,λr i _ _=>by show 0<=jG c i/\jG c i<p;unfold jG;split<;>omega,λj hj=>by omega⟩
 ·have:r=0:=by omega
  subst this;refine(J9 (wd 0) v).le λg Z=>?_;obtain⟨c,O,rfl⟩:=Z;exact .gen ⟨WJ c,(mem _).mpr ⟨c,O,rfl⟩,S c,rfl⟩
 ·have:r=0:=by omega
  subst this;rw [List.countP_eq_length.mpr λb I=>?_]
  ·simp
  ·obtain⟨c,O,rfl⟩:=(mem b).mp I
   exact S c
 ·refine zle _ ?_
  rw [zkJ];exact zj0.mpr λ_ _ _ _ _=>⟨λz=>absurd z (zi8 0),λz=>absurd z (zi8 0)⟩
def ag1:CO Fl:=(z5 1 (jq (zE (zD (zH (sIx (zH (zA F_same_table (zb (sIx (zH (sIx (zf 0) (zk (.int 1)))) (zk (.int 0))) zC))) (zk (.int 2))))) (.nm 0) 1 [] zV (qj (zb (zk (.int 0)) (zb (qj (zb (ze 0) zC)) zC))))))
def ag2:CO Fl:=(xT (zR (qw (zH (sIx (zf 0) (zk (.int 2)))))) (.nm 2) (z5 1 (zA F_grown (zb (ze 0) (zb (ze 2) (zb (ze 1) zC))))))
def ag3:CO Fl:=(xC (XG F_stretch_of (zf 1)))
theorem Jd:F_all_grown=jC 3 (zJ ag1 (zJ ag2 ag3)):=rfl
def Jj(b:Bar):Int×Int:=((b.s:Int),((b.s+b.n - 1:Nat):Int))
theorem VB : ∀bars:List Bar,(∀b,b∈bars->1<=b.n/\b.s+b.n<=100)->J2 F_stretch_of (bars.map (jV wd))=some (bars.map Jj)
 | [],_=>rfl
 | b::bars,h=>by
  have h1:=h b ziv;have e:=wV (wd:=wd) h1.1 h1.2;have z:=VB bars λb I=>h b (ziu _ I);simp only [ziK,J2,e,z,zij];rfl
def qU(bars:List Bar):List Bar:=(jO (bars.map Jj)).map λi=>bars.getD i WF
theorem vF(bars:List Bar):(qU bars).Perm bars:=by
 have h:=jA (bars.map Jj);rw [ziD]at h;have:=h.map λi=>bars.getD i WF;rw [z9]at this;exact this
theorem Jz(bars:List Bar):(qU bars).map Jj=xB (bars.map Jj):=by
 unfold qU xB;rw [ziZ];refine ziy λi hi=>?_;have h:=jA (bars.map Jj);have hi:=zig.mp (h.mem_iff.mp hi);rw [ziD]at hi;simp [hi]
theorem Qw(z:Pr p)(O : ∀k,wd k<=8)(hm:m<=5)(hT : ∀k i j,k<m->i<hiW w wd k->j<wiW w wd k->0<=T k i j/\T k i j<p) :
 ∃bars,BrInv p w wd T m bars/\bars.length<=48/\F_all_grown [j9 p m w wd T]=some (.own ((qU bars).map (jV wd))):=by
 have hl:=jD;have h0:=O 0;have S:wd 0<=lim:=by omega
 have es:=km (n:=wd 0) S;have a2:jE (jf (wd 0) (wd 0) λi j=>if i=j then 1 else 0)=some (.T,[.int (wd 0:Nat),.int (wd 0:Nat),.tup (zS (wd 0) (wd 0) λi j=>if i=j then 1 else 0)]):=rfl;have e1:zO (.nm 0) zV (qj (zb (zk (.int 0)) (zb (qj (zb (ze 0) zC)) zC))) [.no] (zS (wd 0) (wd 0) λi j=>if i=j then 1 else 0)=some (((zie (wd 0)).map WJ).map (jV wd)):=by
  rw [ziZ];unfold zS;refine zw _ _ λi hi=>zx rfl rfl ?_;show some _=some (jV wd (WJ i));unfold jV WJ xf;simp;rfl
 have x1:ag1 (je 3 [j9 p m w wd T])=some (.next [.val (j9 p m w wd T),.val (.lst (((zie (wd 0)).map WJ).map (jV wd))),.no]):=by
  simp [ag1,je,zii,xQ,es,a2,zT,S];rw [e1];simp
 obtain⟨γ',x2,bars,c,I,a4,rfl⟩:=yB (T:= .nm 2) (F:=z5 1 (zA F_grown (zb (ze 0) (zb (ze 2) (zb (ze 1) zC))))) (f:=qw (zH (sIx (zf 0) (zk (.int 2)))))
  (λj γ=>∃bars c,BrInv p w wd T j bars/\bars.length<=8*(j+1)/\γ=[.val (j9 p m w wd T),.val (.lst (bars.map (jV wd))),c]) m ⋯ (γ:=[.val (j9 p m w wd T),.val (.lst (((zie (wd 0)).map WJ).map (jV wd))),.no])
  (by simp [xQ]) ⟨_,_,zc8 z,by simp;omega,rfl⟩ λs U γ hγ=>by
    obtain⟨bars,c,I,a4,rfl⟩:=hγ;obtain⟨Y,I',h',e⟩:=za4 (T:=T) (w:=w) (k:=s) z O hm U (hT s · · U) I ⋯;refine⟨_,[.val (j9 p m w wd T),.val (.lst (Y.map (jV wd))),.val (.int s)],rfl,?_,Y,_,I',by omega,rfl⟩;simp [e]
 refine⟨bars,I,by omega,?_⟩;have ek:=VB (wd:=wd) bars λb Z=>⟨(I.ok b Z).n1,by have:=(I.ok b Z).le;omega⟩;rw [Jd];refine jB (zu x1 (zu (show ag2 _=_ from x2) ?_));have a8:bars.length<64:=by omega
 unfold ag3;have e3:XG F_stretch_of (zf 1) [.val (j9 p m w wd T),.val (.lst (bars.map (jV wd))),c]=some ((qU bars).map (jV wd)):=by
  show((J2 F_stretch_of (bars.map (jV wd))).bind λps=>if (bars.map (jV wd)).length<64 then some ((jO ps).map λi=>(bars.map (jV wd)).getD i .non)else none)=_;rw [ek];simp only [zij,ziD,a8,if_true];congr 1;unfold qU;rw [ziZ];refine ziy λi hi=>?_;have h:=jA (bars.map Jj);have hi:=zig.mp (h.mem_iff.mp hi);rw [ziD]at hi;simp [hi]
 rw [Xl,e3];rfl
theorem BrInv.perm{bars z:List Bar}(h:z.Perm bars)(I:BrInv p w wd T k bars):(∀b,b∈z->BarOk p w wd T k b)/\(∀r,r<=k->∀v,Span p (wd r) (GenB z r) v)/\∀r,r<=k->z.countP (λb=>b.has r)=wd r:=by
 refine⟨λb S=>I.ok b (h.mem_iff.mp S),λr O v=>(I.sp r O v).le λg U=>?_,λr O=>?_⟩
 ·obtain⟨b,h1,h2,Y⟩:=U
  exact .gen ⟨b,h.mem_iff.mpr h1,h2,Y⟩
 ·rw [h.countP_eq];exact I.ct r O
end
abbrev TB:=Nat×Nat×(Nat->Nat->Int)
def tD(t:TB):D:=jf t.1 t.2.1 t.2.2
structure GoodT(p:Int)(t:TB):Prop where
 h:t.1<=60
 w:t.2.1<=60
 e : ∀i j,i<t.1->j<t.2.1->0<=t.2.2 i j/\t.2.2 i j<p
def QJ(n:Nat):D:=jf n n λi j=>if i=j then 1 else 0
def zcw(p:Int)(n:Nat)(t u:TB):D:=jf n n λi j=>zo (λk=>t.2.2 i k*u.2.2 k j) n%p
def isT(p:Int)(n:Nat)(t u:TB):Bool:=decide (t.1=n/\t.2.1=n/\u.1=n/\u.2.1=n) && eqD (zcw p n t u) (QJ n)
theorem zfi{x y:D}(hx:okD x=true)(z:okD y=true):dEq x y=some (.bl (eqD x y)):=by unfold dEq;rw [if_pos ⟨hx,z⟩]
theorem Wd{x y:D}(hx:okD x=true)(z:okD y=true):dNe x y=some (.bl (!eqD x y)):=by unfold dNe;rw [if_pos ⟨hx,z⟩]
theorem Zc(bs):okD (.lst (jy bs))=true:=Zb (n:=2) (by
 simp only [deep];have:deeps (jy bs)<=1:=qE λd hd=>by
  simp only [jy,ziB]at hd;obtain⟨b,_,rfl⟩:=hd;simp [deep,deeps]
 omega) ⋯ (by
 simp only [okS];exact xH λd hd=>by
  simp only [jy,ziB]at hd;obtain⟨b,_,rfl⟩:=hd;rfl)
def d0T:TB:=(0,0,λ_ _=>0)
def vZ(m:Nat)(ts us:List TB):Bool:=decide (ts.length=m+1/\us.length=m+1)
def zbs(p:Int)(m:Nat)(wd:Nat->Nat)(ts us:List TB):Bool:=(zie (m+1)).all λk=>isT p (wd k) (ts.getD k d0T) (us.getD k d0T)
def qN(bs:List (Int×Int))(ts us:List TB):D:= .tup [.lst (jy bs),.lst (ts.map tD),.lst (us.map tD)]
theorem vd{n:Nat}{ts:List TB}(h:ts.length=n):ts.map tD=(zie n).map λk=>tD (ts.getD k d0T):=by
 conv=>lhs;rw [<- z9 d0T ts]
 rw [ziZ,h];rfl
theorem wf{p:Int}{ts:List TB}(h : ∀t∈ts,GoodT p t){k:Nat}(z:k<ts.length):GoodT p (ts.getD k d0T):=by
 rw [zil,zih z];exact h _ (zka z)
section
variable{p:Int}{m:Nat}{w:Nat->Bool}{wd:Nat->Nat}{T:Nat->Nat->Nat->Int}{bs:List (Int×Int)}{ts us:List TB}
def fT(ts:List TB)(k:Nat):Nat->Nat->Int:=(ts.getD k d0T).2.2
theorem Xp(h:zbs p m wd ts us=true){k:Nat}(z:k<m+1):isT p (wd k) (ts.getD k d0T) (us.getD k d0T)=true:=zjG.mp h k (zig.mpr z)
theorem v9{n:Nat}{t u:TB}(h:isT p n t u=true):t.1=n/\t.2.1=n/\u.1=n/\u.2.1=n:=by
 unfold isT at h;rw [Bool.and_eq_true]at h;exact of_decide_eq_true h.1
theorem KA(O:vZ m ts us=true)(h:zbs p m wd ts us=true):ts.map tD=qu (m+1) wd (fT ts)/\us.map tD=qu (m+1) wd (fT us):=by
 have I:ts.length=m+1/\us.length=m+1:=of_decide_eq_true O;rw [vd I.1,vd I.2];unfold qu;refine⟨ziy λk z=>?_,ziy λk z=>?_⟩
 ·have q:=v9 (Xp h (zig.mp z))
  show jf _ _ _=_;rw [q.1,q.2.1];rfl
 ·have q:=v9 (Xp h (zig.mp z))
  show jf _ _ _=_;rw [q.2.2.1,q.2.2.2];rfl
theorem zda(z:vZ m ts us=true)(h:zbs p m wd ts us=true)(I : ∀t∈us,GoodT p t) : ∀k i j,k<m+1->i<wd k->j<wd k->0<=fT us k i j/\fT us k i j<p:=λk i j O hi S=>by
 have U:ts.length=m+1/\us.length=m+1:=of_decide_eq_true z;have q:=v9 (Xp h O);have g:=wf I (k:=k) ⋯;exact g.e i j (by rw [q.2.2.1];exact hi) (by rw [q.2.2.2];exact S)
def W3(p:Int)(m:Nat)(w:Nat->Bool)(wd:Nat->Nat)(T:Nat->Nat->Nat->Int)(bs:List (Int×Int))(ts us:List TB):Bool:=
 (VU ((m+1:Nat):Int) bs && kR bs) && (vZ m ts us && zbs p m wd ts us) && eqD (j9 p m w wd (jT p w wd (fT ts) (fT us) T)) (BR p m w bs)
end
def pr1:CO Fl:=(JB (.tp [2,3,4]) (ze 0))
def pr2:CO Fl:=(sIf (qX (jc (sB (sIs .tuple (ze 1)))) (qX (sB (zq dNe (qw (zf 1)) (zk (.int 3)))) (jc (sB (WH (zX (zE (zD (zf 1)) (.nm 0) 1 [] zV (sIs .list (ze 0))))))))) (jK (zk (.bl false))) jh)
def pr3:CO Fl:=(JB (.tp [5,6,7]) (ze 1))
def pr4:CO Fl:=(xT (zD (zH (ze 5))) (.nm 8) (zJ (sIf (qX (jc (sB (sIs .tuple (ze 8)))) (qX (sB (zq dNe (qw (zf 8)) (zk (.int 2)))) (qX (jc (sB (zA F_law_whole (zb (sIx (zf 8) (zk (.int 0))) zC)))) (jc (sB (zA F_law_whole (zb (sIx (zf 8) (zk (.int 1))) zC))))))) (jK (zk (.bl false))) jh) (sIf (jc (sB (yo dLe dLe dLt (zk (.int 0)) (sIx (zf 8) (zk (.int 0))) (sIx (zf 8) (zk (.int 1))) (qw (zf 3))))) (jK (zk (.bl false))) jh)))
def pr5:CO Fl:=(sIf (qX (sB (zq dNe (ze 5) (jq (w4 (zf 5))))) (qX (sB (zq dNe (qw (zf 6)) (qw (zf 3)))) (sB (zq dNe (qw (zf 7)) (qw (zf 3)))))) (jK (zk (.bl false))) jh)
def pr6:CO Fl:=(xT (W4 (ze 3) (ze 6) (ze 7)) (.tp [9,10,11]) (zJ (sIf (qX (jc (sB (zA F_law_is_table_32 (zb (ze 2) (zb (ze 10) (zb (ze 9) (zb (ze 9) zC))))))) (jc (sB (zA F_law_is_table_32 (zb (ze 2) (zb (ze 11) (zb (ze 9) (zb (ze 9) zC)))))))) (jK (zk (.bl false))) jh) (sIf (sB (zq dNe (zA F_law_times_32 (zb (ze 2) (zb (ze 10) (zb (ze 11) zC)))) (zA F_law_same_32 (zb (ze 9) zC)))) (jK (zk (.bl false))) jh)))
def pr7:CO Fl:=(jK (zq dEq (zA F_law_in_turns_32 (zb (ze 0) (zb (ze 6) (zb (ze 7) zC)))) (zA F_law_bar_row (zb (ze 2) (zb (YT (zk (.str "")) (zX (zE (zD (zf 4)) (.nm 0) 1 [] zV (sIx (zf 0) (zk (.int 0)))))) (zb (ze 5) zC))))))
theorem zeo:F_law_paper_right=jC 12 (zJ pr1 (zJ pr2 (zJ pr3 (zJ pr4 (zJ pr5 (zJ pr6 pr7)))))):=rfl
def zhn:CO Fl:=(zJ (sIf (qX (jc (sB (sIs .tuple (ze 8)))) (qX (sB (zq dNe (qw (zf 8)) (zk (.int 2)))) (qX (jc (sB (zA F_law_whole (zb (sIx (zf 8) (zk (.int 0))) zC)))) (jc (sB (zA F_law_whole (zb (sIx (zf 8) (zk (.int 1))) zC))))))) (jK (zk (.bl false))) jh) (sIf (jc (sB (yo dLe dLe dLt (zk (.int 0)) (sIx (zf 8) (zk (.int 0))) (sIx (zf 8) (zk (.int 1))) (qw (zf 3))))) (jK (zk (.bl false))) jh))
def zdC:CO Fl:=(sIf (qX (jc (sB (zA F_law_is_table_32 (zb (ze 2) (zb (ze 10) (zb (ze 9) (zb (ze 9) zC))))))) (jc (sB (zA F_law_is_table_32 (zb (ze 2) (zb (ze 11) (zb (ze 9) (zb (ze 9) zC)))))))) (jK (zk (.bl false))) jh)
def zfJ:CO Fl:=(sIf (sB (zq dNe (zA F_law_times_32 (zb (ze 2) (zb (ze 10) (zb (ze 11) zC)))) (zA F_law_same_32 (zb (ze 9) zC)))) (jK (zk (.bl false))) jh)
def zhm:CO Fl:=zJ zdC zfJ
theorem Xa{α:Type}{T:Tg}{F:CO Fl}{g:α->D}{t:α->Bool}{r:Res}(P:Ctx->Prop) : ∀(l:List α) {γ:Ctx},P γ->
 (∀a∈l,∀γ,P γ->∃I,qB T (g a) γ=some I/\((t a=true->∃O,F I=some (.next O)/\P O)/\(t a=false->F I=some (.ret r))))->
 (l.all t=true->∃γ',qh T F (l.map g) γ=some (.next γ')/\P γ')/\(l.all t=false->qh T F (l.map g) γ=some (.ret r))
 | [],γ,hp,_=>⟨λ_=>⟨γ,rfl,hp⟩,λh=>by cases h⟩
 | a::l,γ,hp,h=>by
  obtain⟨I,e1,h1,h2⟩:=h a (ziv ..) γ hp;cases ht:t a with
  | true=>
   obtain⟨O,S,U⟩:=h1 ht;have Y:=Xa P l U λb Z=>h b (ziu _ Z);have e:qh T F ((a::l).map g) γ=qh T F (l.map g) O:=by
    rw [ziK,jQ,e1];simp only [zij,S]
   rw [e,zkV,ht,zkX];exact Y
  | false=>
   refine⟨λz=>?_,λ_=>?_⟩
   ·rw [zkV,ht,zkO]at z;cases z
   ·rw [ziK,jQ,e1]
    simp only [zij,h2 ht]
section
variable{p:Int}{m:Nat}{w:Nat->Bool}{wd:Nat->Nat}{T:Nat->Nat->Nat->Int}{bs:List (Int×Int)}{ts us:List TB}
abbrev prc(p:Int)(m:Nat)(w:Nat->Bool)(wd:Nat->Nat)(T:Nat->Nat->Nat->Int)(bs:List (Int×Int))(ts us:List TB)(c8 c9 c10 c11:Cell):Ctx:=[.val (j9 p m w wd T),.val (qN bs ts us),.val (.int p),.val (.tup (zB (m+1) λk=>(wd k:Int))),.val (.tup (jH m w wd T)),.val (.lst (jy bs)),.val (.lst (ts.map tD)),.val (.lst (us.map tD)),c8,c9,c10,c11]
theorem zfI:pr1 (je 12 [j9 p m w wd T,qN bs ts us])=some (.next [.val (j9 p m w wd T),.val (qN bs ts us),.val (.int p),.val (.tup (zB (m+1) λk=>(wd k:Int))),.val (.tup (jH m w wd T)),.no,.no,.no,.no,.no,.no,.no]):=rfl
theorem zfH:pr2 [.val (j9 p m w wd T),.val (qN bs ts us),.val (.int p),.val (.tup (zB (m+1) λk=>(wd k:Int))),.val (.tup (jH m w wd T)),.no,.no,.no,.no,.no,.no,.no]=some (.next [.val (j9 p m w wd T),.val (qN bs ts us),.val (.int p),.val (.tup (zB (m+1) λk=>(wd k:Int))),.val (.tup (jH m w wd T)),.no,.no,.no,.no,.no,.no,.no]):=rfl
theorem zfG:pr3 [.val (j9 p m w wd T),.val (qN bs ts us),.val (.int p),.val (.tup (zB (m+1) λk=>(wd k:Int))),.val (.tup (jH m w wd T)),.no,.no,.no,.no,.no,.no,.no]=some (.next (prc p m w wd T bs ts us .no .no .no .no)):=rfl
theorem pr_4:(VU ((m+1:Nat):Int) bs=true->∃c8,pr4 (prc p m w wd T bs ts us .no .no .no .no)=some (.next (prc p m w wd T bs ts us c8 .no .no .no)))/\(VU ((m+1:Nat):Int) bs=false->pr4 (prc p m w wd T bs ts us .no .no .no .no)=some (.ret (.val (.bl false)))):=by
 have q:=Xa (T:= .nm 8) (F:=zhn) (g:=λb:Int×Int=>D.tup [.int b.1,.int b.2]) (t:=zfD ((m+1:Nat):Int)) (r:= .val (.bl false)) (λγ=>∃c8,γ=prc p m w wd T bs ts us c8 .no .no .no) bs (γ:=prc p m w wd T bs ts us .no .no .no .no) ⟨_,rfl⟩ (by
  rintro⟨a,b⟩ _ γ ⟨c8,rfl⟩;refine⟨prc p m w wd T bs ts us (.val (.tup [.int a,.int b])) .no .no .no,rfl,?_⟩;have U:(sIf (qX (jc (sB (sIs .tuple (ze 8)))) (qX (sB (zq dNe (qw (zf 8)) (zk (.int 2)))) (qX (jc (sB (zA F_law_whole (zb (sIx (zf 8) (zk (.int 0))) zC)))) (jc (sB (zA F_law_whole (zb (sIx (zf 8) (zk (.int 1))) zC))))))) (jK (zk (.bl false))) jh) (prc p m w wd T bs ts us (.val (.tup [.int a,.int b])) .no .no .no)=some (.next (prc p m w wd T bs ts us (.val (.tup [.int a,.int b])) .no .no .no)):=rfl;have wl:(zB (m+1) λk=>(wd k:Int)).length=m+1:=by simp [zB]
  have Z:ixD 2 0=some 0:=rfl;have i1:ixD 2 1=some 1:=rfl;have Y:jc (sB (yo dLe dLe dLt (zk (.int 0)) (sIx (zf 8) (zk (.int 0))) (sIx (zf 8) (zk (.int 1))) (qw (zf 3)))) (prc p m w wd T bs ts us (.val (.tup [.int a,.int b])) .no .no .no)=some (!zfD ((m+1:Nat):Int) (a,b)):=by
   simp only [prc,Jc,WL,Ww,xz,yI,j5,Wu,zin,zio,ziQ,zjd,zi1,zjL,z6,jS,zij,ziC,qc,Z,i1,wl,zdi,zdh,Zo];unfold zfD;by_cases h1:0<=a
   ·by_cases h2:a<=b
    ·by_cases O:b<((m+1:Nat):Int)
     ·have I:0<=a/\a<((m+1:Nat):Int)/\0<=b/\b<((m+1:Nat):Int)/\a<=b:=⟨h1,by omega,by omega,O,h2⟩
      rw [decide_eq_true h1,decide_eq_true h2,decide_eq_true O,decide_eq_true I];rfl
     ·have I : ¬(0<=a/\a<((m+1:Nat):Int)/\0<=b/\b<((m+1:Nat):Int)/\a<=b):=λz=>O z.2.2.2.1
      rw [decide_eq_true h1,decide_eq_true h2,decide_eq_false O,decide_eq_false I];rfl
    ·have I : ¬(0<=a/\a<((m+1:Nat):Int)/\0<=b/\b<((m+1:Nat):Int)/\a<=b):=λz=>h2 z.2.2.2.2
     rw [decide_eq_true h1,decide_eq_false h2,decide_eq_false I];rfl
   ·have I : ¬(0<=a/\a<((m+1:Nat):Int)/\0<=b/\b<((m+1:Nat):Int)/\a<=b):=λz=>h1 z.1
    rw [decide_eq_false h1,decide_eq_false I];rfl
  refine⟨λS=>⟨prc p m w wd T bs ts us (.val (.tup [.int a,.int b])) .no .no .no,?_,_,rfl⟩,λS=>?_⟩
  ·refine zu U ?_
   rw [yJ,Y,S];rfl
  ·refine zu U ?_
   rw [yJ,Y,S];rfl)
 have e:pr4 (prc p m w wd T bs ts us .no .no .no .no)=qh (.nm 8) zhn (bs.map λb:Int×Int=>D.tup [.int b.1,.int b.2]) (prc p m w wd T bs ts us .no .no .no .no):=rfl;rw [e];refine⟨λh=>?_,λh=>q.2 h⟩;obtain⟨γ',e1,c8,rfl⟩:=q.1 h;exact⟨c8,e1⟩
theorem zh1(I:bs.length<64)(c8:Cell):pr5 (prc p m w wd T bs ts us c8 .no .no .no)=if (kR bs && vZ m ts us)=true then some (.next (prc p m w wd T bs ts us c8 .no .no .no))else some (.ret (.val (.bl false))):=by
 have O:=YL I;have q:=Wd (Zc bs) (Zc (xB bs));have S:dNe (.lst (jy bs)) (.lst (jy (xB bs)))=some (.bl (!kR bs)):=by
  rw [q,show eqD (.lst (jy bs)) (.lst (jy (xB bs)))=eqDs (jy bs) (jy (xB bs))from rfl,Qd];rfl
 have wl:(zB (m+1) λk=>(wd k:Int)).length=m+1:=by simp [zB]
 have U : ∀a b:Int,dNe (.int a) (.int b)=some (.bl (!(a==b))):=λa b=>by
  rw [Wd rfl rfl];rfl
 have Y:(qX (sB (zq dNe (ze 5) (jq (w4 (zf 5))))) (qX (sB (zq dNe (qw (zf 6)) (qw (zf 3)))) (sB (zq dNe (qw (zf 7)) (qw (zf 3)))))) (prc p m w wd T bs ts us c8 .no .no .no)=some (!(kR bs && vZ m ts us)):=by
  simp only [prc,Qu,WL,kj,Zq,zbk,Wu,j5,qi,zin,zio,z6,zQ,yi,jS,zij,ziC,ziD,O,S,U,Zo,wl];unfold vZ;cases kR bs with
  | false=>rfl
  | true=>
   by_cases h1:ts.length=m+1<;>by_cases h2:us.length=m+1<;>simp [h1,h2,Int.natCast_inj]
   ·intro z;omega
   ·intro z;omega
   ·intro z;omega
 unfold pr5;rw [yJ,Y];cases kR bs && vZ m ts us<;>rfl
theorem zh0(p0:0<p)(p7:p<=7)(hm:m<=5)(a9 : ∀k,wd k<=60)(ht : ∀t∈ts,GoodT p t)(hu : ∀t∈us,GoodT p t)(hl:vZ m ts us=true)(c8:Cell):(zbs p m wd ts us=true->∃c9 c10 c11,pr6 (prc p m w wd T bs ts us c8 .no .no .no)=some (.next (prc p m w wd T bs ts us c8 c9 c10 c11)))/\(zbs p m wd ts us=false->pr6 (prc p m w wd T bs ts us c8 .no .no .no)=some (.ret (.val (.bl false)))):=by
 have hc:ts.length=m+1/\us.length=m+1:=of_decide_eq_true hl;have q:=Xa (T:= .tp [9,10,11]) (F:=zhm) (g:=λk:Nat=>D.tup [.int (wd k:Int),tD (ts.getD k d0T),tD (us.getD k d0T)]) (t:=λk=>isT p (wd k) (ts.getD k d0T) (us.getD k d0T)) (r:= .val (.bl false)) (λγ=>∃c9 c10 c11,γ=prc p m w wd T bs ts us c8 c9 c10 c11) (zie (m+1)) (γ:=prc p m w wd T bs ts us c8 .no .no .no) ⟨_,_,_,rfl⟩ (by
  rintro k hk γ ⟨c9,c10,c11,rfl⟩;have hk:=zig.mp hk;have gt:=wf ht (k:=k) ⋯;have Z:=wf hu (k:=k) ⋯;have hn:=a9 k;refine⟨prc p m w wd T bs ts us c8 (.val (.int (wd k:Int))) (.val (tD (ts.getD k d0T))) (.val (tD (us.getD k d0T))),rfl,?_⟩;generalize ts.getD k d0T=t at gt ⊢;generalize us.getD k d0T=u at Z ⊢;generalize wd k=n at hn ⊢;obtain⟨th,S,I⟩:=t;obtain⟨U,Y,O⟩:=u;have af:th<=60:=gt.h;have ag:S<=60:=gt.w;have ah:U<=60:=Z.h;have ai:Y<=60:=Z.w;have b1:=Zg (p:=p) I (show th<=400 by omega) (show S<=400 by omega) gt.e n n;have b2:=Zg (p:=p) O (show U<=400 by omega) (show Y<=400 by omega) Z.e n n;have b3:=QD (p:=p) (h:=n) (m:=n) (w:=n) I O p0 ⋯ ⋯ ⋯;have b4:=zdW (n:=n) ⋯;show(isT p n (th,S,I) (U,Y,O)=true->_)/\(isT p n (th,S,I) (U,Y,O)=false->_);have a6:(qX (jc (sB (zA F_law_is_table_32 (zb (ze 2) (zb (ze 10) (zb (ze 9) (zb (ze 9) zC))))))) (jc (sB (zA F_law_is_table_32 (zb (ze 2) (zb (ze 11) (zb (ze 9) (zb (ze 9) zC)))))))) (prc p m w wd T bs ts us c8 (.val (.int (n:Int))) (.val (jf th S I)) (.val (jf U Y O)))=some (!decide (th=n/\S=n/\U=n/\Y=n)):=by
   simp only [prc,Qu,Jc,WL,yK,j6,xy,qi,zin,zio,zQ,zij,ziC,b1,b2,zbC,Zo];by_cases h1:th=n<;>by_cases h2:S=n<;>by_cases h3:U=n<;>by_cases h4:Y=n<;>simp [h1,h2,h3,h4]
  by_cases hd:th=n/\S=n/\U=n/\Y=n
  ·have a1:zdC (prc p m w wd T bs ts us c8 (.val (.int (n:Int))) (.val (jf th S I)) (.val (jf U Y O)))=some (.next (prc p m w wd T bs ts us c8 (.val (.int (n:Int))) (.val (jf th S I)) (.val (jf U Y O)))):=by
    unfold zdC;rw [yJ,a6,decide_eq_true hd];rfl
   obtain⟨h1,h2,h3,h4⟩:=hd;replace h1:=h1.symm;replace h2:=h2.symm;replace h3:=h3.symm;replace h4:=h4.symm;subst h1 h2 h3 h4;have b3:=b3 (λi j hi hj=>by have:=Z.e i j hi hj;simp only at this;omega);have ne:=Wd (QW n n λi j=>zo (λk=>I i k*O k j) n%p) (QW n n λi j=>if i=j then 1 else 0);have a7:sB (zq dNe (zA F_law_times_32 (zb (ze 2) (zb (ze 10) (zb (ze 11) zC)))) (zA F_law_same_32 (zb (ze 9) zC))) (prc p m w wd T bs ts us c8 (.val (.int (n:Int))) (.val (jf n n I)) (.val (jf n n O)))=some (!isT p n (n,n,I) (n,n,O)):=by
    simp only [prc,WL,kj,yK,j6,xy,qi,zin,zio,zQ,zij,ziC,b3,b4,zbC,ne,Zo,isT,zcw,QJ,and_self,decide_true,zkX]
   refine⟨λz=>⟨prc p m w wd T bs ts us c8 (.val (.int (n:Int))) (.val (jf n n I)) (.val (jf n n O)),?_,_,_,_,rfl⟩,λz=>?_⟩
   ·refine zu a1 ?_
    unfold zfJ;rw [yJ,a7,z];rfl
   ·refine zu a1 ?_
    unfold zfJ;rw [yJ,a7,z];rfl
  ·have e:isT p n (th,S,I) (U,Y,O)=false:=by
    unfold isT;rw [decide_eq_false hd];rfl
   have a1:zdC (prc p m w wd T bs ts us c8 (.val (.int (n:Int))) (.val (jf th S I)) (.val (jf U Y O)))=some (.ret (.val (.bl false))):=by
    unfold zdC;rw [yJ,a6,decide_eq_false hd];rfl
   refine⟨λz=>?_,λ_=>?_⟩
   ·rw [e]at z;cases z
   ·show zJ zdC zfJ (prc p m w wd T bs ts us c8 (.val (.int (n:Int))) (.val (jf th S I)) (.val (jf U Y O)))=_
    rw [jb,a1];rfl)
 have z:Jl (zB (m+1) λk=>(wd k:Int)) (ts.map tD) (us.map tD)=(zie (m+1)).map λk=>D.tup [.int (wd k:Int),tD (ts.getD k d0T),tD (us.getD k d0T)]:=by
  rw [vd hc.1,vd hc.2];unfold Jl zB;rw [zkz,zkz,ziZ];rfl
 have e:pr6 (prc p m w wd T bs ts us c8 .no .no .no)=qh (.tp [9,10,11]) zhm ((zie (m+1)).map λk=>D.tup [.int (wd k:Int),tD (ts.getD k d0T),tD (us.getD k d0T)]) (prc p m w wd T bs ts us c8 .no .no .no):=by
  rw [<- z];rfl
 rw [e];refine⟨λh=>?_,λh=>q.2 h⟩;obtain⟨γ',e1,c9,c10,c11,rfl⟩:=q.1 h;exact⟨c9,c10,c11,e1⟩
theorem wI(U:0<p)(Y:p<=7)(hm:m<=5)(Z : ∀k,wd k<=60)(hT : ∀k i j,k<m->i<hiW w wd k->j<wiW w wd k->0<=T k i j/\T k i j<p)(hb:bs.length<64)(ht : ∀t∈ts,GoodT p t)(hu : ∀t∈us,GoodT p t) :
 F_law_paper_right [j9 p m w wd T,qN bs ts us]=some (.val (.bl (W3 p m w wd T bs ts us))):=by
 have hl:=jD;rw [zeo];unfold W3;cases g1:VU ((m+1:Nat):Int) bs with
 | false=>
  simp only [zkO];exact jB (zu zfI (zu zfH (zu zfG (by rw [jb,pr_4.2 g1];rfl))))
 | true=>
  obtain⟨c8,S⟩:=(pr_4 (p:=p) (w:=w) (wd:=wd) (T:=T) (ts:=ts) (us:=us)).1 g1;have z:=zh1 (p:=p) (m:=m) (w:=w) (wd:=wd) (T:=T) (ts:=ts) (us:=us) hb c8;cases g2:(kR bs && vZ m ts us)with
  | false=>
   rw [g2,if_neg ⋯]at z;have e:(true && kR bs && (vZ m ts us && zbs p m wd ts us) && eqD (j9 p m w wd (jT p w wd (fT ts) (fT us) T)) (BR p m w bs))=false:=by
    rw [zkX,<- Bool.and_assoc,g2,zkO,zkO]
   rw [e];exact jB (zu zfI (zu zfH (zu zfG (zu S (by rw [jb,z];rfl)))))
  | true=>
   rw [g2,if_pos rfl]at z;rw [Bool.and_eq_true]at g2;obtain⟨g2,I⟩:=g2;have O:=zh0 (w:=w) (T:=T) (bs:=bs) U Y hm Z ht hu I c8;cases g4:zbs p m wd ts us with
   | false=>
    simp only [Bool.and_false,zkO];exact jB (zu zfI (zu zfH (zu zfG (zu S (zu z (by rw [jb,O.2 g4];rfl))))))
   | true=>
    obtain⟨c9,c10,c11,O⟩:=O.1 g4;rw [g2,I];simp only [zkX,zlm];obtain⟨t1,t2⟩:=KA I g4;have it:=Yb (f:=fT ts) U Y hm Z hT (zda I g4 hu);rw [<- t1,<- t2]at it;have rb:=va (p:=p) (w:=w) hm hb;have q:=zfi (zcP p m w wd (jT p w wd (fT ts) (fT us) T)) (zeO (p:=p) (m:=m) (w:=w) (bs:=bs));have jn:YT (zk (.str "")) (zX (zE (zD (zf 4)) (.nm 0) 1 [] zV (sIx (zf 0) (zk (.int 0))))) (prc p m w wd T bs ts us c8 c9 c10 c11)=some (.str (Qz m w)):=by
     have a2:m<=lim:=by omega
     have st:wF ((zie m).map λk=>D.str (qY (wch (w k))))=some ((zie m).map λk=>qY (wch (w k))):=XD _ _;have sh:((zie m).map λk=>qY (wch (w k))).all jF=true:=by
      simp only [zjG];intro x hx;obtain⟨k,_,rfl⟩:=ziB.mp hx;unfold wch;split<;>decide
     have s0:jF "" = true:=by decide +kernel
     simp only [prc,zdt,xz,kN,qr,qQ,j5,zin,zio,z6,jS,zij,ziC];rw [Qt,if_pos a2,show zT 1 [] (prc p m w wd T bs ts us c8 c9 c10 c11)=[Cell.no]from rfl,Ys];simp only [ziC,zij,st];rw [if_pos ⟨by simpa using a2,sh,s0⟩];rfl
    have s7:pr7 (prc p m w wd T bs ts us c8 c9 c10 c11)=some (.ret (.val (.bl (eqD (j9 p m w wd (jT p w wd (fT ts) (fT us) T)) (BR p m w bs))))):=by
     unfold pr7;rw [Zp,kj,yK,yK,j6,j6,j6,xy,j6,j6,j6,xy,jn];simp only [prc,qi,zin,zio,zQ,zij,ziC,it,rb,zbC,q]
    exact jB (zu zfI (zu zfH (zu zfG (zu S (zu z (zu O s7))))))
end
def brW(bs:List (Int×Int))(k:Nat):Nat:=(jz bs k).length
def brT(w:Nat->Bool)(bs:List (Int×Int))(k i j:Nat):Int:=if (jz bs (endR w k)).getD i 0=(jz bs (begR w k)).getD j 0 then 1 else 0
theorem YF(e b:List Nat):zb2 e b=jf e.length b.length λi j=>if e.getD i 0=b.getD j 0 then 1 else 0:=by
 have h : ∀{β:Type} (g:Nat->β) (l:List Nat),l.map g=(zie l.length).map λi=>g (l.getD i 0):=λg l=>by
  conv=>lhs;rw [<- z9 0 l]
  rw [ziZ];rfl
 unfold zb2 jf zS zB;rw [h (λx=>D.tup (b.map λy=>D.int (if x=y then 1 else 0))) e];simp only [h (λy=>D.int _) b]
theorem zfA(p:Int)(m:Nat)(w:Nat->Bool)(bs:List (Int×Int)):BR p m w bs=j9 p m w (brW bs) (brT w bs):=by
 have e:kM m w bs=jH m w (brW bs) (brT w bs):=by
  unfold kM jH;refine ziy λk _=>?_;rw [YF];unfold qv;rw [yT,yM];rfl
 unfold BR j9;rw [e];rfl
theorem zfm{p:Int}(two:2<=p)(w:Nat->Bool)(bs:List (Int×Int))(k i j:Nat):0<=brT w bs k i j/\brT w bs k i j<p:=by
 unfold brT;split<;>omega
theorem WV{p:Int}(z:0<p)(w:Nat->Bool)(wd:Nat->Nat)(f g T:Nat->Nat->Nat->Int)(k i j:Nat):0<=jT p w wd f g T k i j/\jT p w wd f g T k i j<p:=
 ⟨zi5 _ ⋯,ziS _ z⟩
def qt(m:Nat)(wd:Nat->Nat)(f:Nat->Nat->Nat->Int):List TB:=(zie (m+1)).map λk=>(wd k,wd k,f k)
theorem YD(m wd f):(qt m wd f).map tD=qu (m+1) wd f:=by
 unfold qt qu;rw [ziZ];rfl
theorem ZB{m k:Nat}(wd f)(h:k<m+1):(qt m wd f).getD k d0T=(wd k,wd k,f k):=by
 unfold qt;simp [zil,h]
theorem Jt(m wd f):(qt m wd f).length=m+1:=by simp [qt]
theorem VV{m k:Nat}(wd f)(h:k<m+1):fT (qt m wd f) k=f k:=by
 unfold fT;rw [ZB wd f h]
section
variable{p:Int}{m:Nat}{w:Nat->Bool}{wd:Nat->Nat}{f g T:Nat->Nat->Nat->Int}{bs:List (Int×Int)}
theorem wS(I : ∀k,wd k<=60)(S : ∀k i j,k<m+1->i<wd k->j<wd k->0<=f k i j/\f k i j<p) : ∀t∈qt m wd f,GoodT p t:=λt O=>by
 unfold qt at O;obtain⟨k,z,rfl⟩:=ziB.mp O;have z:=zig.mp z;exact⟨I k,I k,λi j hi U=>S k i j z hi U⟩
theorem QP(O:Pr p)(U : ∀b∈bs,zf7 ((m+1:Nat):Int) b)(Y:xB bs=bs)(S : ∀k,k<m+1->Pair p (brW bs k) (f k) (g k)) :
 W3 p m w (brW bs) (jT p w (brW bs) f g (brT w bs)) bs (qt m (brW bs) g) (qt m (brW bs) f)=true:=by
 have p0:=O.pos;have two:=O.two;have Z:VU ((m+1:Nat):Int) bs=true:=zjG.mpr λb h=>by
  have q:=U b h;unfold zf7 at q;exact decide_eq_true ⋯
 have g2:kR bs=true:=decide_eq_true Y.symm;have g3:vZ m (qt m (brW bs) g) (qt m (brW bs) f)=true:=decide_eq_true ⟨Jt ..,Jt ..⟩;have g4:zbs p m (brW bs) (qt m (brW bs) g) (qt m (brW bs) f)=true:=zjG.mpr λk z=>by
  have z:=zig.mp z;show isT p (brW bs k) ((qt m (brW bs) g).getD k d0T) ((qt m (brW bs) f).getD k d0T)=true;rw [ZB _ _ z,ZB _ _ z];unfold isT;have e:zcw p (brW bs k) (brW bs k,brW bs k,g k) (brW bs k,brW bs k,f k)=QJ (brW bs k):=Z2 λi j hi I=>by
   have q:=(S k z).gf i j hi I;show zo (λa=>g k i a*f k a j) (brW bs k)%p=_;rw [q];unfold dlt;split
   ·exact zjn ⋯ ⋯
   ·exact zjn ⋯ ⋯
  rw [e,eqD_refl];simp
 have g5:j9 p m w (brW bs) (jT p w (brW bs) (fT (qt m (brW bs) g)) (fT (qt m (brW bs) f)) (jT p w (brW bs) f g (brT w bs)))=BR p m w bs:=by
  rw [zfA];refine W9 (λ_ _=>rfl) (λ_ _=>rfl) λk i j z hi I=>?_;have q:=YA (w:=w) (T:=brT w bs) S z (yT w (brW bs) k ▸ hi) (yM w (brW bs) k ▸ I) (zfm two w bs k i j);rw [<- q];show jT p w (brW bs) (fT (qt m (brW bs) g)) (fT (qt m (brW bs) f)) _ k i j=_;unfold jT;rw [VV _ _ (Z0 w z),VV _ _ (Jb w z)]
 unfold W3;rw [Z,g2,g3,g4,g5,eqD_refl];rfl
end
section
variable{p:Int}{n:Nat}
theorem WD(hp:Pr p)(hn:n<=20)(f:Nat->Nat->Int) : ∃r B l,IsB p (n+n) r B l/\(∀v,Span p (n+n) (Fam r B) v↔Span p (n+n) (Fam n λi=>xW n (f i) (jG i)) v)/\
 F_back_of [.int p,jf n n f]=some (.val (if eqD (.lst (zS r n B)) (.lst (zS n n jG))=true then .tup [.int n,.int n,.tup (zS r n λk j=>B k (n+j))]else .non)):=by
 have hl:=jD;have z:n<=lim:=by omega
 have a1:n+n<=lim:=by omega
 obtain⟨r,B,l,e,I,a2⟩:=qI hp (show n+n<=100 by omega) z .L λi=>xW n (f i) (jG i);refine⟨r,B,l,I,a2,?_⟩;have O:r<=lim:=by
  have:r<=n+n:=QX I.mono I.lt;omega
 have S:=km (n:=n) z;have rows:zO (.tp [0,1]) zV (zq jx (ze 0) (ze 1)) [Cell.no,Cell.no] ((zie n).map λi=>D.tup [.tup (zB n (f i)),.tup (zB n λk=>if i=k then 1 else 0)])=some (zS n (n+n) λi=>xW n (f i) (jG i)):=by
  unfold zS;refine zw _ _ λj hj=>zx rfl rfl ?_;simp [jx,a1,vj];rfl
 have U:=WN n n f λi j=>if i=j then 1 else 0;have c1:((n:Int)+(n:Int))=((n+n:Nat):Int):=by omega
 simp only [dsq]at e;rw [<- c1]at e;have Y:zO (.nm 0) zV (KI (ze 0) KK (sBd (ze 1))) [Cell.no,Cell.val (.int n)] (zS r (n+n) B)=some (zS r n B):=by
  unfold zS;refine zw _ _ λk hk=>zx rfl rfl ?_;simp [Kj]
 have a5:zO (.nm 0) zV (KI (ze 0) (sBd (ze 1)) KK) [Cell.no,Cell.val (.int n)] (zS r (n+n) B)=some (zS r n λk j=>B k (n+j)):=by
  unfold zS;refine zw _ _ λk hk=>zx rfl rfl ?_;simp [Ki]
 have ne:dNe (.lst (zS r n B)) (.lst (zS n n λi j=>if i=j then 1 else 0))=some (.bl (!eqD (.lst (zS r n B)) (.lst (zS n n jG)))):=by
  unfold dNe;rw [if_pos ⟨XV _ _ _,XV _ _ _⟩];rfl
 have Z : ∀(h w:Nat) (f:Nat->Nat->Int),jE (jf h w f)=some (.T,[.int h,.int w,.tup (zS h w f)]):=λ_ _ _=>rfl;by_cases q:eqD (.lst (zS r n B)) (.lst (zS n n jG))=true
 ·rw [q]at ne
  rw [if_pos q];simp [F_back_of,jC,je,jb,Z,S,U,z,O,zT,qG,zii,rows,e,Y,a5,ne]
 ·have q':eqD (.lst (zS r n B)) (.lst (zS n n jG))=false:=by simpa using q
  rw [q']at ne;rw [if_neg q];simp [F_back_of,jC,je,jb,Z,S,U,z,O,zT,qG,zii,rows,e,Y,ne]
theorem Xs(S:Pr p)(hn:n<=20){f g:Nat->Nat->Int}(h1:Undo p n f g)(h2:Undo p n g f)(bg : ∀i j,i<n->j<n->0<=g i j/\g i j<p):F_back_of [.int p,jf n n f]=some (.val (jf n n g)):=by
 obtain⟨r,B,l,hb,a0,e⟩:=WD S hn f;have two:=S.two;have one:=S.one;have a4:IsB p (n+n) n (λk=>xW n (jG k) (g k)) id:={
  lt:=λk I=>by simp only [id];omega
  mono:=λk m I _=>I
  one:=λk I=>by simp only [id];rw [jR I];exact if_pos rfl
  bef:=λk j I U=>by simp only [id]at U;rw [jR ⋯];exact if_neg ⋯
  oth:=λk m I hm Y=>by simp only [id];rw [jR hm];exact if_neg ⋯
  rng:=λk i I hi=>by
   rcases ziN i n with z | z
   ·rw [jR z];unfold jG;split<;>omega
   ·obtain⟨j,rfl⟩ : ∃j,i=n+j:=⟨i - n,by omega⟩
    rw [j7];exact bg k j I ⋯}
 have a1 : ∀v,Span p (n+n) (Fam n λk=>xW n (jG k) (g k)) v->Span p (n+n) (Fam n λi=>xW n (f i) (jG i)) v:=λv O=>O.le λs Z=>by
  obtain⟨k,I,es⟩:=Z;subst es;refine(Span.sum (u:=λi=>xW n (f i) (jG i)) (λi=>g k i) (m:=n) λi hi=> .gen ⟨i,hi,rfl⟩).congr λj U=>?_;rcases ziN j n with z | z
  ·simp only [jR z]
   exact(h2 k j I z).symm
  ·obtain⟨m,rfl⟩ : ∃m,j=n+m:=⟨j - n,by omega⟩
   simp only [j7];rw [z7 (i:=m) ⋯ λi _ Y=>by simp [jG,Y]];simp [jG]
 have a2 : ∀v,Span p (n+n) (Fam n λi=>xW n (f i) (jG i)) v->Span p (n+n) (Fam n λk=>xW n (jG k) (g k)) v:=λv O=>O.le λs Z=>by
  obtain⟨i,hi,es⟩:=Z;subst es;refine(Span.sum (u:=λk=>xW n (jG k) (g k)) (λk=>f i k) (m:=n) λk I=> .gen ⟨k,I,rfl⟩).congr λj U=>?_;rcases ziN j n with z | z
  ·simp only [jR z]
   rw [z7 (i:=j) z λk _ Y=>by simp [jG,Y]];simp [jG]
  ·obtain⟨m,rfl⟩ : ∃m,j=n+m:=⟨j - n,by omega⟩
   simp only [j7];exact(h1 i m hi ⋯).symm
 obtain⟨rfl,_,u⟩:=wt S hb a4 (λv O=>a2 v ((a0 v).mp O)) (λv O=>(a0 v).mpr (a1 v O));have eh:zS r r B=zS r r jG:=Z3 λk i I hi=>by rw [u k i I ⋯,jR hi]
 have et:zS r r (λk j=>B k (r+j))=zS r r g:=Z3 λk j I U=>by rw [u k (r+j) I ⋯,j7]
 rw [e,eh,if_pos (eqD_refl _),et];rfl
end
section
variable{wd:Nat->Nat}{m k N:Nat}{p:Int}{w:Nat->Bool}{T:Nat->Nat->Nat->Int}{A:Nat->Bar}
def ixs(A:Nat->Bar)(N r:Nat):List Nat:=(zie N).filter λj=>(A j).has r
def qo(A:Nat->Bar)(N r:Nat):Nat->Nat->Int:=λi j=>(A ((ixs A N r).getD j 0)).v r i
theorem Q6{r j:Nat}(h:j<(ixs A N r).length):(ixs A N r).getD j 0<N/\(A ((ixs A N r).getD j 0)).has r=true:=by
 have hm:(ixs A N r).getD j 0∈ixs A N r:=by rw [zil,zih h];exact zka _
 obtain⟨h1,h2⟩:=ziO.mp hm;exact⟨zig.mp h1,by simpa using h2⟩
theorem Jr(I:Pr p){n:Nat}(hn:n<=8){f:Nat->Nat->Int}(O : ∀v:Vc,∃t,∀i,i<n->v i%p=app f n t i%p) : ∃g:Nat->Nat->Int,Undo p n f g/\Undo p n g f/\∀i j,0<=g i j/\g i j<p:=by
 have Y:=I.pos;obtain⟨t,S⟩:=zk6 λj=>O (jG j);refine⟨λi j=>t j i%p,?_,?_,λi j=>⟨zi5 _ ⋯,ziS _ Y⟩⟩
 ·intro i j hi U
  have e:zo (λk=>f i k*(t j k%p)) n%p=app f n (t j) i%p:=zU λk _=>kY p _ _;rw [e,<- S j i hi];unfold jG dlt;simp only [eq_comm]
 ·intro i j hi U
  have z : ∀a,a<n->app f n (λb=>zo (λk=>(t k b%p)*f k j) n - jG j b) a%p=0:=λa ha=>by
   rw [wv,yj f U,zjZ];have e:app f n (λb=>zo (λk=>(t k b%p)*f k j) n) a%p=f a j%p:=by
    have e1:app f n (λb=>zo (λk=>(t k b%p)*f k j) n) a=zo (λk=>f k j*app f n (λb=>t k b%p) a) n:=by
     rw [<- ki];congr 1;funext b;exact qR ..
    rw [e1];have Z:zo (λk=>f k j*app f n (λb=>t k b%p) a) n%p=zo (λk=>f k j*jG k a) n%p:=zU λk _=>by
     rw [ziE,qp (u:=t k) (λb _=>ziY _ _) a,<- S k a ha,<- ziE]
    rw [Z,z7 (f:=λk=>f k j*jG k a) ha λk _ hk=>by simp [jG,hk]];simp [jG]
   rw [e];simp
  have:=wb I hn O z i hi;have e3:(zo (λk=>(t k i%p)*f k j) n)%p=jG j i%p:=zlE.mpr this;show zo (λk=>(t k i%p)*f k j) n%p=dlt i j%p;rw [e3];unfold jG dlt;simp only [eq_comm]
def ba1:CO Fl:=(z5 1 (jq (zY F_all_grown (zb (ze 0) zC))))
def ba2:CO Fl:=(z5 2 (jq (zE (wG (sIx (zf 0) (zk (.int 1)))) (.tp [0,1]) 2 [1] zV (zA F_columns (zb (ze 1) (zb (jq (zY F_loads_in (zb (ze 2) (zb (ze 0) zC)))) zC))))))
def ba3:CO Fl:=(z5 3 (jq (zE (zD (zf 2)) (.nm 0) 1 [0] zV (zA F_back_of (zb (sIx (zf 1) (zk (.int 0))) (zb (ze 0) zC))))))
def ba4:CO Fl:=(jK (qj (zb (jq (zE (zD (zf 1)) (.nm 0) 1 [] zV (zA F_stretch_of (zb (ze 0) zC)))) (zb (ze 3) (zb (ze 2) zC)))))
theorem Yk:F_barred=jC 4 (zJ ba1 (zJ ba2 (zJ ba3 ba4))):=rfl
theorem Wq(hp:Pr p)(Y : ∀k,wd k<=8)(hm:m<=5)(hT : ∀k i j,k<m->i<hiW w wd k->j<wiW w wd k->0<=T k i j/\T k i j<p) :
 ∃(N:Nat) (A:Nat->Bar) (g:Nat->Nat->Nat->Int),N<=48/\(∀j,j<N->BarOk p w wd T m (A j))/\(∀r,r<=m->(ixs A N r).length=wd r)/\(∀r,r<=m->Undo p (wd r) (qo A N r) (g r)/\Undo p (wd r) (g r) (qo A N r)/\∀i j,0<=g r i j/\g r i j<p)/\
  xB ((zie N).map λj=>Jj (A j))=((zie N).map λj=>Jj (A j))/\
  F_barred [j9 p m w wd T]=some (.val (qN ((zie N).map λj=>Jj (A j)) (qt m wd g) (qt m wd λr=>qo A N r))):=by
 have hl:=jD;obtain⟨bars,I,a8,eg⟩:=Qw (T:=T) (w:=w) hp Y hm hT;obtain⟨ok,sp,ct⟩:=I.perm (vF bars);have a9:(qU bars).length=bars.length:=(vF bars).length_eq;let A:Nat->Bar:=λj=>(qU bars).getD j WF;have U:qU bars=(zie bars.length).map A:=by rw [<- a9];exact(z9 WF _).symm
 have a1 : ∀j,j<bars.length->BarOk p w wd T m (A j):=λj S=>ok _ (by
  rw [U];exact ziB.mpr ⟨j,zig.mpr S,rfl⟩)
 have cnt : ∀r,r<=m->(ixs A bars.length r).length=wd r:=λr O=>by
  have:=ct r O;rw [U,List.countP_map,zjJ]at this;exact this
 have aa : ∀r,r<=m->∀v:Vc,∃t,∀i,i<wd r->v i%p=app (qo A bars.length r) (wd r) t i%p:=λr O v=>by
  have hv:Span p (wd r) (Fam (wd r) λj i=>qo A bars.length r i j) v:=(sp r O v).le λgg Z=>by
   obtain⟨b,h1,h2,rfl⟩:=Z;rw [U]at h1;obtain⟨j,S,rfl⟩:=ziB.mp h1;have ac:j∈ixs A bars.length r:=ziO.mpr ⟨S,by simpa using h2⟩;obtain⟨i,hi,e⟩:=zlG ac;refine .gen ⟨i,by rw [<- cnt r O];exact hi,?_⟩;funext c;show(A j).v r c=(A ((ixs A bars.length r).getD i 0)).v r c;rw [zil,zih hi];simp [e]
  exact col_span.mp hv
 have ad : ∀r,∃g:Nat->Nat->Int,r<=m->Undo p (wd r) (qo A bars.length r) g/\Undo p (wd r) g (qo A bars.length r)/\∀i j,0<=g i j/\g i j<p:=λr=>by
  by_cases O:r<=m
  ·obtain⟨g,h⟩:=Jr hp (Y r) (aa r O)
   exact⟨g,λ_=>h⟩
  ·exact⟨λ_ _=>0,λz=>absurd z O⟩
 obtain⟨g,Z⟩:=zk6 ad;have eK:(qU bars).map Jj=(zie bars.length).map λj=>Jj (A j):=by
  conv=>lhs;rw [U,ziZ]
  rfl
 refine⟨bars.length,A,g,a8,a1,cnt,Z,?_,?_⟩
 ·rw [<- eK,Jz]
  refine QH ?_;have:=(vF bars).map Jj;rw [Jz]at this;exact this
 ·have a4:bars.length<=lim:=by omega
  have eL:((qU bars).map (jV wd))=(zie bars.length).map λj=>jV wd (A j):=by
   conv=>lhs;rw [U,ziZ]
   rfl
  rw [eL]at eg;let L:D:= .lst ((zie bars.length).map λj=>jV wd (A j));have a5 : ∀j,j<bars.length->(A j).s+(A j).n<=100:=λj S=>by have:=(a1 j S).le;omega
  have e2:zO (.tp [0,1]) zV (zA F_columns (zb (ze 1) (zb (jq (zY F_loads_in (zb (ze 2) (zb (ze 0) zC)))) zC))) [.no,.no,.val L] ((zie (m+1)).map λ(i:Nat)=>D.tup [.int i,.int (wd i:Nat)])=some (qu (m+1) wd λr=>qo A bars.length r):=by
   unfold qu;refine zw _ _ λr O=>zx rfl rfl ?_;have O:=zig.mp O;have e1:=kL (wd:=wd) a5 a4 r;rw [XZ (wd r) (λj=>(A j).v r),show((zie bars.length).filter λj=>(A j).has r)=ixs A bars.length r from rfl,cnt r ⋯]at e1;have an:=Y r;have e3:=yG (q:=wd r) (h:=wd r) (λi=>(A ((ixs A bars.length r).getD i 0)).v r) ⋯ ⋯;simp [-zil,L,e1,e3];rfl
  have e3:zO (.nm 0) zV (zA F_back_of (zb (sIx (zf 1) (zk (.int 0))) (zb (ze 0) zC))) [.no,.val (j9 p m w wd T)] (qu (m+1) wd λr=>qo A bars.length r)=some (qu (m+1) wd g):=by
   unfold qu;refine zw _ _ λr O=>zx rfl rfl ?_;have O:=zig.mp O;obtain⟨h1,h2,h3⟩:=Z r ⋯;have e:=Xs hp (n:=wd r) (by have:=Y r;omega) h1 h2 λi j _ _=>h3 i j;simp [xQ,e]
  have e4:zO (.nm 0) zV (zA F_stretch_of (zb (ze 0) zC)) [.no] ((zie bars.length).map λj=>jV wd (A j))=some (jy ((zie bars.length).map λj=>Jj (A j))):=by
   unfold jy;rw [ziZ];refine zw _ _ λj S=>zx rfl rfl ?_;have S:=zig.mp S;have e:=wV (wd:=wd) (a1 j S).n1 (a5 j S);simp [e];exact⟨rfl,rfl⟩
  have ew:j4 (zB (m+1) λk=>(wd k:Int))=(zie (m+1)).map λ(i:Nat)=>D.tup [.int i,.int (wd i:Nat)]:=Kb _ _;have a6:m+1<=lim:=by omega
  have ak : ∀g:Nat->Nat->Nat->Int,(qu (m+1) wd g).length=m+1:=λg=>by simp [qu]
  rw [Yk];refine jB (zu (γ':=[.val (j9 p m w wd T),.val L,.no,.no]) ?_ (zu (γ':=[.val (j9 p m w wd T),.val L,.val (.lst (qu (m+1) wd λr=>qo A bars.length r)),.no]) ?_ (zu (γ':=[.val (j9 p m w wd T),.val L,.val (.lst (qu (m+1) wd λr=>qo A bars.length r)),.val (.lst (qu (m+1) wd g))]) ?_ ?_)))
  ·simp [ba1,je,zii,eg,L]
  ·simp [ba2,zT,xQ,ew,a6,e2]
  ·simp [ba3,zT,ak,a6,e3]
  ·unfold qN
   rw [YD,YD];simp [ba4,zT,L,a4,e4]
end
section
variable{wd:Nat->Nat}{m k N:Nat}{p:Int}{w:Nat->Bool}{T:Nat->Nat->Nat->Int}{A:Nat->Bar}{g:Nat->Nat->Nat->Int}
def qK(A:Nat->Bar)(N:Nat):List (Int×Int):=(zie N).map λj=>Jj (A j)
theorem zc6{b:Bar}(h1:1<=b.n)(r:Nat):zbP (Jj b) (r:Int)=b.has r:=by
 unfold zbP Jj Bar.has;dsimp only;congr 1
 ·exact decide_eq_decide.mpr ⋯
 ·exact decide_eq_decide.mpr ⋯
theorem qS(h1 : ∀j,j<N->1<=(A j).n)(r:Nat):jz (qK A N) (r:Int)=ixs A N r:=by
 unfold jz ixs qK;simp only [ziD,zjm];refine zl2 λj z=>?_;have z:=zig.mp z;rw [zil,zja,zkZ z];exact zc6 (h1 j z) r
theorem VH(A N r):(ixs A N r).Nodup:=List.nodup_range.sublist List.filter_sublist
theorem K2{L:List Nat}(h:L.Nodup){a b:Nat}(ha:a<L.length)(z:b<L.length)(e:L.getD a 0=L.getD b 0):a=b:=by
 rw [zil,zil,zih ha,zih z]at e;exact(List.getElem_inj h).mp e
theorem za1(O : ∀j,j<N->BarOk p w wd T m (A j))(S:k<m){i b:Nat}(hi:i<wd (endR w k))(U:b<(ixs A N (begR w k)).length) :
 zo (λa=>(if (ixs A N (endR w k)).getD a 0=(ixs A N (begR w k)).getD b 0 then (1:Int)else 0)*qo A N (endR w k) i a) (ixs A N (endR w k)).length%p=app (T k) (wd (begR w k)) (λc=>qo A N (begR w k) c b) i%p:=by
 obtain⟨h1,h2⟩:=Q6 U;have q:=(O _ h1).arr k S h2 i hi;show _=app (T k) (wd (begR w k)) ((A ((ixs A N (begR w k)).getD b 0)).v (begR w k)) i%p;rw [q];congr 1;cases hx:(A ((ixs A N (begR w k)).getD b 0)).has (endR w k)with
 | true=>
  have Y:(ixs A N (begR w k)).getD b 0∈ixs A N (endR w k):=ziO.mpr ⟨zig.mpr h1,by simpa using hx⟩;obtain⟨a0,I,Z⟩:=zlG Y;have e1:(ixs A N (endR w k)).getD a0 0=(ixs A N (begR w k)).getD b 0:=by
   rw [<- Z,zil,zih I];rfl
  rw [z7 (f:=λa=>(if (ixs A N (endR w k)).getD a 0=(ixs A N (begR w k)).getD b 0 then (1:Int)else 0)*qo A N (endR w k) i a) I λa ha a1=>by
   rw [if_neg λz=>a1 (K2 (VH A N _) ha I (z.trans e1.symm))];simp]
  rw [if_pos e1,if_pos rfl];unfold qo;rw [e1];simp
 | false=>
  rw [if_neg ⋯];rw [zK (g:=λ_=>0) λa ha=>by
   rw [if_neg λz=>by
    have:=(Q6 ha).2;rw [z,hx]at this;cases this]
   simp]
  exact zZ _
theorem zbu(hp:Pr p)(O : ∀j,j<N->BarOk p w wd T m (A j))(cnt : ∀r,r<=m->(ixs A N r).length=wd r)(Y : ∀r,r<=m->Undo p (wd r) (qo A N r) (g r))(Z:k<m){i j:Nat}(hi:i<wd (endR w k))(z:j<wd (begR w k))(S:0<=T k i j/\T k i j<p) :
 T k i j=jT p w (brW (qK A N)) (λr=>qo A N r) g (brT w (qK A N)) k i j:=by
 have n1 : ∀j,j<N->1<=(A j).n:=λj z=>(O j z).n1;have I:begR w k<=m:=by unfold begR;split<;>omega
 have U:endR w k<=m:=by unfold endR;split<;>omega
 unfold jT;have eb:brW (qK A N) (begR w k)=wd (begR w k):=by unfold brW;rw [qS n1,cnt _ I]
 have ee:brW (qK A N) (endR w k)=wd (endR w k):=by unfold brW;rw [qS n1,cnt _ U]
 rw [eb,ee];have e1:zo (λb=>g (begR w k) b j*(zo (λa=>brT w (qK A N) k a b*qo A N (endR w k) i a) (wd (endR w k))%p)) (wd (begR w k))%p
  = zo (λb=>g (begR w k) b j*app (T k) (wd (begR w k)) (λc=>qo A N (begR w k) c b) i) (wd (begR w k))%p:=zU λb hb=>by
  have:=za1 (T:=T) (k:=k) O Z hi (b:=b) (by rw [cnt _ I];exact hb);rw [cnt _ U]at this;have e2:zo (λa=>brT w (qK A N) k a b*qo A N (endR w k) i a) (wd (endR w k))=zo (λa=>(if (ixs A N (endR w k)).getD a 0=(ixs A N (begR w k)).getD b 0 then (1:Int)else 0)*qo A N (endR w k) i a) (wd (endR w k)):=zK λa _=>by
   unfold brT;rw [qS n1,qS n1]
  rw [e2,this,kY]
 have e3:zo (λb=>g (begR w k) b j*app (T k) (wd (begR w k)) (λc=>qo A N (begR w k) c b) i) (wd (begR w k))=app (T k) (wd (begR w k)) (λc=>zo (λb=>qo A N (begR w k) c b*g (begR w k) b j) (wd (begR w k))) i:=by
  rw [<- ki];congr 1;funext c;exact qR ..
 rw [show(zo (λb=>g (begR w k) b j*(zo (λa=>brT w (qK A N) k a b*(λr=>qo A N r) (endR w k) i a) (wd (endR w k))%p)) (wd (begR w k))%p)=_ from e1,e3,
  qp (u:=jG j) (λc hc=>by rw [Y _ I c j hc z];unfold dlt jG;simp only [eq_comm]) i,yj (T k) z]
 exact(zjn S.1 S.2).symm
theorem Qr(S:Pr p)(a3 : ∀k,wd k<=8)(hm:m<=5)(hT : ∀k i j,k<m->i<hiW w wd k->j<wiW w wd k->0<=T k i j/\T k i j<p) :
 ∃(bs:List (Int×Int)) (ts us:List TB),F_barred [j9 p m w wd T]=some (.val (qN bs ts us))/\F_law_paper_right [j9 p m w wd T,qN bs ts us]=some (.val (.bl true))/\bs.length<=48/\∀r,r<=m->(jz bs (r:Int)).length=wd r:=by
 obtain⟨N,A,g,hN,U,cnt,a1,a5,eb⟩:=Wq (T:=T) (w:=w) S a3 hm hT;have n1 : ∀j,j<N->1<=(A j).n:=λj z=>(U j z).n1;have Y : ∀r,r<=m->brW (qK A N) r=wd r:=λr I=>by unfold brW;rw [qS n1,cnt _ I]
 have a7:(qK A N).length=N:=by simp [qK]
 refine⟨qK A N,qt m wd g,qt m wd λr=>qo A N r,eb,?_,by rw [a7];exact hN,λr I=>by rw [qS n1,cnt _ I]⟩;have et : ∀f:Nat->Nat->Nat->Int,qt m wd f=qt m (brW (qK A N)) f:=λf=>by
  unfold qt;refine ziy λr I=>?_;have I:=zig.mp I;rw [Y r ⋯]
 have er:j9 p m w wd T=j9 p m w (brW (qK A N)) (jT p w (brW (qK A N)) (λr=>qo A N r) g (brT w (qK A N))):=by
  unfold j9;congr 1;have ew:(zB (m+1) λk=>(wd k:Int))=zB (m+1) λk=>(brW (qK A N) k:Int):=xL λr I=>by rw [Y r ⋯]
  have ea:jH m w wd T=jH m w (brW (qK A N)) (jT p w (brW (qK A N)) (λr=>qo A N r) g (brT w (qK A N))):=by
   unfold jH;refine ziy λk O=>?_;have O:=zig.mp O;have be:begR w k<=m:=by unfold begR;split<;>omega
   have en:endR w k<=m:=by unfold endR;split<;>omega
   unfold qv;rw [yT,yM,yT,yM,Y _ be,Y _ en];congr 2;congr 1;exact Z2 λi j hi z=>zbu S U cnt (λr I=>(a1 r I).1) O hi z (hT k i j O (by rw [yT];exact hi) (by rw [yM];exact z))
  rw [ew,ea]
 have Z : ∀k,brW (qK A N) k<=60:=λk=>by
  have:=JO (qK A N) (k:Int);unfold brW;omega
 have pr : ∀k,k<m+1->Pair p (brW (qK A N) k) (qo A N k) (g k):=λk O=>by
  obtain⟨u1,u2,u3⟩:=a1 k ⋯;rw [Y k ⋯];refine⟨λi j hi z=>?_,λi j _ _=>u3 i j,u1,u2⟩;have ag:j<(ixs A N k).length:=by rw [cnt k ⋯];exact z
  obtain⟨h1,h2⟩:=Q6 ag;exact(U _ h1).rng k i h2 hi
 rw [er,et g,et λr=>qo A N r];have h8 : ∀b∈qK A N,zf7 ((m+1:Nat):Int) b:=λb hb=>by
  obtain⟨j,z,rfl⟩:=ziB.mp hb;have z:=zig.mp z;have h1:=(U j z).n1;have h2:=(U j z).le;unfold zf7 Jj;dsimp only;omega
 rw [wI S.pos S.le hm Z (λk i j _ _ _=>WV S.pos _ _ _ _ _ _ _ _) ⋯ (wS Z λk i j O hi z=>(pr k O).bg i j hi z) (wS Z λk i j O hi z=>(pr k O).bf i j hi z),
  QP S h8 a5 pr]
end
section
variable{p:Int}{ns:List Int}
def j8(h w:Nat)(f:Nat->Nat->Int):List (List D):=(zie h).map λi=>zB w (f i)
@[simp] theorem zeS(h w f):(j8 h w f).length=h:=by simp [j8]
theorem yA{h w i:Nat}(f)(hi:i<(j8 h w f).length):(j8 h w f)[i]=zB w (f i):=by simp [j8]
theorem Vm{h w i j:Nat}(f:Nat->Nat->Int)(hi:i<h)(I:j<w)(x:Int):(j8 h w f).set i ((zB w (f i)).set j (.int x))=j8 h w λa b=>if a=i/\b=j then x else f a b:=by
 rw [Zn I (f i) (λb=>if b=j then x else f i b) x ⋯ (λb _ O=>by simp [O])];apply zkK;intro a;rw [zl0];by_cases ha:a<h
 ·by_cases e:i=a
  ·subst e
   simp [j8,ha]
  ·simp [j8,ha,e,zi6 e]
 ·have l1:(j8 h w f)[a]? = none:=by simp [j8];omega
  have l2 : ∀z,(j8 h w z)[a]? = none:=λz=>by simp [j8];omega
  rw [l1,l2,if_neg ⋯]
theorem Vn{h w i:Nat}(f:Nat->Nat->Int)(hi:i<h)(v:Vc):(j8 h w f).set i (zB w v)=j8 h w λa b=>if a=i then v b else f a b:=by
 apply zkK;intro a;rw [zl0];by_cases ha:a<h
 ·by_cases e:i=a
  ·subst e
   simp [j8,ha]
  ·simp [j8,ha,e]
   refine xL λb _=>?_;rw [if_neg λz=>e z.symm]
 ·have l1:(j8 h w f)[a]? = none:=by simp [j8];omega
  have l2 : ∀I,(j8 h w I)[a]? = none:=λI=>by simp [j8];omega
  rw [l1,l2,if_neg ⋯]
def zhk:CO Fl:=(zJ (z5 13 (zA F_law_cell (zb (ze 0) (zb (zq jx (zq jx (zq jx (ze 1) (zk (.int 14))) (zq qH (zk (.int 12)) (ze 7))) (ze 12)) zC)))) (sIf (sB (zq dGt (zq qH (ze 9) (ze 10)) (zk (.int 0)))) (QN 11 (zq jW (ze 13) (ze 10)) (zq jW (zq kB (ze 13) (zk (.int 8))) (ze 9)) (zq jW (zq kB (ze 13) (zk (.int 64))) (ze 4))) jh))
def kW(ns:List Int)(p:Int)(z I c5 c6 c8:Cell)(k h w:Nat)(f:Nat->Nat->Int)(O S:Cell):Ctx:=
 [.val (wn ns),.val (.int 1),z,I,.val (.int p),c5,c6,.val (.int k),c8,.val (.int w),.val (.int h),.nest (j8 h w f),O,S]
theorem zei(a4:ns.length<=63)(hp:Pr p){k h w s:Nat}(hk:k<=10)(hs:s<=100)(hh:h<=8)(hw:w<=8){f:Nat->Nat->Int}(Z : ∀i j,0<=f i j/\f i j<p)(I O c5 c6 c8 a0:Cell) :
 ∃S x,(∀i j,0<=S i j/\S i j<p)/\zhk (kW ns p I O c5 c6 c8 k h w f (.val (.int s)) a0)=some (.next (kW ns p I O c5 c6 c8 k h w S (.val (.int s)) (.val (.int x)))):=by
 obtain⟨e1,a1,b1⟩:=wq a4 (k:=1+14+12*(k:Int)+(s:Int)) ⋯ ⋯;generalize yH ns (1+14+12*(k:Int)+(s:Int))=z at e1 a1 b1;have p0:=hp.pos;have x1:z5 13 (zA F_law_cell (zb (ze 0) (zb (zq jx (zq jx (zq jx (ze 1) (zk (.int 14))) (zq qH (zk (.int 12)) (ze 7))) (ze 12)) zC))) (kW ns p I O c5 c6 c8 k h w f (.val (.int s)) a0)=some (.next (kW ns p I O c5 c6 c8 k h w f (.val (.int s)) (.val (.int z)))):=by
  have m1:wB 12 (k:Int)=true:=yf _ _ ⋯ ⋯;rw [show(1+14+12*(k:Int)+(s:Int))=15+12*(k:Int)+(s:Int)by omega]at e1;simp [kW,m1,e1]
 by_cases hz:h=0\/w=0
 ·refine⟨f,z,Z,zu x1 ?_⟩
  have U:wB (w:Int) (h:Int)=true:=yV _ _ ⋯ ⋯;have Y : ¬((0:Int)<(w:Int)*(h:Int)):=by rcases hz with rfl | rfl<;>simp
  simp [kW,U,Y]
 ·have h0:0<h:=by omega
  have w0:0<w:=by omega
  obtain⟨i,ei,hi⟩ : ∃i:Nat,z%(h:Int)=i/\i<h:=by
   obtain⟨a,ha⟩:=zj9 (zi5 z (show(h:Int)≠0 by omega));have:=ziS z (show(0:Int)<h by omega);exact⟨a,ha,by omega⟩
  obtain⟨j,ej,hj⟩ : ∃j:Nat,z/8%(w:Int)=j/\j<w:=by
   obtain⟨a,ha⟩:=zj9 (zi5 (z/8) (show(w:Int)≠0 by omega));have:=ziS (z/8) (show(0:Int)<w by omega);exact⟨a,ha,by omega⟩
  refine⟨λa b=>if a=i/\b=j then z/64%p else f a b,z,λa b=>?_,zu x1 ?_⟩
  ·dsimp only
   split
   ·exact⟨zi5 _ ⋯,ziS _ p0⟩
   ·exact Z a b
  ·have U:wB (w:Int) (h:Int)=true:=yV _ _ ⋯ ⋯
   have Y:(0:Int)<(w:Int)*(h:Int):=Int.mul_pos ⋯ ⋯;have ai:(0:Int)<(h:Int):=by omega
   have aj:(0:Int)<(w:Int):=by omega
   have r1:ZG 11 (zq jW (ze 13) (ze 10)) (kW ns p I O c5 c6 c8 k h w f (.val (.int s)) (.val (.int z)))=some (j8 h w f,i,zB w (f i)):=by
    unfold ZG;simp [kW,xh,h0,ei,hi,yA]
   have r2:QN 11 (zq jW (ze 13) (ze 10)) (zq jW (zq kB (ze 13) (zk (.int 8))) (ze 9)) (zq jW (zq kB (ze 13) (zk (.int 64))) (ze 4)) (kW ns p I O c5 c6 c8 k h w f (.val (.int s)) (.val (.int z)))=some (.next (kW ns p I O c5 c6 c8 k h w (λa b=>if a=i/\b=j then z/64%p else f a b) (.val (.int s)) (.val (.int z)))):=by
    unfold QN;rw [r1];simp [kW,p0,w0,ej,hj];rw [Vm f hi hj]
   have t1:sB (zq dGt (zq qH (ze 9) (ze 10)) (zk (.int 0))) (kW ns p I O c5 c6 c8 k h w f (.val (.int s)) (.val (.int z)))=some true:=by
    simp [kW,U,Y]
   rw [yJ,t1];exact r2
end
def an1:CO Fl:=z5 4 (sIx (zX (qF (zb (zk (.int 2)) (zb (zk (.int 3)) (zb (zk (.int 5)) (zb (zk (.int 7)) zC)))))) (zq jW (zA F_law_cell (zb (ze 0) (zb (ze 1) zC))) (zk (.int 4))))
def an2:CO Fl:=z5 5 (jq (zE (zR (ze 2)) (.nm 0) 1 [0,1,3] zV (zq jW (zq kB (zA F_law_cell (zb (ze 1) (zb (zq jx (zq jx (ze 2) (zk (.int 1))) (ze 0)) zC))) (zk (.int 4))) (zq jx (ze 3) (zk (.int 1))))))
def an3:CO Fl:=xS 6 (qF zC)
def an4:CO Fl:=xT (zR (zq wo (ze 2) (zk (.int 1)))) (.nm 7) (zJ (z5 8 (zA F_law_cell (zb (ze 0) (zb (zq jx (zq jx (ze 1) (zk (.int 8))) (ze 7)) zC)))) (zJ (z5 9 (sIx (zf 5) (zq jx (ze 7) (zq jW (ze 8) (zk (.int 2)))))) (zJ (z5 10 (sIx (zf 5) (zq wo (zq jx (ze 7) (zk (.int 1))) (zq jW (ze 8) (zk (.int 2)))))) (zJ (KJ 11 (yO (zR (ze 10)) (.nm 0) 1 [9] (zE (zR (ze 1)) (.nm 0) 1 [] zV (zk (.int 0))))) (zJ (xT (zR (zq jx (zq jW (zq kB (ze 8) (zk (.int 2))) (zq jx (zq qH (ze 9) (ze 10)) (zk (.int 1)))) (zk (.int 1)))) (.nm 12) (zJ (z5 13 (zA F_law_cell (zb (ze 0) (zb (zq jx (zq jx (zq jx (ze 1) (zk (.int 14))) (zq qH (zk (.int 12)) (ze 7))) (ze 12)) zC)))) (sIf (sB (zq dGt (zq qH (ze 9) (ze 10)) (zk (.int 0)))) (QN 11 (zq jW (ze 13) (ze 10)) (zq jW (zq kB (ze 13) (zk (.int 8))) (ze 9)) (zq jW (zq kB (ze 13) (zk (.int 64))) (ze 4))) jh))) (zJ (sIf (JD (sB (zq dEq (zq jW (zq kB (ze 8) (zk (.int 256))) (zk (.int 3))) (zk (.int 0)))) (sB (zq dGt (ze 10) (zk (.int 1))))) (KL 11 (zq wo (ze 10) (zk (.int 1))) (zE (zD (QL 11 (zk (.int 0)))) (.nm 0) 1 [4,8] zV (zq jW (zq qH (zq kB (ze 2) (zk (.int 1024))) (ze 0)) (ze 1)))) jh) (KM 11 (jY 6 (qj (zb (vJ (zk (.str "rl")) (zq jW (ze 8) (zk (.int 2)))) (zb (qj (zb (ze 10) (zb (ze 9) (zb (zF (zX (zE (zD (zf 11)) (.nm 0) 1 [] zV (zF (zf 0))))) zC)))) zC)))))))))))
def zbr:CO Fl:=z5 8 (zA F_law_cell (zb (ze 0) (zb (zq jx (zq jx (ze 1) (zk (.int 8))) (ze 7)) zC)))
def zbq:CO Fl:=z5 9 (sIx (zf 5) (zq jx (ze 7) (zq jW (ze 8) (zk (.int 2)))))
def zbp:CO Fl:=z5 10 (sIx (zf 5) (zq wo (zq jx (ze 7) (zk (.int 1))) (zq jW (ze 8) (zk (.int 2)))))
def zbo:CO Fl:=KJ 11 (yO (zR (ze 10)) (.nm 0) 1 [9] (zE (zR (ze 1)) (.nm 0) 1 [] zV (zk (.int 0))))
def zdw:CO Fl:=xT (zR (zq jx (zq jW (zq kB (ze 8) (zk (.int 2))) (zq jx (zq qH (ze 9) (ze 10)) (zk (.int 1)))) (zk (.int 1)))) (.nm 12) (zJ (z5 13 (zA F_law_cell (zb (ze 0) (zb (zq jx (zq jx (zq jx (ze 1) (zk (.int 14))) (zq qH (zk (.int 12)) (ze 7))) (ze 12)) zC)))) (sIf (sB (zq dGt (zq qH (ze 9) (ze 10)) (zk (.int 0)))) (QN 11 (zq jW (ze 13) (ze 10)) (zq jW (zq kB (ze 13) (zk (.int 8))) (ze 9)) (zq jW (zq kB (ze 13) (zk (.int 64))) (ze 4))) jh))
def Wy:CO Fl:=sIf (JD (sB (zq dEq (zq jW (zq kB (ze 8) (zk (.int 256))) (zk (.int 3))) (zk (.int 0)))) (sB (zq dGt (ze 10) (zk (.int 1))))) (KL 11 (zq wo (ze 10) (zk (.int 1))) (zE (zD (QL 11 (zk (.int 0)))) (.nm 0) 1 [4,8] zV (zq jW (zq qH (zq kB (ze 2) (zk (.int 1024))) (ze 0)) (ze 1)))) jh
def zdv:CO Fl:=KM 11 (jY 6 (qj (zb (vJ (zk (.str "rl")) (zq jW (ze 8) (zk (.int 2)))) (zb (qj (zb (ze 10) (zb (ze 9) (zb (zF (zX (zE (zD (zf 11)) (.nm 0) 1 [] zV (zF (zf 0))))) zC)))) zC))))
def an5:CO Fl:=jK (qj (zb (ze 4) (zb (zF (zf 5)) (zb (zF (zf 6)) zC))))
theorem zfx:F_law_any_row=jC 14 (zJ an1 (zJ an2 (zJ an3 (zJ an4 an5)))):=rfl
section
variable{p:Int}{ns:List Int}{m k:Nat}{wd:Nat->Nat}
def acx(ns:List Int)(p:Int)(m:Nat)(wd:Nat->Nat)(L:List D)(c7 c8 c9 c10 c11 z I:Cell):Ctx:=
 [.val (wn ns),.val (.int 1),.val (.int ((m+1:Nat):Int)),.val (.int 3),.val (.int p),.val (.lst (zB (m+1) λk=>(wd k:Int))),.own L,c7,c8,c9,c10,c11,z,I]
def vc(ns:List Int)(k:Nat):Bool:=decide (yH ns (1+8+(k:Int))%2=1)
theorem Yl(ah:ns.length<=63)(hp:Pr p)(hm:m<=5)(hk:k<m)(ai : ∀k,wd k<=3){L:List D}(hL:L.length<100){c8 c9 c10 c11 O S:Cell}(n8:jL c8=false)(n9:jL c9=false)(c2:jL c10=false)(as:jL c11=false)(aj:jL O=false)(ak:jL S=false) :
 ∃(f:Nat->Nat->Int) (d8 d9 an ao ac aa:Cell),(∀i j,0<=f i j/\f i j<p)/\jL d8=false/\jL d9=false/\jL an=false/\jL ao=false/\jL ac=false/\jL aa=false/\
  (zJ zbr (zJ zbq (zJ zbp (zJ zbo (zJ zdw (zJ Wy zdv)))))) (acx ns p m wd L (.val (.int k)) c8 c9 c10 c11 O S)=some (.next (acx ns p m wd (L++[qv (vc ns) wd (λ_=>f) k]) (.val (.int k)) d8 d9 an ao ac aa)):=by
 have hl:=jD;have p0:=hp.pos;have two:=hp.two;obtain⟨e1,a1,b1⟩:=wq ah (k:=1+8+(k:Int)) ⋯ ⋯;have ab:vc ns k=decide (yH ns (1+8+(k:Int))%2=1):=rfl;generalize yH ns (1+8+(k:Int))=c at e1 a1 b1 ab;have q:c%2=0\/c%2=1:=by omega
 have hb : ∃b:Nat,(k:Int)+c%2=b/\b=begR (vc ns) k/\b<m+1:=by
  refine⟨begR (vc ns) k,?_,rfl,?_⟩
  ·unfold begR;rw [ab];rcases q with q | q<;>simp [q]
  ·unfold begR;split<;>omega
 have he : ∃b:Nat,(k:Int)+1 - c%2=b/\b=endR (vc ns) k/\b<m+1:=by
  refine⟨endR (vc ns) k,?_,rfl,?_⟩
  ·unfold endR;rw [ab];rcases q with q | q<;>simp [q]
  ·unfold endR;split<;>omega
 obtain⟨bg,aw,ax,ay⟩:=hb;obtain⟨I,az,b0,b5⟩:=he;have b6:=ai bg;have b7:=ai I;have x1:zbr (acx ns p m wd L (.val (.int k)) c8 c9 c10 c11 O S)=some (.next (acx ns p m wd L (.val (.int k)) (.val (.int c)) c9 c10 c11 O S)):=by
  rw [show(1+8+(k:Int))=9+(k:Int)by omega]at e1;simp [zbr,acx,e1]
 have x2:zbq (acx ns p m wd L (.val (.int k)) (.val (.int c)) c9 c10 c11 O S)=some (.next (acx ns p m wd L (.val (.int k)) (.val (.int c)) (.val (.int (wd bg:Nat))) c10 c11 O S)):=by
  simp [zbq,acx,aw,ay]
 have x3:zbp (acx ns p m wd L (.val (.int k)) (.val (.int c)) (.val (.int (wd bg:Nat))) c10 c11 O S)=some (.next (acx ns p m wd L (.val (.int k)) (.val (.int c)) (.val (.int (wd bg:Nat))) (.val (.int (wd I:Nat))) c11 O S)):=by
  simp [zbp,acx,az,b5]
 have x4:zbo (acx ns p m wd L (.val (.int k)) (.val (.int c)) (.val (.int (wd bg:Nat))) (.val (.int (wd I:Nat))) c11 O S)=some (.next (acx ns p m wd L (.val (.int k)) (.val (.int c)) (.val (.int (wd bg:Nat))) (.val (.int (wd I:Nat))) (.nest (j8 (wd I) (wd bg) λ_ _=>0)) O S)):=by
  have i1:wd I<=lim:=by omega
  have i2:wd bg<=lim:=by omega
  have ec:kf (.nm 0) (zE (zR (ze 1)) (.nm 0) 1 [] zV (zk (.int 0))) [.no,.val (.int (wd bg:Nat))] ((zie (wd I)).map λ(i:Nat)=>D.int i)=some (j8 (wd I) (wd bg) λ_ _=>0):=by
   unfold j8;refine Qf _ λi hi=>⟨_,rfl,?_⟩;have e0:zO (.nm 0) zV (zk (.int 0)) [.no] ((zie (wd bg)).map λ(i:Nat)=>D.int i)=some (zB (wd bg) λ_=>0):=by
    unfold zB;exact zw _ _ λi hi=>zx rfl rfl rfl
   simp [zT,yC i2,jI,i2];exact e0
  have nn:(acx ns p m wd L (.val (.int k)) (.val (.int c)) (.val (.int (wd bg:Nat))) (.val (.int (wd I:Nat))) c11 O S).any jL=false:=by
   have v : ∀d,jL (.val d)=false:=λ_=>rfl;have o : ∀d,jL (.own d)=false:=λ_=>rfl;simp only [acx,zkU,List.any_nil,v,o,as,aj,ak];rfl
  unfold zbo KJ;have bb:yO (zR (ze 10)) (.nm 0) 1 [9] (zE (zR (ze 1)) (.nm 0) 1 [] zV (zk (.int 0))) (acx ns p m wd L (.val (.int k)) (.val (.int c)) (.val (.int (wd bg:Nat))) (.val (.int (wd I:Nat))) c11 O S)=some (j8 (wd I) (wd bg) λ_ _=>0):=by
   unfold yO;simp [acx,yC i1,jI,i1,zT];exact ec
  rw [bb,zij,if_pos nn];rfl
 obtain⟨nn,bc,c4⟩ : ∃nn:Nat,c/2%((wd bg:Int)*(wd I:Int)+1)+1=(nn:Int)/\nn<=20:=by
  have c5:(wd bg:Int)*(wd I:Int)<=9:=by
   have:=Nat.mul_le_mul b6 b7;have e:((wd bg*wd I:Nat):Int)=(wd bg:Int)*(wd I:Int):=by simp
   omega
  have aq:(0:Int)<=(wd bg:Int)*(wd I:Int):=Int.mul_nonneg ⋯ ⋯;have g1:=zi5 (c/2) (show(wd bg:Int)*(wd I:Int)+1≠0 by omega);have g2:=ziS (c/2) (show(0:Int)<(wd bg:Int)*(wd I:Int)+1 by omega);refine⟨(c/2%((wd bg:Int)*(wd I:Int)+1)+1).toNat,?_,?_⟩
  ·rw [zlP ⋯]
  ·omega
 have aq:(0:Int)<(wd bg:Int)*(wd I:Int)+1:=by
  have:(0:Int)<=(wd bg:Int)*(wd I:Int):=Int.mul_nonneg ⋯ ⋯;omega
 let C2:Cell:= .val (.int ((m+1:Nat):Int));let C3:Cell:= .val (.int 3);let C5:Cell:= .val (.lst (zB (m+1) λk=>(wd k:Int)));let C6:Cell:= .own L;let U:Cell:= .val (.int c);obtain⟨γ',x5,f,Z,a0,hf,be,bf,rfl⟩:=yB (T:= .nm 12) (F:=zhk) (f:=zq jx (zq jW (zq kB (ze 8) (zk (.int 2))) (zq jx (zq qH (ze 9) (ze 10)) (zk (.int 1)))) (zk (.int 1)))
  (λ_ γ=>∃f O S,(∀i j,0<=f i j/\f i j<p)/\jL O=false/\jL S=false/\γ=kW ns p C2 C3 C5 C6 U k (wd I) (wd bg) f O S) nn ⋯
  (γ:=kW ns p C2 C3 C5 C6 U k (wd I) (wd bg) (λ_ _=>0) O S) (by
    have m2:wB (wd bg:Int) (wd I:Int)=true:=yV _ _ ⋯ ⋯;simp [kW,U,m2,aq,bc]) ⟨_,O,S,λ_ _=>⟨Int.le_refl _,p0⟩,aj,ak,rfl⟩ λs hs γ hγ=>by
    obtain⟨f,ac,aa,hf,_,_,rfl⟩:=hγ;obtain⟨Y,x,ae,e⟩:=zei ah hp (k:=k) (h:=wd I) (w:=wd bg) (s:=s) ⋯ ⋯ ⋯ ⋯ hf C2 C3 C5 C6 U aa;exact⟨_,_,rfl,e,Y,_,_,ae,rfl,rfl,rfl⟩
 obtain⟨Y,ae,x6⟩ : ∃Y:Nat->Nat->Int,(∀i j,0<=Y i j/\Y i j<p)/\Wy (kW ns p C2 C3 C5 C6 U k (wd I) (wd bg) f Z a0)=some (.next (kW ns p C2 C3 C5 C6 U k (wd I) (wd bg) Y Z a0)):=by
  by_cases hc:c/256%3=0/\1<wd I
  ·refine⟨λa b=>if a=wd I - 1 then (c/1024*f 0 b)%p else f a b,λi j=>?_,?_⟩
   ·dsimp only
    split
    ·exact⟨zi5 _ ⋯,ziS _ p0⟩
    ·exact hf i j
   ·have t1:JD (sB (zq dEq (zq jW (zq kB (ze 8) (zk (.int 256))) (zk (.int 3))) (zk (.int 0)))) (sB (zq dGt (ze 10) (zk (.int 1)))) (kW ns p C2 C3 C5 C6 U k (wd I) (wd bg) f Z a0)=some true:=by
     have h3:(1:Int)<(wd I:Int):=by have:=hc.2;omega
     simp [kW,U,hc.1,h3]
    have e1:(wd I:Int) - 1=((wd I - 1:Nat):Int):=by omega
    have h1:wd I - 1<wd I:=by omega
    have h0:0<wd I:=by omega
    have r1:ZG 11 (zq wo (ze 10) (zk (.int 1))) (kW ns p C2 C3 C5 C6 U k (wd I) (wd bg) f Z a0)=some (j8 (wd I) (wd bg) f,wd I - 1,zB (wd bg) (f (wd I - 1))):=by
     unfold ZG;simp [kW,xh,e1,h1,yA]
    have r0:QL 11 (zk (.int 0)) (kW ns p C2 C3 C5 C6 U k (wd I) (wd bg) f Z a0)=some (.L,zB (wd bg) (f 0)):=by
     unfold QL ZG;have i0:ixD (wd I) 0=some 0:=by
      have:=qL (wd I) 0;rw [if_pos h0]at this;exact this
     simp [kW,xh,i0,h0,yA]
    have ec:zO (.nm 0) zV (zq jW (zq qH (zq kB (ze 2) (zk (.int 1024))) (ze 0)) (ze 1)) [.no,.val (.int p),.val (.int c)] (zB (wd bg) (f 0))=some (zB (wd bg) λb=>(c/1024*f 0 b)%p):=by
     unfold zB;refine zw _ _ λb hb=>zx rfl rfl ?_;have q1:=hf 0 b;have q2:=hp.le;have m3:wB (c/1024) (f 0 b)=true:=yV _ _ ⋯ ⋯;simp [m3,p0]
    have i2:wd bg<=lim:=by omega
    have es:zE (zD (QL 11 (zk (.int 0)))) (.nm 0) 1 [4,8] zV (zq jW (zq qH (zq kB (ze 2) (zk (.int 1024))) (ze 0)) (ze 1)) (kW ns p C2 C3 C5 C6 U k (wd I) (wd bg) f Z a0)=some (zB (wd bg) λb=>(c/1024*f 0 b)%p):=by
     rw [qr,qQ,r0];simp only [ziC,zij,vi,i2,if_true];exact ec
    unfold Wy;rw [yJ,t1];show KL 11 _ _ _=_;unfold KL;rw [es,r1];show some (Fl.next ((kW ns p C2 C3 C5 C6 U k (wd I) (wd bg) f Z a0).set 11 (.nest ((j8 (wd I) (wd bg) f).set (wd I - 1) (zB (wd bg) λb=>(c/1024*f 0 b)%p)))))=_;rw [Vn f h1];rfl
  ·refine⟨f,hf,?_⟩
   have t1:JD (sB (zq dEq (zq jW (zq kB (ze 8) (zk (.int 256))) (zk (.int 3))) (zk (.int 0)))) (sB (zq dGt (ze 10) (zk (.int 1)))) (kW ns p C2 C3 C5 C6 U k (wd I) (wd bg) f Z a0)=some false:=by
    by_cases h1:c/256%3=0
    ·have : ¬(1:Int)<(wd I:Int):=λz=>hc ⟨h1,by omega⟩
     simp [kW,U,h1];omega
    ·simp [kW,U,h1]
   unfold Wy;rw [yJ,t1];rfl
 refine⟨Y,.val (.int c),.val (.int (wd bg:Nat)),.val (.int (wd I:Nat)),.val (.lst ((j8 (wd I) (wd bg) Y).map D.lst)),Z,a0,ae,rfl,rfl,rfl,rfl,be,bf,?_⟩;refine zu x1 (zu x2 (zu x3 (zu x4 (zu (show zdw _=_ from x5) (zu x6 ?_)))));have sx:vJ (zk (.str "rl")) (zq jW (ze 8) (zk (.int 2))) (acx ns p m wd L (.val (.int k)) (.val (.int c)) (.val (.int (wd bg:Nat))) (.val (.int (wd I:Nat))) (.val (.lst ((j8 (wd I) (wd bg) Y).map D.lst))) Z a0)=some (.str (qY (wch (vc ns k)))):=by
  have ev:zq jW (ze 8) (zk (.int 2)) (acx ns p m wd L (.val (.int k)) (.val (.int c)) (.val (.int (wd bg:Nat))) (.val (.int (wd I:Nat))) (.val (.lst ((j8 (wd I) (wd bg) Y).map D.lst))) Z a0)=some (.int (c%2)):=by simp [acx]
  rw [zbj,ev,ab];rcases q with q | q
  ·rw [q];rfl
  ·rw [q];rfl
 have i1:wd I<=lim:=by omega
 have i2:wd bg<=lim:=by omega
 have ec:zO (.nm 0) zV (zF (zf 0)) [.no] ((j8 (wd I) (wd bg) Y).map D.lst)=some (zS (wd I) (wd bg) Y):=by
  unfold j8 zS;rw [ziZ];refine zw _ _ λi hi=>zx rfl rfl ?_;simp [i2]
 have bt:L.length<lim:=by omega
 have eh:hiW (vc ns) wd k=wd I:=by rw [yT,b0]
 have ew:wiW (vc ns) wd k=wd bg:=by rw [yM,ax]
 unfold zdv KM;show(jY 6 _ (acx ns p m wd L (.val (.int k)) (.val (.int c)) (.val (.int (wd bg:Nat))) (.val (.int (wd I:Nat))) (.val (.lst ((j8 (wd I) (wd bg) Y).map D.lst))) Z a0))=_;have et:qj (zb (vJ (zk (.str "rl")) (zq jW (ze 8) (zk (.int 2)))) (zb (qj (zb (ze 10) (zb (ze 9) (zb (zF (zX (zE (zD (zf 11)) (.nm 0) 1 [] zV (zF (zf 0))))) zC)))) zC)) (acx ns p m wd L (.val (.int k)) (.val (.int c)) (.val (.int (wd bg:Nat))) (.val (.int (wd I:Nat))) (.val (.lst ((j8 (wd I) (wd bg) Y).map D.lst))) Z a0)=some (qv (vc ns) wd (λ_=>Y) k):=by
  rw [yW,j6,sx];simp [acx,zT,i1,ec];unfold qv;rw [eh,ew];rfl
 unfold jY;rw [et];simp [acx,bt]
end
def lw1:CO Fl:=z5 1 (zA F_law_any_row (zb (ze 0) (zb (zk (.int 1)) (zb (zq jx (zk (.int 1)) (zq jW (zA F_law_cell (zb (ze 0) (zb (zk (.int 0)) zC))) (zk (.int 5)))) (zb (zk (.int 3)) zC)))))
def lw2:CO Fl:=z5 2 (zA F_barred (zb (ze 1) zC))
def lw3:CO Fl:=sIf (jc (sB (zA F_law_paper_right (zb (ze 1) (zb (ze 2) zC))))) (jK (zk (.bl false))) jh
def lw4:CO Fl:=jK (zq dEq (jq (zE (zR (qw (zH (sIx (zf 1) (zk (.int 1)))))) (.nm 0) 1 [2] zV (qw (zX (zY F_law_with_k28 (zb (sIx (zf 1) (zk (.int 0))) (zb (ze 0) zC))))))) (jq (kJ (zH (sIx (zf 1) (zk (.int 1)))))))
theorem zeU:F_law_k30=jC 3 (zJ lw1 (zJ lw2 (zJ lw3 lw4))):=rfl
section
variable{p:Int}{ns:List Int}{m:Nat}
theorem zes{c:Int}(h:0<=c)(γ:Ctx)(f:CO D)(z:f γ=some (.int (c%4))) : ∃p:Int,Pr p/\(sIx (zX (qF (zb (zk (.int 2)) (zb (zk (.int 3)) (zb (zk (.int 5)) (zb (zk (.int 7)) zC)))))) f) γ=some (.int p):=by
 have q:c%4=0\/c%4=1\/c%4=2\/c%4=3:=by omega
 rw [yI,z];unfold Pr;rcases q with q | q | q | q<;>rw [q]
 ·exact⟨2,by omega,rfl⟩
 ·exact⟨3,by omega,rfl⟩
 ·exact⟨5,by omega,rfl⟩
 ·exact⟨7,by omega,rfl⟩
theorem Ym(U:ns.length<=63)(hm:m<=5) : ∃(p:Int) (wd:Nat->Nat) (T:Nat->Nat->Nat->Int),Pr p/\(∀k,wd k<=3)/\(∀k i j,0<=T k i j/\T k i j<p)/\F_law_any_row [wn ns,.int 1,.int ((m+1:Nat):Int),.int 3]=some (.val (j9 p m (vc ns) wd T)):=by
 have hl:=jD;obtain⟨e1,a1,b1⟩:=wq U (k:=1) ⋯ ⋯;obtain⟨p,Y,ep⟩:=zes a1 (je 14 [wn ns,.int 1,.int ((m+1:Nat):Int),.int 3]) (zq jW (zA F_law_cell (zb (ze 0) (zb (ze 1) zC))) (zk (.int 4))) (by simp [je,zii,e1]);have p0:=Y.pos;have S : ∃wd:Nat->Nat,(∀k,wd k<=3)/\∀k:Nat,yH ns (1+1+(k:Int))/4%4=((wd k:Nat):Int):=by
  refine⟨λk=>(yH ns (1+1+(k:Int))/4%4).toNat,λk=>?_,λk=>?_⟩
  ·show(yH ns (1+1+(k:Int))/4%4).toNat<=3;omega
  ·rw [zlP ⋯]
 obtain⟨wd,S,ac⟩:=S;have Z:m+1<=lim:=by omega
 have x1:an1 (je 14 [wn ns,.int 1,.int ((m+1:Nat):Int),.int 3])=some (.next [.val (wn ns),.val (.int 1),.val (.int ((m+1:Nat):Int)),.val (.int 3),.val (.int p),.no,.no,.no,.no,.no,.no,.no,.no,.no]):=by
  unfold an1;rw [yX,ep];rfl
 have ec:zO (.nm 0) zV (zq jW (zq kB (zA F_law_cell (zb (ze 1) (zb (zq jx (zq jx (ze 2) (zk (.int 1))) (ze 0)) zC))) (zk (.int 4))) (zq jx (ze 3) (zk (.int 1)))) [.no,.val (wn ns),.val (.int 1),.val (.int 3)] (zB (m+1) λi=>(i:Int))=some (zB (m+1) λk=>((wd k:Nat):Int)):=by
  unfold zB;refine zw _ _ λk z=>zx rfl rfl ?_;have z:=zig.mp z;have e:=(wq U (k:=1+1+(k:Int)) ⋯ ⋯).1;have e2:=ac k;rw [show(1+1+(k:Int))=2+(k:Int)by omega]at e e2;simp [e,e2]
 have x2:an2 [.val (wn ns),.val (.int 1),.val (.int ((m+1:Nat):Int)),.val (.int 3),.val (.int p),.no,.no,.no,.no,.no,.no,.no,.no,.no]=some (.next [.val (wn ns),.val (.int 1),.val (.int ((m+1:Nat):Int)),.val (.int 3),.val (.int p),.val (.lst (zB (m+1) λk=>(wd k:Int))),.no,.no,.no,.no,.no,.no,.no,.no]):=by
  have ir:=yC Z;unfold an2;rw [yX,Zq,qr,xx];simp only [qi,zin,zio,zQ,zij,qc,ir,if_true,zjK,jI,vi,Z];rw [show zT 1 [0,1,3] [Cell.val (wn ns),.val (.int 1),.val (.int ((m+1:Nat):Int)),.val (.int 3),.val (.int p),.no,.no,.no,.no,.no,.no,.no,.no,.no]=[.no,.val (wn ns),.val (.int 1),.val (.int 3)]from rfl,ec];rfl
 have x3:an3 [.val (wn ns),.val (.int 1),.val (.int ((m+1:Nat):Int)),.val (.int 3),.val (.int p),.val (.lst (zB (m+1) λk=>(wd k:Int))),.no,.no,.no,.no,.no,.no,.no,.no]=some (.next (acx ns p m wd [] .no .no .no .no .no .no .no)):=rfl;obtain⟨γ',x4,T,c7,c8,c9,c10,c11,I,O,hT,_,_,_,_,_,_,rfl⟩:=yB (T:= .nm 7) (F:=zJ zbr (zJ zbq (zJ zbp (zJ zbo (zJ zdw (zJ Wy zdv)))))) (f:=zq wo (ze 2) (zk (.int 1)))
  (λs γ=>∃(T:Nat->Nat->Nat->Int) (c7 c8 c9 c10 c11 I O:Cell),(∀k i j,0<=T k i j/\T k i j<p)/\jL c8=false/\jL c9=false/\jL c10=false/\jL c11=false/\jL I=false/\jL O=false/\γ=acx ns p m wd (jH s (vc ns) wd T) c7 c8 c9 c10 c11 I O) m ⋯
  (γ:=acx ns p m wd [] .no .no .no .no .no .no .no) (by
    have e:((m+1:Nat):Int) - 1=(m:Int):=by omega
    simp only [acx,kj,qi,xz,zin,zio,zQ,zij];show some (D.int (((m+1:Nat):Int) - 1))=_;rw [e]) ⟨λ_ _ _=>0,.no,.no,.no,.no,.no,.no,.no,λ_ _ _=>⟨Int.le_refl _,p0⟩,rfl,rfl,rfl,rfl,rfl,rfl,rfl⟩ λs hs γ hγ=>by
    obtain⟨T,c7,c8,c9,c10,c11,I,O,hT,n8,n9,al,am,an,ao,rfl⟩:=hγ;obtain⟨f,d8,d9,a5,a6,a7,a8,hf,m8,m9,as,au,av,aw,e⟩:=Yl U Y hm hs S (L:=jH s (vc ns) wd T) (by simp;omega) n8 n9 al am an ao;refine⟨acx ns p m wd (jH s (vc ns) wd T) (.val (.int s)) c8 c9 c10 c11 I O,acx ns p m wd (jH s (vc ns) wd T++[qv (vc ns) wd (λ_=>f) s]) (.val (.int s)) d8 d9 a5 a6 a7 a8,rfl,e,λk=>if k=s then f else T k,.val (.int s),d8,d9,a5,a6,a7,a8,λk i j=>?_,m8,m9,as,au,av,aw,?_⟩
    ·dsimp only
     split
     ·exact hf i j
     ·exact hT k i j
    ·congr 1
     unfold jH;rw [zjE,zjf];congr 1
     ·refine ziy λk z=>?_
      have z:=zig.mp z;unfold qv;dsimp only;rw [if_neg (show ¬k=s by omega)]
     ·simp [qv]
 refine⟨p,wd,T,Y,S,hT,?_⟩;rw [zfx];refine jB (zu x1 (zu x2 (zu x3 (zu (show an4 _=_ from x4) ?_))));have az:(jH m (vc ns) wd T).length<=lim:=by simp;omega
 have ax:m<=lim:=by omega
 simp [an5,acx,Z,ax];rfl
theorem law_k30(ns:List Int)(z:ns.length<=63):F_law_k30 [wn ns]=some (.val (.bl true)):=by
 have hl:=jD;obtain⟨e1,S,b1⟩:=wq z (k:=0) ⋯ ⋯;generalize yH ns 0=c at e1 S b1;obtain⟨m,U,hm⟩ : ∃m:Nat,1+c%5=((m+1:Nat):Int)/\m<=4:=⟨(c%5).toNat,by omega,by omega⟩;obtain⟨p,wd,T,Y,Z,hT,er⟩:=Ym (m:=m) z ⋯;obtain⟨bs,ts,us,eb,ep,ac,a5⟩:=Qr (T:=T) (wd:=wd) (w:=vc ns) (m:=m) Y (λk=>by have:=Z k;omega) ⋯ λk i j _ _ _=>hT k i j;rw [zeU];have I:m+1<=lim:=by omega
 have x1:lw1 (je 3 [wn ns])=some (.next [.val (wn ns),.val (j9 p m (vc ns) wd T),.no]):=by
  have a6:F_law_any_row [wn ns,.int 1,.int (1+c%5),.int 3]=some (.val (j9 p m (vc ns) wd T)):=by rw [U];exact er
  simp [lw1,je,zii,e1,a6]
 have x2:lw2 [.val (wn ns),.val (j9 p m (vc ns) wd T),.no]=some (.next [.val (wn ns),.val (j9 p m (vc ns) wd T),.val (qN bs ts us)]):=by simp [lw2,eb]
 have x3:lw3 [.val (wn ns),.val (j9 p m (vc ns) wd T),.val (qN bs ts us)]=some (.next [.val (wn ns),.val (j9 p m (vc ns) wd T),.val (qN bs ts us)]):=by simp [lw3,ep]
 have ec:zO (.nm 0) zV (qw (zX (zY F_law_with_k28 (zb (sIx (zf 1) (zk (.int 0))) (zb (ze 0) zC))))) [.no,.val (qN bs ts us)] (zB (m+1) λi=>(i:Int))=some (zB (m+1) λk=>((wd k:Nat):Int)):=by
  unfold zB;refine zw _ _ λr O=>zx rfl rfl ?_;have O:=zig.mp O;have e:=xi (bs:=bs) ⋯ (r:Int);rw [<- xY]at e;have hw:=a5 r ⋯;simp [qN,e,hw]
 refine jB (zu x1 (zu x2 (zu x3 ?_)));have ir:inR ((m:Int)+1)=true:=by have:=yC I;rw [show((m+1:Nat):Int)=(m:Int)+1 by omega]at this;exact this
 have dr:=zbb (zaJ (m+1) λk=>(wd k:Int));simp [lw4,xQ,zT,I,ir,jI,ec,dr]
end
open PySem.Spec PyProof.Rows
def top(i:Nat):PySem.Stmt:=PySem.Challenge.pw_barsplit_k30_whole_any_row_falls_into_ba.main.body.getD i (.Pass ⟨0,0,0,0⟩)
section
variable{CR CL:PySem.Addr}{P:PySem.Program}{w:PySem.World}{K:PySem.W.Frag}{mg:PySem.Str->Option PySem.Value}{base:PySem.Heap}
theorem WI{α:Type}{us:List α}{n:Nat}(h:us.length=n+1) : ∃a t,us=a::t/\t.length=n:=by
 cases us with
 | nil=>exact absurd h (Nat.zero_ne_add_one n)
 | cons a t=>exact⟨a,t,rfl,Nat.succ.inj h⟩
theorem len1{α:Type}{us:List α}(h:us.length=1) : ∃a,us=[a]:=by
 obtain⟨a,I,rfl,z⟩:=WI h;rw [zje z];exact⟨a,rfl⟩
theorem len2{α:Type}{us:List α}(h:us.length=2) : ∃a b,us=[a,b]:=by
 obtain⟨a,I,rfl,z⟩:=WI h;obtain⟨b,O,rfl,h1⟩:=WI z;rw [zje h1];exact⟨a,b,rfl⟩
theorem len3{α:Type}{us:List α}(h:us.length=3) : ∃a b c,us=[a,b,c]:=by
 obtain⟨a,I,rfl,z⟩:=WI h;obtain⟨b,O,rfl,h1⟩:=WI z;obtain⟨c,S,rfl,h2⟩:=WI h1;rw [zje h2];exact⟨a,b,c,rfl⟩
theorem len4{α:Type}{us:List α}(h:us.length=4) : ∃a b c d,us=[a,b,c,d]:=by
 obtain⟨a,O,rfl,z⟩:=WI h;obtain⟨b,S,rfl,h1⟩:=WI z;obtain⟨c,U,rfl,h2⟩:=WI h1;obtain⟨d,Y,rfl,I⟩:=WI h2;rw [zje I];exact⟨a,b,c,d,rfl⟩
theorem ok_law_cell(D:DefAt K mg "_law_cell" (top 34) ["_law_script","_law_k"])(I:mg "len" = none)(O:mg "min" = none)(S:mg "range" = none):FnD P w K mg base 1 "_law_cell" 2 F_law_cell:=
 xU (N:=["_law_script","_law_k","_law_cell_here","_law_turn","_law_given"]) D ⋯ λX U hw Y hm Z z hx=>by
  subst U hw Y hm Z;exact(by refine zg ?_ ?_;exact(qb (ZJ (YZ (XR (qa z ⋯ I (zm 0 (z.var ⋯))) zh) (XO (kE z (qd (zI (zm 0 (z.var ⋯)) zh) zh) zh)))) ((by refine zg ?_ ?_;exact(zW 2 (z.set 2 ⋯ (zI (zm 0 (z.var ⋯)) (ju zh (qd (zc 1 (z.var ⋯)) (yP (qa z ⋯ I (zm 0 (z.var ⋯))) zh))))));refine zg ?_ ?_;exact(qz (T:= .nm 3) (xp hx) z.calm (jJ z ⋯ S (zee z ⋯ O zh (yQ (zc 1 (z.var ⋯)) (yP (qa z ⋯ I (zm 0 (z.var ⋯))) zh)))) (z.tgt 3 ⋯) (zv (zW 2 (z.set 2 ⋯ (yQ (zc 2 (z.var ⋯)) (Y0 zh zh))))));exact(zv (zP (qd (zc 2 (z.var ⋯)) (Y0 zh zh)))))) jj);refine zg ?_ ?_;exact(zW 4 (z.set 4 ⋯ (zc 1 (z.var ⋯))));refine zg ?_ ?_;exact(qb (XR (qa z ⋯ I (zm 0 (z.var ⋯))) zh) (zv (zW 4 (z.set 4 ⋯ (zI (zm 0 (z.var ⋯)) (qd (zc 1 (z.var ⋯)) (qa z ⋯ I (zm 0 (z.var ⋯)))))))) jj);exact(zv (zP (qd (qV (qd (ju (ju (ju (qV (qd (zc 4 (z.var ⋯)) (Y0 zh zh)) zh) (qV (qV zh (zc 1 (z.var ⋯))) (zc 1 (z.var ⋯)))) (qV zh (zc 1 (z.var ⋯)))) zh) zh) zh) zh))))
theorem ok_law_any_row(D:DefAt K mg "_law_any_row" (top 45) ["_law_script","_law_at","_law_rooms","_law_most"])(O:FnD P w K mg base 1 "_law_cell" 2 F_law_cell)(I:mg "range" = none)(S:mg "tuple" = none):FnD P w K mg base 2 "_law_any_row" 4 F_law_any_row:=
 xU (N:=["_law_script","_law_at","_law_rooms","_law_most","_law_p","_law_widths","_law_arrows","_law_k","_law_cell_here","_law_begin","_law_end","_law_rows","_law_step","_law_far"]) D ⋯ λX U hw Y hm Z z hx=>by
  subst U hw Y hm Z;exact(by refine zg ?_ ?_;exact(zW 4 (z.set 4 ⋯ (zI (PO.q (kX (xV (za zh (za zh (za zh (za zh zn))))))) (qd (jo O ⋯ z ⋯ (za (zc 0 (z.var ⋯)) (za (zc 1 (z.var ⋯)) zn))) zh))));refine zg ?_ ?_;exact(jv 5 (psc 5 z ⋯ (own:=["_law_k"]) (fr:=[("_law_script",0),("_law_at",1),("_law_most",3)]) (T:= .nm 0) z.calm (z.compOk (fr:=[("_law_script",0),("_law_at",1),("_law_most",3)]) ⋯) ⋯ (PIF.c (jJ z ⋯ I (zc 2 (z.var ⋯)))) (λfp s2 H2=>have h1:=z.cq ["_law_k"] [("_law_script",0),("_law_at",1),("_law_most",3)] fp s2 H2 ⋯;h1.tgt 0 ⋯) (λfp s2 H2=>have h1:=z.cq ["_law_k"] [("_law_script",0),("_law_at",1),("_law_most",3)] fp s2 H2 ⋯;qd (yQ (jo O ⋯ h1 ⋯ (za (zc 1 (h1.var ⋯)) (za (ju (ju (zc 2 (h1.var ⋯)) zh) (zc 0 (h1.var ⋯))) zn))) zh) (ju (zc 3 (h1.var ⋯)) zh))));refine zg ?_ ?_;exact(xE 6 (z.set 6 ⋯ (kX (xV zn))));refine zg ?_ ?_;exact(qz (T:= .nm 7) (xp hx) z.calm (jJ z ⋯ I (yP (zc 2 (z.var ⋯)) zh)) (z.tgt 7 ⋯) ((by refine zg ?_ ?_;exact(zW 8 (z.set 8 ⋯ (jo O ⋯ z ⋯ (za (zc 0 (z.var ⋯)) (za (ju (ju (zc 1 (z.var ⋯)) zh) (zc 7 (z.var ⋯))) zn)))));refine zg ?_ ?_;exact(zW 9 (z.set 9 ⋯ (zI (zm 5 (z.var ⋯)) (ju (zc 7 (z.var ⋯)) (qd (zc 8 (z.var ⋯)) zh)))));refine zg ?_ ?_;exact(zW 10 (z.set 10 ⋯ (zI (zm 5 (z.var ⋯)) (yP (ju (zc 7 (z.var ⋯)) zh) (qd (zc 8 (z.var ⋯)) zh)))));refine zg ?_ ?_;exact(zal 11 z ⋯ (own:=["_law_row"]) (fr:=[("_law_begin",9)]) (T:= .nm 0) z.calm (z.compOk (fr:=[("_law_begin",9)]) ⋯) ⋯ (PIF.c (jJ z ⋯ I (zc 10 (z.var ⋯)))) (λfp s2 H2=>have h1:=z.cq ["_law_row"] [("_law_begin",9)] fp s2 H2 ⋯;h1.tgt 0 ⋯) (λfp s2 H2=>have h1:=z.cq ["_law_row"] [("_law_begin",9)] fp s2 H2 ⋯;jk (own:=["_law_x"]) (fr:=[]) (T:= .nm 0) h1.calm (h1.compOk (fr:=[]) ⋯) ⋯ (PIF.c (jJ h1 ⋯ I (zc 1 (h1.var ⋯)))) (λfp s2 H2=>have h2:=h1.cq ["_law_x"] [] fp s2 H2 ⋯;h2.tgt 0 ⋯) (λ_ _ _=>zh)));refine zg ?_ ?_;exact(qz (T:= .nm 12) (xp hx) z.calm (jJ z ⋯ I (ju (qd (yQ (zc 8 (z.var ⋯)) zh) (ju (qV (zc 9 (z.var ⋯)) (zc 10 (z.var ⋯))) zh)) zh)) (z.tgt 12 ⋯) ((by refine zg ?_ ?_;exact(zW 13 (z.set 13 ⋯ (jo O ⋯ z ⋯ (za (zc 0 (z.var ⋯)) (za (ju (ju (ju (zc 1 (z.var ⋯)) zh) (qV zh (zc 7 (z.var ⋯)))) (zc 12 (z.var ⋯))) zn)))));exact(zv (qb (XR (qV (zc 9 (z.var ⋯)) (zc 10 (z.var ⋯))) zh) (zv (zam 11 z ⋯ (qd (zc 13 (z.var ⋯)) (zc 10 (z.var ⋯))) (qd (yQ (zc 13 (z.var ⋯)) zh) (zc 9 (z.var ⋯))) (qd (yQ (zc 13 (z.var ⋯)) zh) (zc 4 (z.var ⋯))))) jj)))));refine zg ?_ ?_;exact(qb (ZJ (YZ (kE z (qd (yQ (zc 8 (z.var ⋯)) zh) zh) zh) (XO (XR (zc 10 (z.var ⋯)) zh)))) (zv (zan 11 z ⋯ (yP (zc 10 (z.var ⋯)) zh) (jk (own:=["_law_x"]) (fr:=[("_law_p",4),("_law_cell_here",8)]) (T:= .nm 0) z.calm (z.compOk (fr:=[("_law_p",4),("_law_cell_here",8)]) ⋯) ⋯ (jd (zep 11 z ⋯ zh)) (λfp s2 H2=>have h1:=z.cq ["_law_x"] [("_law_p",4),("_law_cell_here",8)] fp s2 H2 ⋯;h1.tgt 0 ⋯) (λfp s2 H2=>have h1:=z.cq ["_law_x"] [("_law_p",4),("_law_cell_here",8)] fp s2 H2 ⋯;qd (qV (yQ (zc 2 (h1.var ⋯)) zh) (zc 0 (h1.var ⋯))) (zc 1 (h1.var ⋯)))))) jj);exact(zv (zao 11 (ZN 6 z ⋯ (jM (xV (za (zad kD (qd (zc 8 (z.var ⋯)) zh)) (za (jM (xV (za (zc 10 (z.var ⋯)) (za (zc 9 (z.var ⋯)) (za (jl z ⋯ S (PO.q (jk (own:=["_law_row"]) (fr:=[]) (T:= .nm 0) z.calm (z.compOk (fr:=[]) ⋯) ⋯ (jd (zm 11 (z.var ⋯))) (λfp s2 H2=>have h1:=z.cq ["_law_row"] [] fp s2 H2 ⋯;h1.tgt 0 ⋯) (λfp s2 H2=>have h1:=z.cq ["_law_row"] [] fp s2 H2 ⋯;jl h1 ⋯ S (zm 0 (h1.var ⋯)))))) zn))))) zn))))))))));exact(zv (zP (jM (xV (za (zc 4 (z.var ⋯)) (za (jl z ⋯ S (zm 5 (z.var ⋯))) (za (jl z ⋯ S (zm 6 (z.var ⋯))) zn))))))))
theorem ok_behind_noughts(D:DefAt K mg "behind_noughts" (top 13) ["many","base"])(I:mg "any" = none):FnD P w K mg base 1 "behind_noughts" 2 F_behind_noughts:=
 xU (N:=["many","base"]) D ⋯ λX O hw S hm U z hx=>by
  subst O hw S hm U;exact zv (qC (xo (own:=["load"]) (fr:=[("many",0)]) (T:= .nm 0) z.calm (z.compOk (fr:=[("many",0)]) ⋯) ⋯ (jd (zm 1 (z.var ⋯))) (λfp s2 H2=>have h1:=z.cq ["load"] [("many",0)] fp s2 H2 ⋯;h1.tgt 0 ⋯) (λfp s2 H2=>have h1:=z.cq ["load"] [("many",0)] fp s2 H2 ⋯;jZ (jN (zbG h1 ⋯ I (PV.q (JH (zc 0 (h1.var ⋯)) vQ (vP (zc 1 (h1.var ⋯)))))))) (λfp s2 H2=>have h1:=z.cq ["load"] [("many",0)] fp s2 H2 ⋯;JH (zc 0 (h1.var ⋯)) (vP (zc 1 (h1.var ⋯))) vQ)))
theorem ok_rests(D:DefAt K mg "rests" (top 4) ["p","numbers"])(I:mg "tuple" = none):FnD P w K mg base 1 "rests" 2 F_rests:=
 xU (N:=["p","numbers"]) D ⋯ λX O hw S hm U z hx=>by
  subst O hw S hm U;exact zv (zP (jl z ⋯ I (PO.q (jk (own:=["x"]) (fr:=[("p",0)]) (T:= .nm 0) z.calm (z.compOk (fr:=[("p",0)]) ⋯) ⋯ (jd (zm 1 (z.var ⋯))) (λfp s2 H2=>have h1:=z.cq ["x"] [("p",0)] fp s2 H2 ⋯;h1.tgt 0 ⋯) (λfp s2 H2=>have h1:=z.cq ["x"] [("p",0)] fp s2 H2 ⋯;qd (zc 0 (h1.var ⋯)) (zc 1 (h1.var ⋯)))))))
theorem ok_inverse(D:DefAt K mg "inverse" (top 5) ["p","x"])(I:mg "range" = none):FnD P w K mg base 1 "inverse" 2 F_inverse:=
 xU (N:=["p","x","y"]) D ⋯ λX O hw S hm U z hx=>by
  subst O hw S hm U;exact(by refine zg ?_ ?_;exact(qz (T:= .nm 2) (xp hx) z.calm (zat z ⋯ I zh (zc 0 (z.var ⋯))) (z.tgt 2 ⋯) (zv (qb (kE z (qd (qV (zc 1 (z.var ⋯)) (zc 2 (z.var ⋯))) (zc 0 (z.var ⋯))) zh) (zv (ZM 2 (z.var ⋯))) jj)));exact(zv Y6))
theorem ok_cleared(D:DefAt K mg "cleared" (top 11) ["p","load","pivot","place"])(I:FnD P w K mg base 1 "rests" 2 F_rests)(O:mg "zip" = none):FnD P w K mg base 2 "cleared" 4 F_cleared:=
 xU (N:=["p","load","pivot","place","much"]) D ⋯ λX S hw U hm Y z hx=>by
  subst S hw U hm Y;exact(by refine zg ?_ ?_;exact(zW 4 (z.set 4 ⋯ (zI (zm 1 (z.var ⋯)) (zc 3 (z.var ⋯)))));refine zg ?_ ?_;exact(qb (kE z (zc 4 (z.var ⋯)) zh) (zv (ZM 1 (z.var ⋯))) jj);exact(zv (zP (jo I ⋯ z ⋯ (za (zc 0 (z.var ⋯)) (za (PO.v (jk (own:=["x","y"]) (fr:=[("much",4)]) (T:= .tp [0,1]) z.calm (z.compOk (fr:=[("much",4)]) ⋯) ⋯ (PIF.c (vN z ⋯ O (zc 1 (z.var ⋯)) (zc 2 (z.var ⋯)))) (λfp s2 H2=>have h1:=z.cq ["x","y"] [("much",4)] fp s2 H2 ⋯;h1.tgts (zN (h1.tgt 0 ⋯) (zN (h1.tgt 1 ⋯) j1))) (λfp s2 H2=>have h1:=z.cq ["x","y"] [("much",4)] fp s2 H2 ⋯;yP (zc 0 (h1.var ⋯)) (qV (zc 2 (h1.var ⋯)) (zc 1 (h1.var ⋯)))))) zn))))))
theorem ok_base_of(D:DefAt K mg "base_of" (top 12) ["p","long","loads"])(I:FnD P w K mg base 1 "rests" 2 F_rests)(S:FnD P w K mg base 1 "inverse" 2 F_inverse)(O:FnD P w K mg base 2 "cleared" 4 F_cleared)(U:mg "range" = none):FnD P w K mg base 3 "base_of" 3 F_base_of:=
 xU (N:=["p","long","loads","left","base","place","leading","times","pivot"]) D ⋯ λX Y hw Z hm hb z hx=>by
  subst Y hw Z hm hb;exact(by refine zg ?_ ?_;exact(jv 3 (psc 3 z ⋯ (own:=["load"]) (fr:=[("p",0)]) (T:= .nm 0) z.calm (z.compOk (fr:=[("p",0)]) ⋯) ⋯ (jd (zm 2 (z.var ⋯))) (λfp s2 H2=>have h1:=z.cq ["load"] [("p",0)] fp s2 H2 ⋯;h1.tgt 0 ⋯) (λfp s2 H2=>have h1:=z.cq ["load"] [("p",0)] fp s2 H2 ⋯;jo I ⋯ h1 ⋯ (za (zc 1 (h1.var ⋯)) (za (zc 0 (h1.var ⋯)) zn)))));refine zg ?_ ?_;exact(xE 4 (z.set 4 ⋯ (kX (xV zn))));refine zg ?_ ?_;exact(qz (T:= .nm 5) (xp hx) z.calm (jJ z ⋯ U (zc 1 (z.var ⋯))) (z.tgt 5 ⋯) ((by refine zg ?_ ?_;exact(jv 6 (zcu 6 z ⋯ (own:=["load"]) (fr:=[("place",5)]) (T:= .nm 0) z.calm (z.compOk (fr:=[("place",5)]) ⋯) ⋯ (jd (zm 3 (z.var ⋯))) (λfp s2 H2=>have h1:=z.cq ["load"] [("place",5)] fp s2 H2 ⋯;h1.tgt 0 ⋯) (λfp s2 H2=>have h1:=z.cq ["load"] [("place",5)] fp s2 H2 ⋯;xc h1 (zI (zm 0 (h1.var ⋯)) (zc 1 (h1.var ⋯))) zh) (λfp s2 H2=>have h1:=z.cq ["load"] [("place",5)] fp s2 H2 ⋯;zc 0 (h1.var ⋯))));refine zg ?_ ?_;exact(qb (jZ (zah (zm 6 (z.var ⋯)))) (zv JL) jj);refine zg ?_ ?_;exact(zW 7 (z.set 7 ⋯ (jo S ⋯ z ⋯ (za (zc 0 (z.var ⋯)) (za (zI (PV.q (zI (zm 6 (z.var ⋯)) zh)) (zc 5 (z.var ⋯))) zn)))));refine zg ?_ ?_;exact(zW 8 (z.set 8 ⋯ (jo I ⋯ z ⋯ (za (zc 0 (z.var ⋯)) (za (PO.v (jk (own:=["x"]) (fr:=[("times",7)]) (T:= .nm 0) z.calm (z.compOk (fr:=[("times",7)]) ⋯) ⋯ (jd (PV.q (zI (zm 6 (z.var ⋯)) zh))) (λfp s2 H2=>have h1:=z.cq ["x"] [("times",7)] fp s2 H2 ⋯;h1.tgt 0 ⋯) (λfp s2 H2=>have h1:=z.cq ["x"] [("times",7)] fp s2 H2 ⋯;qV (zc 1 (h1.var ⋯)) (zc 0 (h1.var ⋯))))) zn)))));refine zg ?_ ?_;exact(jv 3 (psc 3 z ⋯ (own:=["load"]) (fr:=[("p",0),("place",5),("pivot",8)]) (T:= .nm 0) z.calm (z.compOk (fr:=[("p",0),("place",5),("pivot",8)]) ⋯) ⋯ (jd (zm 3 (z.var ⋯))) (λfp s2 H2=>have h1:=z.cq ["load"] [("p",0),("place",5),("pivot",8)] fp s2 H2 ⋯;h1.tgt 0 ⋯) (λfp s2 H2=>have h1:=z.cq ["load"] [("p",0),("place",5),("pivot",8)] fp s2 H2 ⋯;jo O ⋯ h1 ⋯ (za (zc 1 (h1.var ⋯)) (za (zc 0 (h1.var ⋯)) (za (zc 3 (h1.var ⋯)) (za (zc 2 (h1.var ⋯)) zn)))))));exact(zv (xE 4 (z.set 4 ⋯ (JN (PO.q (jk (own:=["load"]) (fr:=[("p",0),("place",5),("pivot",8)]) (T:= .nm 0) z.calm (z.compOk (fr:=[("p",0),("place",5),("pivot",8)]) ⋯) ⋯ (jd (zm 4 (z.var ⋯))) (λfp s2 H2=>have h1:=z.cq ["load"] [("p",0),("place",5),("pivot",8)] fp s2 H2 ⋯;h1.tgt 0 ⋯) (λfp s2 H2=>have h1:=z.cq ["load"] [("p",0),("place",5),("pivot",8)] fp s2 H2 ⋯;jo O ⋯ h1 ⋯ (za (zc 1 (h1.var ⋯)) (za (zc 0 (h1.var ⋯)) (za (zc 3 (h1.var ⋯)) (za (zc 2 (h1.var ⋯)) zn))))))) (PO.q (kX (xV (za (zc 8 (z.var ⋯)) zn)))))))))));exact(zv (ZM 4 (z.var ⋯))))
theorem ok_turned_over(D:DefAt K mg "turned_over" (top 7) ["table"])(O:mg "range" = none)(I:mg "tuple" = none):FnD P w K mg base 1 "turned_over" 1 F_turned_over:=
 xU (N:=["table","columns"]) D ⋯ λX S hw U hm Y z hx=>by
  subst S hw U hm Y;exact(by refine zg ?_ ?_;exact(jv 1 (psc 1 z ⋯ (own:=["j"]) (fr:=[("table",0)]) (T:= .nm 0) z.calm (z.compOk (fr:=[("table",0)]) ⋯) ⋯ (PIF.c (jJ z ⋯ O (zI (zm 0 (z.var ⋯)) zh))) (λfp s2 H2=>have h1:=z.cq ["j"] [("table",0)] fp s2 H2 ⋯;h1.tgt 0 ⋯) (λfp s2 H2=>have h1:=z.cq ["j"] [("table",0)] fp s2 H2 ⋯;jl h1 ⋯ I (PO.q (jk (own:=["row"]) (fr:=[("j",0)]) (T:= .nm 0) h1.calm (h1.compOk (fr:=[("j",0)]) ⋯) ⋯ (jd (PV.q (zI (zm 1 (h1.var ⋯)) zh))) (λfp s2 H2=>have h2:=h1.cq ["row"] [("j",0)] fp s2 H2 ⋯;h2.tgt 0 ⋯) (λfp s2 H2=>have h2:=h1.cq ["row"] [("j",0)] fp s2 H2 ⋯;zI (zm 0 (h2.var ⋯)) (zc 1 (h2.var ⋯))))))));exact(zv (zP (jM (xV (za (zI (zm 0 (z.var ⋯)) zh) (za (zI (zm 0 (z.var ⋯)) zh) (za (jl z ⋯ I (zm 1 (z.var ⋯))) zn))))))))
theorem ok_same_table(D:DefAt K mg "same_table" (top 8) ["many"])(I:mg "range" = none)(O:mg "tuple" = none):FnD P w K mg base 1 "same_table" 1 F_same_table:=
 xU (N:=["many","rows"]) D ⋯ λX S hw U hm Y z hx=>by
  subst S hw U hm Y;exact(by refine zg ?_ ?_;exact(jv 1 (psc 1 z ⋯ (own:=["i"]) (fr:=[("many",0)]) (T:= .nm 0) z.calm (z.compOk (fr:=[("many",0)]) ⋯) ⋯ (PIF.c (jJ z ⋯ I (zc 0 (z.var ⋯)))) (λfp s2 H2=>have h1:=z.cq ["i"] [("many",0)] fp s2 H2 ⋯;h1.tgt 0 ⋯) (λfp s2 H2=>have h1:=z.cq ["i"] [("many",0)] fp s2 H2 ⋯;jl h1 ⋯ O (PO.q (jk (own:=["j"]) (fr:=[("i",0)]) (T:= .nm 0) h1.calm (h1.compOk (fr:=[("i",0)]) ⋯) ⋯ (PIF.c (jJ h1 ⋯ I (zc 1 (h1.var ⋯)))) (λfp s2 H2=>have h2:=h1.cq ["j"] [("i",0)] fp s2 H2 ⋯;h2.tgt 0 ⋯) (λfp s2 H2=>have h2:=h1.cq ["j"] [("i",0)] fp s2 H2 ⋯;ko (kE h2 (zc 1 (h2.var ⋯)) (zc 0 (h2.var ⋯))) zh zh))))));exact(zv (zP (jM (xV (za (zc 0 (z.var ⋯)) (za (zc 0 (z.var ⋯)) (za (jl z ⋯ O (zm 1 (z.var ⋯))) zn))))))))
theorem ok_led_into(D:DefAt K mg "led_into" (top 14) ["p","table","base"])(I:FnD P w K mg base 1 "behind_noughts" 2 F_behind_noughts)(O:FnD P w K mg base 3 "base_of" 3 F_base_of)(S:FnD P w K mg base 1 "turned_over" 1 F_turned_over)(U:FnD P w K mg base 1 "same_table" 1 F_same_table)(Y:mg "zip" = none):FnD P w K mg base 4 "led_into" 3 F_led_into:=
 xU (N:=["p","table","base","pairs","free"]) D ⋯ λX Z hw hK hm hb z hx=>by
  subst Z hw hK hm hb;exact(by refine zg ?_ ?_;exact(jv 3 (psc 3 z ⋯ (own:=["column","unit"]) (fr:=[]) (T:= .tp [0,1]) z.calm (z.compOk (fr:=[]) ⋯) ⋯ (PIF.c (vN z ⋯ Y (zI (PV.q (jo S ⋯ z ⋯ (za (zc 1 (z.var ⋯)) zn))) zh) (zI (PV.q (jo U ⋯ z ⋯ (za (zI (zm 1 (z.var ⋯)) zh) zn))) zh))) (λfp s2 H2=>have h1:=z.cq ["column","unit"] [] fp s2 H2 ⋯;h1.tgts (zN (h1.tgt 0 ⋯) (zN (h1.tgt 1 ⋯) j1))) (λfp s2 H2=>have h1:=z.cq ["column","unit"] [] fp s2 H2 ⋯;ju (zc 0 (h1.var ⋯)) (zc 1 (h1.var ⋯)))));refine zg ?_ ?_;exact(jv 4 (psc 4 z ⋯ (own:=["load"]) (fr:=[("table",1)]) (T:= .nm 0) z.calm (z.compOk (fr:=[("table",1)]) ⋯) ⋯ (jd (zm 2 (z.var ⋯))) (λfp s2 H2=>have h1:=z.cq ["load"] [("table",1)] fp s2 H2 ⋯;h1.tgt 0 ⋯) (λfp s2 H2=>have h1:=z.cq ["load"] [("table",1)] fp s2 H2 ⋯;ju (zc 0 (h1.var ⋯)) (qV (jM (xV (za zh zn))) (zI (zm 1 (h1.var ⋯)) zh)))));exact(zv (qC (xk I ⋯ z ⋯ (za (zI (zm 1 (z.var ⋯)) zh) (za (PO.v (xk O ⋯ z ⋯ (za (zc 0 (z.var ⋯)) (za (ju (zI (zm 1 (z.var ⋯)) zh) (zI (zm 1 (z.var ⋯)) zh)) (za (PO.v (JN (zm 3 (z.var ⋯)) (zm 4 (z.var ⋯)))) zn))))) zn))))))
theorem ok_kernel(D:DefAt K mg "kernel" (top 15) ["p","table"])(I:FnD P w K mg base 4 "led_into" 3 F_led_into):FnD P w K mg base 5 "kernel" 2 F_kernel:=
 xU (N:=["p","table"]) D ⋯ λX O hw S hm U z hx=>by
  subst O hw S hm U;exact zv (qC (xk I ⋯ z ⋯ (za (zc 0 (z.var ⋯)) (za (zc 1 (z.var ⋯)) (za (PO.v (kX (xV zn))) zn)))))
theorem ok_image(D:DefAt K mg "image" (top 16) ["p","table"])(I:FnD P w K mg base 3 "base_of" 3 F_base_of)(O:FnD P w K mg base 1 "turned_over" 1 F_turned_over):FnD P w K mg base 4 "image" 2 F_image:=
 xU (N:=["p","table"]) D ⋯ λX S hw U hm Y z hx=>by
  subst S hw U hm Y;exact zv (qC (xk I ⋯ z ⋯ (za (zc 0 (z.var ⋯)) (za (zI (zm 1 (z.var ⋯)) zh) (za (zI (PV.q (jo O ⋯ z ⋯ (za (zc 1 (z.var ⋯)) zn))) zh) zn)))))
theorem ok_columns(D:DefAt K mg "columns" (top 23) ["high","loads"])(I:FnD P w K mg base 1 "turned_over" 1 F_turned_over)(O:mg "len" = none)(S:mg "tuple" = none):FnD P w K mg base 2 "columns" 2 F_columns:=
 xU (N:=["high","loads"]) D ⋯ λX U hw Y hm Z z hx=>by
  subst U hw Y hm Z;exact zv (zP (jo I ⋯ z ⋯ (za (jM (xV (za (qa z ⋯ O (zm 1 (z.var ⋯))) (za (zc 0 (z.var ⋯)) (za (jl z ⋯ S (zm 1 (z.var ⋯))) zn))))) zn)))
theorem ok_has_room(D:DefAt K mg "has_room" (top 21) ["bar","room"])(I:mg "len" = none):FnD P w K mg base 1 "has_room" 2 F_has_room:=
 xU (N:=["bar","room"]) D ⋯ λX O hw S hm U z hx=>by
  subst O hw S hm U;exact zv (zP (XQ K1 zcL wX YM (zI (zm 0 (z.var ⋯)) zh) (zc 1 (z.var ⋯)) (ju (zI (zm 0 (z.var ⋯)) zh) (qa z ⋯ I (PV.q (zI (zm 0 (z.var ⋯)) zh))))))
theorem ok_loads_in(D:DefAt K mg "loads_in" (top 22) ["bars","room"])(I:FnD P w K mg base 1 "has_room" 2 F_has_room):FnD P w K mg base 2 "loads_in" 2 F_loads_in:=
 xU (N:=["bars","room"]) D ⋯ λX O hw S hm U z hx=>by
  subst O hw S hm U;exact zv (qC (xo (own:=["bar"]) (fr:=[("room",1)]) (T:= .nm 0) z.calm (z.compOk (fr:=[("room",1)]) ⋯) ⋯ (jd (zm 0 (z.var ⋯))) (λfp s2 H2=>have h1:=z.cq ["bar"] [("room",1)] fp s2 H2 ⋯;h1.tgt 0 ⋯) (λfp s2 H2=>have h1:=z.cq ["bar"] [("room",1)] fp s2 H2 ⋯;jN (jo I ⋯ h1 ⋯ (za (zc 0 (h1.var ⋯)) (za (zc 1 (h1.var ⋯)) zn)))) (λfp s2 H2=>have h1:=z.cq ["bar"] [("room",1)] fp s2 H2 ⋯;zI (PV.q (zI (zm 0 (h1.var ⋯)) zh)) (yP (zc 1 (h1.var ⋯)) (zI (zm 0 (h1.var ⋯)) zh)))))
theorem ok_lead_of(D:DefAt K mg "lead_of" (top 10) ["load"])(I:mg "enumerate" = none):FnD P w K mg base 1 "lead_of" 1 F_lead_of:=
 xU (N:=["load"]) D ⋯ λX O hw S hm U z hx=>by
  subst O hw S hm U;exact zv (zP (zI (PO.q (xo (own:=["place","x"]) (fr:=[]) (T:= .tp [0,1]) z.calm (z.compOk (fr:=[]) ⋯) ⋯ (PIF.c (XT z ⋯ I (zc 0 (z.var ⋯)))) (λfp s2 H2=>have h1:=z.cq ["place","x"] [] fp s2 H2 ⋯;h1.tgts (zN (h1.tgt 0 ⋯) (zN (h1.tgt 1 ⋯) j1))) (λfp s2 H2=>have h1:=z.cq ["place","x"] [] fp s2 H2 ⋯;xc h1 (zc 1 (h1.var ⋯)) zh) (λfp s2 H2=>have h1:=z.cq ["place","x"] [] fp s2 H2 ⋯;zc 0 (h1.var ⋯)))) zh))
theorem ok_led(D:DefAt K mg "led" (top 6) ["p","table","load"])(I:FnD P w K mg base 1 "rests" 2 F_rests)(O:mg "sum" = none)(S:mg "zip" = none):FnD P w K mg base 2 "led" 3 F_led:=
 xU (N:=["p","table","load"]) D ⋯ λX U hw Y hm Z z hx=>by
  subst U hw Y hm Z;exact zv (zP (jo I ⋯ z ⋯ (za (zc 0 (z.var ⋯)) (za (PO.v (jk (own:=["row"]) (fr:=[("load",2)]) (T:= .nm 0) z.calm (z.compOk (fr:=[("load",2)]) ⋯) ⋯ (jd (PV.q (zI (zm 1 (z.var ⋯)) zh))) (λfp s2 H2=>have h1:=z.cq ["row"] [("load",2)] fp s2 H2 ⋯;h1.tgt 0 ⋯) (λfp s2 H2=>have h1:=z.cq ["row"] [("load",2)] fp s2 H2 ⋯;zbE h1 ⋯ O (PO.q (jk (own:=["x","y"]) (fr:=[]) (T:= .tp [0,1]) h1.calm (h1.compOk (fr:=[]) ⋯) ⋯ (PIF.c (vN h1 ⋯ S (zc 0 (h1.var ⋯)) (zc 1 (h1.var ⋯)))) (λfp s2 H2=>have h2:=h1.cq ["x","y"] [] fp s2 H2 ⋯;h2.tgts (zN (h2.tgt 0 ⋯) (zN (h2.tgt 1 ⋯) j1))) (λfp s2 H2=>have h2:=h1.cq ["x","y"] [] fp s2 H2 ⋯;qV (zc 0 (h2.var ⋯)) (zc 1 (h2.var ⋯)))))))) zn))))
theorem ok_mixed_load(D:DefAt K mg "mixed_load" (top 24) ["row","bars","times","room"])(I:FnD P w K mg base 2 "led" 3 F_led)(O:FnD P w K mg base 2 "columns" 2 F_columns)(S:FnD P w K mg base 1 "has_room" 2 F_has_room)(U:FnD P w K mg base 2 "loads_in" 2 F_loads_in)(Y:mg "zip" = none):FnD P w K mg base 3 "mixed_load" 4 F_mixed_load:=
 xU (N:=["row","bars","times","room","there"]) D ⋯ λX Z hw hK hm hb z hx=>by
  subst Z hw hK hm hb;exact(by refine zg ?_ ?_;exact(jv 4 (zcu 4 z ⋯ (own:=["much","bar"]) (fr:=[("room",3)]) (T:= .tp [0,1]) z.calm (z.compOk (fr:=[("room",3)]) ⋯) ⋯ (PIF.c (vN z ⋯ Y (zc 2 (z.var ⋯)) (zc 1 (z.var ⋯)))) (λfp s2 H2=>have h1:=z.cq ["much","bar"] [("room",3)] fp s2 H2 ⋯;h1.tgts (zN (h1.tgt 0 ⋯) (zN (h1.tgt 1 ⋯) j1))) (λfp s2 H2=>have h1:=z.cq ["much","bar"] [("room",3)] fp s2 H2 ⋯;jN (jo S ⋯ h1 ⋯ (za (zc 1 (h1.var ⋯)) (za (zc 2 (h1.var ⋯)) zn)))) (λfp s2 H2=>have h1:=z.cq ["much","bar"] [("room",3)] fp s2 H2 ⋯;zc 0 (h1.var ⋯))));exact(zv (zP (jo I ⋯ z ⋯ (za (zI (zm 0 (z.var ⋯)) zh) (za (jo O ⋯ z ⋯ (za (zI (PV.q (zI (zm 0 (z.var ⋯)) zh)) (zc 3 (z.var ⋯))) (za (PO.v (xk U ⋯ z ⋯ (za (zc 1 (z.var ⋯)) (za (zc 3 (z.var ⋯)) zn)))) zn))) (za (zc 4 (z.var ⋯)) zn)))))))
theorem ok_mixed(D:DefAt K mg "mixed" (top 25) ["row","bars","times"])(I:FnD P w K mg base 1 "lead_of" 1 F_lead_of)(O:FnD P w K mg base 3 "mixed_load" 4 F_mixed_load)(S:mg "len" = none)(U:mg "range" = none)(Y:mg "tuple" = none):FnD P w K mg base 4 "mixed" 3 F_mixed:=
 xU (N:=["row","bars","times","first","loads"]) D ⋯ λX Z hw hK hm hb z hx=>by
  subst Z hw hK hm hb;exact(by refine zg ?_ ?_;exact(zW 3 (z.set 3 ⋯ (zI (zm 1 (z.var ⋯)) (jo I ⋯ z ⋯ (za (zc 2 (z.var ⋯)) zn)))));refine zg ?_ ?_;exact(jv 4 (psc 4 z ⋯ (own:=["place"]) (fr:=[("row",0),("bars",1),("times",2),("first",3)]) (T:= .nm 0) z.calm (z.compOk (fr:=[("row",0),("bars",1),("times",2),("first",3)]) ⋯) ⋯ (PIF.c (jJ z ⋯ U (qa z ⋯ S (PV.q (zI (zm 3 (z.var ⋯)) zh))))) (λfp s2 H2=>have h1:=z.cq ["place"] [("row",0),("bars",1),("times",2),("first",3)] fp s2 H2 ⋯;h1.tgt 0 ⋯) (λfp s2 H2=>have h1:=z.cq ["place"] [("row",0),("bars",1),("times",2),("first",3)] fp s2 H2 ⋯;jo O ⋯ h1 ⋯ (za (zc 1 (h1.var ⋯)) (za (zc 2 (h1.var ⋯)) (za (zc 3 (h1.var ⋯)) (za (ju (zI (zm 4 (h1.var ⋯)) zh) (zc 0 (h1.var ⋯))) zn)))))));exact(zv (zP (jM (xV (za (zI (zm 3 (z.var ⋯)) zh) (za (jl z ⋯ Y (zm 4 (z.var ⋯))) zn)))))))
theorem ok_settled(D:DefAt K mg "settled" (top 26) ["row","k","bars"])(I:FnD P w K mg base 4 "led_into" 3 F_led_into)(O:FnD P w K mg base 5 "kernel" 2 F_kernel)(S:FnD P w K mg base 4 "image" 2 F_image)(U:FnD P w K mg base 2 "columns" 2 F_columns)(Y:FnD P w K mg base 2 "loads_in" 2 F_loads_in)(Z:FnD P w K mg base 4 "mixed" 3 F_mixed)(a0:FnD P w K mg base 1 "lead_of" 1 F_lead_of)(a1:mg "dict" = none)(a2:mg "enumerate" = none):FnD P w K mg base 6 "settled" 3 F_settled:=
 xU (N:=["row","k","bars","way","table","special","base","leads"]) D ⋯ λX hP hw hK hm hb z hx=>by
  subst hP hw hK hm hb;exact(by refine zg ?_ ?_;exact(zW 3 (z.set 3 ⋯ (zI (PV.q (zI (PV.q (zI (zm 0 (z.var ⋯)) zh)) (zc 1 (z.var ⋯)))) zh)));refine zg ?_ ?_;exact(zW 4 (z.set 4 ⋯ (zI (PV.q (zI (PV.q (zI (zm 0 (z.var ⋯)) zh)) (zc 1 (z.var ⋯)))) zh)));refine zg ?_ ?_;exact(zW 5 (z.set 5 ⋯ (ko (kE z (zc 3 (z.var ⋯)) kD) (PO.v (xk O ⋯ z ⋯ (za (zI (zm 0 (z.var ⋯)) zh) (za (zc 4 (z.var ⋯)) zn)))) (PO.v (xk S ⋯ z ⋯ (za (zI (zm 0 (z.var ⋯)) zh) (za (zc 4 (z.var ⋯)) zn)))))));refine zg ?_ ?_;exact(zW 6 (z.set 6 ⋯ (PO.v (xk I ⋯ z ⋯ (za (zI (zm 0 (z.var ⋯)) zh) (za (jo U ⋯ z ⋯ (za (zI (PV.q (zI (zm 0 (z.var ⋯)) zh)) (zc 1 (z.var ⋯))) (za (PO.v (xk Y ⋯ z ⋯ (za (zc 2 (z.var ⋯)) (za (zc 1 (z.var ⋯)) zn)))) zn))) (za (zc 5 (z.var ⋯)) zn)))))));refine zg ?_ ?_;exact(zW 7 (z.set 7 ⋯ (zaf z ⋯ a1 (jk (own:=["times"]) (fr:=[]) (T:= .nm 0) z.calm (z.compOk (fr:=[]) ⋯) ⋯ (jd (zm 6 (z.var ⋯))) (λfp s2 H2=>have h1:=z.cq ["times"] [] fp s2 H2 ⋯;h1.tgt 0 ⋯) (λfp s2 H2=>have h1:=z.cq ["times"] [] fp s2 H2 ⋯;jM (xV (za (jo a0 ⋯ h1 ⋯ (za (zc 0 (h1.var ⋯)) zn)) (za (zc 0 (h1.var ⋯)) zn))))))));exact(zv (qC (jk (own:=["place","bar"]) (fr:=[("row",0),("bars",2),("leads",7)]) (T:= .tp [0,1]) z.calm (z.compOk (fr:=[("row",0),("bars",2),("leads",7)]) ⋯) ⋯ (PIF.c (Va z ⋯ a2 (zc 2 (z.var ⋯)))) (λfp s2 H2=>have h1:=z.cq ["place","bar"] [("row",0),("bars",2),("leads",7)] fp s2 H2 ⋯;h1.tgts (zN (h1.tgt 0 ⋯) (zN (h1.tgt 1 ⋯) j1))) (λfp s2 H2=>have h1:=z.cq ["place","bar"] [("row",0),("bars",2),("leads",7)] fp s2 H2 ⋯;ko (zcr h1 (zc 0 (h1.var ⋯)) (zc 4 (h1.var ⋯))) (jo Z ⋯ h1 ⋯ (za (zc 2 (h1.var ⋯)) (za (zc 3 (h1.var ⋯)) (za (zef h1 (zc 4 (h1.var ⋯)) (zc 0 (h1.var ⋯))) zn)))) (zc 1 (h1.var ⋯)))))))
theorem ok_solved(D:DefAt K mg "solved" (top 17) ["p","table","load"])(I:FnD P w K mg base 3 "base_of" 3 F_base_of)(O:FnD P w K mg base 1 "lead_of" 1 F_lead_of)(S:mg "tuple" = none)(U:mg "zip" = none):FnD P w K mg base 4 "solved" 3 F_solved:=
 xU (N:=["p","table","load","wide","answer","line","place"]) D ⋯ λX Y hw Z hm hb z hx=>by
  subst Y hw Z hm hb;exact(by refine zg ?_ ?_;exact(zW 3 (z.set 3 ⋯ (zI (zm 1 (z.var ⋯)) zh)));refine zg ?_ ?_;exact(xE 4 (z.set 4 ⋯ (zeq (kX (xV (za zh zn))) (zc 3 (z.var ⋯)))));refine zg ?_ ?_;exact(qz (T:= .nm 5) (xp hx) z.calm (ZQ (PO.v (xk I ⋯ z ⋯ (za (zc 0 (z.var ⋯)) (za (ju (zc 3 (z.var ⋯)) zh) (za (PO.v (jk (own:=["row","x"]) (fr:=[]) (T:= .tp [0,1]) z.calm (z.compOk (fr:=[]) ⋯) ⋯ (PIF.c (vN z ⋯ U (zI (zm 1 (z.var ⋯)) zh) (zc 2 (z.var ⋯)))) (λfp s2 H2=>have h1:=z.cq ["row","x"] [] fp s2 H2 ⋯;h1.tgts (zN (h1.tgt 0 ⋯) (zN (h1.tgt 1 ⋯) j1))) (λfp s2 H2=>have h1:=z.cq ["row","x"] [] fp s2 H2 ⋯;ju (zc 0 (h1.var ⋯)) (jM (xV (za (zc 1 (h1.var ⋯)) zn)))))) zn)))))) (z.tgt 5 ⋯) ((by refine zg ?_ ?_;exact(zW 6 (z.set 6 ⋯ (jo O ⋯ z ⋯ (za (zc 5 (z.var ⋯)) zn))));refine zg ?_ ?_;exact(qb (kE z (zc 6 (z.var ⋯)) (zc 3 (z.var ⋯))) (zv (zP JI)) jj);exact(zv (Y5 4 z ⋯ (zc 6 (z.var ⋯)) (zI (zm 5 (z.var ⋯)) (zc 3 (z.var ⋯))))))));exact(zv (zP (jl z ⋯ S (zm 4 (z.var ⋯))))))
theorem ok_next_load(D:DefAt K mg "next_load" (top 27) ["p","arrow","load"])(I:FnD P w K mg base 2 "led" 3 F_led)(O:FnD P w K mg base 4 "solved" 3 F_solved)(S:mg "any" = none):FnD P w K mg base 5 "next_load" 3 F_next_load:=
 xU (N:=["p","arrow","load","there"]) D ⋯ λX U hw Y hm Z z hx=>by
  subst U hw Y hm Z;exact(by refine zg ?_ ?_;exact(qb (kE z (zI (zm 1 (z.var ⋯)) zh) kD) (zv (zP (jo O ⋯ z ⋯ (za (zc 0 (z.var ⋯)) (za (zI (zm 1 (z.var ⋯)) zh) (za (zc 2 (z.var ⋯)) zn)))))) jj);refine zg ?_ ?_;exact(zW 3 (z.set 3 ⋯ (jo I ⋯ z ⋯ (za (zc 0 (z.var ⋯)) (za (zI (zm 1 (z.var ⋯)) zh) (za (zc 2 (z.var ⋯)) zn))))));exact(zv (zP (ko (jN (zbG z ⋯ S (zm 3 (z.var ⋯)))) (zc 3 (z.var ⋯)) JI))))
theorem ok_taken_on(D:DefAt K mg "taken_on" (top 28) ["p","arrow","bar"])(I:FnD P w K mg base 5 "next_load" 3 F_next_load):FnD P w K mg base 6 "taken_on" 3 F_taken_on:=
 xU (N:=["p","arrow","bar","load"]) D ⋯ λX O hw S hm U z hx=>by
  subst O hw S hm U;exact(by refine zg ?_ ?_;exact(zW 3 (z.set 3 ⋯ (jo I ⋯ z ⋯ (za (zc 0 (z.var ⋯)) (za (zc 1 (z.var ⋯)) (za (zI (PV.q (zI (zm 2 (z.var ⋯)) zh)) (zed zh)) zn))))));exact(zv (zP (ko (zcq (zc 3 (z.var ⋯)) JI) (zc 2 (z.var ⋯)) (jM (xV (za (zI (zm 2 (z.var ⋯)) zh) (za (ju (zI (zm 2 (z.var ⋯)) zh) (jM (xV (za (zc 3 (z.var ⋯)) zn)))) zn))))))))
theorem ok_new_loads(D:DefAt K mg "new_loads" (top 29) ["p","arrow"])(I:FnD P w K mg base 5 "kernel" 2 F_kernel)(O:FnD P w K mg base 1 "lead_of" 1 F_lead_of)(S:FnD P w K mg base 4 "image" 2 F_image)(U:FnD P w K mg base 1 "same_table" 1 F_same_table)(Y:mg "enumerate" = none):FnD P w K mg base 6 "new_loads" 2 F_new_loads:=
 xU (N:=["p","arrow","leads"]) D ⋯ λX Z hw hK hm hb z hx=>by
  subst Z hw hK hm hb;exact(by refine zg ?_ ?_;exact(qb (kE z (zI (zm 1 (z.var ⋯)) zh) kD) (zv (qC (xk I ⋯ z ⋯ (za (zc 0 (z.var ⋯)) (za (zI (zm 1 (z.var ⋯)) zh) zn))))) jj);refine zg ?_ ?_;exact(jv 2 (psc 2 z ⋯ (own:=["load"]) (fr:=[]) (T:= .nm 0) z.calm (z.compOk (fr:=[]) ⋯) ⋯ (jd (PO.q (xk S ⋯ z ⋯ (za (zc 0 (z.var ⋯)) (za (zI (zm 1 (z.var ⋯)) zh) zn))))) (λfp s2 H2=>have h1:=z.cq ["load"] [] fp s2 H2 ⋯;h1.tgt 0 ⋯) (λfp s2 H2=>have h1:=z.cq ["load"] [] fp s2 H2 ⋯;jo O ⋯ h1 ⋯ (za (zc 0 (h1.var ⋯)) zn))));exact(zv (qC (xo (own:=["place","unit"]) (fr:=[("leads",2)]) (T:= .tp [0,1]) z.calm (z.compOk (fr:=[("leads",2)]) ⋯) ⋯ (PIF.c (XT z ⋯ Y (zI (PV.q (jo U ⋯ z ⋯ (za (zI (PV.q (zI (zm 1 (z.var ⋯)) zh)) zh) zn))) zh))) (λfp s2 H2=>have h1:=z.cq ["place","unit"] [("leads",2)] fp s2 H2 ⋯;h1.tgts (zN (h1.tgt 0 ⋯) (zN (h1.tgt 1 ⋯) j1))) (λfp s2 H2=>have h1:=z.cq ["place","unit"] [("leads",2)] fp s2 H2 ⋯;KQ (zc 0 (h1.var ⋯)) (zm 2 (h1.var ⋯))) (λfp s2 H2=>have h1:=z.cq ["place","unit"] [("leads",2)] fp s2 H2 ⋯;zc 1 (h1.var ⋯))))))
theorem ok_grown(D:DefAt K mg "grown" (top 30) ["row","k","bars"])(O:FnD P w K mg base 6 "settled" 3 F_settled)(S:FnD P w K mg base 6 "taken_on" 3 F_taken_on)(U:FnD P w K mg base 6 "new_loads" 2 F_new_loads)(I:FnD P w K mg base 1 "has_room" 2 F_has_room):FnD P w K mg base 7 "grown" 3 F_grown:=
 xU (N:=["row","k","bars","p","arrow","ended","here","old","new"]) D ⋯ λX Y hw Z hm hb z hx=>by
  subst Y hw Z hm hb;exact(by refine zg ?_ ?_;exact(zW 3 (z.set 3 ⋯ (zI (zm 0 (z.var ⋯)) zh)));refine zg ?_ ?_;exact(zW 4 (z.set 4 ⋯ (zI (PV.q (zI (zm 0 (z.var ⋯)) zh)) (zc 1 (z.var ⋯)))));refine zg ?_ ?_;exact(jv 5 (zcu 5 z ⋯ (own:=["bar"]) (fr:=[("k",1)]) (T:= .nm 0) z.calm (z.compOk (fr:=[("k",1)]) ⋯) ⋯ (jd (zm 2 (z.var ⋯))) (λfp s2 H2=>have h1:=z.cq ["bar"] [("k",1)] fp s2 H2 ⋯;h1.tgt 0 ⋯) (λfp s2 H2=>have h1:=z.cq ["bar"] [("k",1)] fp s2 H2 ⋯;jZ (jN (jo I ⋯ h1 ⋯ (za (zc 0 (h1.var ⋯)) (za (zc 1 (h1.var ⋯)) zn))))) (λfp s2 H2=>have h1:=z.cq ["bar"] [("k",1)] fp s2 H2 ⋯;zc 0 (h1.var ⋯))));refine zg ?_ ?_;exact(zW 6 (z.set 6 ⋯ (PO.v (xk O ⋯ z ⋯ (za (zc 0 (z.var ⋯)) (za (zc 1 (z.var ⋯)) (za (PO.v (xo (own:=["bar"]) (fr:=[("k",1)]) (T:= .nm 0) z.calm (z.compOk (fr:=[("k",1)]) ⋯) ⋯ (jd (zm 2 (z.var ⋯))) (λfp s2 H2=>have h1:=z.cq ["bar"] [("k",1)] fp s2 H2 ⋯;h1.tgt 0 ⋯) (λfp s2 H2=>have h1:=z.cq ["bar"] [("k",1)] fp s2 H2 ⋯;jN (jo I ⋯ h1 ⋯ (za (zc 0 (h1.var ⋯)) (za (zc 1 (h1.var ⋯)) zn)))) (λfp s2 H2=>have h1:=z.cq ["bar"] [("k",1)] fp s2 H2 ⋯;zc 0 (h1.var ⋯)))) zn)))))));refine zg ?_ ?_;exact(jv 7 (psc 7 z ⋯ (own:=["bar"]) (fr:=[("p",3),("arrow",4)]) (T:= .nm 0) z.calm (z.compOk (fr:=[("p",3),("arrow",4)]) ⋯) ⋯ (jd (zm 6 (z.var ⋯))) (λfp s2 H2=>have h1:=z.cq ["bar"] [("p",3),("arrow",4)] fp s2 H2 ⋯;h1.tgt 0 ⋯) (λfp s2 H2=>have h1:=z.cq ["bar"] [("p",3),("arrow",4)] fp s2 H2 ⋯;jo S ⋯ h1 ⋯ (za (zc 1 (h1.var ⋯)) (za (zc 2 (h1.var ⋯)) (za (zc 0 (h1.var ⋯)) zn))))));refine zg ?_ ?_;exact(jv 8 (psc 8 z ⋯ (own:=["load"]) (fr:=[("k",1)]) (T:= .nm 0) z.calm (z.compOk (fr:=[("k",1)]) ⋯) ⋯ (jd (PO.q (xk U ⋯ z ⋯ (za (zc 3 (z.var ⋯)) (za (zc 4 (z.var ⋯)) zn))))) (λfp s2 H2=>have h1:=z.cq ["load"] [("k",1)] fp s2 H2 ⋯;h1.tgt 0 ⋯) (λfp s2 H2=>have h1:=z.cq ["load"] [("k",1)] fp s2 H2 ⋯;jM (xV (za (ju (zc 1 (h1.var ⋯)) zh) (za (jM (xV (za (zc 0 (h1.var ⋯)) zn))) zn))))));exact(zv (zP (PO.v (JN (zm 5 (z.var ⋯)) (PV.q (ko (kE z (zI (zm 4 (z.var ⋯)) zh) kD) (PO.v (JN (zm 8 (z.var ⋯)) (zm 7 (z.var ⋯)))) (PO.v (JN (zm 7 (z.var ⋯)) (zm 8 (z.var ⋯)))))))))))
theorem ok_stretch_of(D:DefAt K mg "stretch_of" (top 20) ["bar"])(I:mg "len" = none):FnD P w K mg base 1 "stretch_of" 1 F_stretch_of:=
 xU (N:=["bar"]) D ⋯ λX O hw S hm U z hx=>by
  subst O hw S hm U;exact zv (zP (jM (xV (za (zI (zm 0 (z.var ⋯)) zh) (za (yP (ju (zI (zm 0 (z.var ⋯)) zh) (qa z ⋯ I (PV.q (zI (zm 0 (z.var ⋯)) zh)))) zh) zn)))))
theorem ok_all_grown(D:DefAt K mg "all_grown" (top 31) ["row"])(I:FnD P w K mg base 7 "grown" 3 F_grown)(O:FnD P w K mg base 1 "stretch_of" 1 F_stretch_of)(S:FnD P w K mg base 1 "same_table" 1 F_same_table)(U:mg "len" = none)(Y:mg "range" = none)(Z:mg "sorted" = none):FnD P w K mg base 9 "all_grown" 1 F_all_grown:=
 xU (N:=["row","bars","k"]) D ⋯ λX hP hw hK hm hb z hx=>by
  subst hP hw hK hm hb;exact(by refine zg ?_ ?_;exact(jv 1 (psc 1 z ⋯ (own:=["unit"]) (fr:=[]) (T:= .nm 0) z.calm (z.compOk (fr:=[]) ⋯) ⋯ (jd (PV.q (zI (PV.q (jo S ⋯ z ⋯ (za (zI (PV.q (zI (zm 0 (z.var ⋯)) zh)) zh) zn))) zh))) (λfp s2 H2=>have h1:=z.cq ["unit"] [] fp s2 H2 ⋯;h1.tgt 0 ⋯) (λfp s2 H2=>have h1:=z.cq ["unit"] [] fp s2 H2 ⋯;jM (xV (za zh (za (jM (xV (za (zc 0 (h1.var ⋯)) zn))) zn))))));refine zg ?_ ?_;exact(qz (T:= .nm 2) (xp hx) z.calm (jJ z ⋯ Y (qa z ⋯ U (PV.q (zI (zm 0 (z.var ⋯)) zh)))) (z.tgt 2 ⋯) (zv (zW 1 (z.set 1 ⋯ (jo I ⋯ z ⋯ (za (zc 0 (z.var ⋯)) (za (zc 2 (z.var ⋯)) (za (zc 1 (z.var ⋯)) zn))))))));exact(zv (qC (zas O z ⋯ ⋯ Z ⋯ (zm 1 (z.var ⋯))))))
theorem ok_back_of(D:DefAt K mg "back_of" (top 18) ["p","table"])(I:FnD P w K mg base 3 "base_of" 3 F_base_of)(O:FnD P w K mg base 1 "same_table" 1 F_same_table)(S:mg "list" = none)(U:mg "tuple" = none)(Y:mg "zip" = none):FnD P w K mg base 4 "back_of" 2 F_back_of:=
 xU (N:=["p","table","many","same","base"]) D ⋯ λX Z hw hK hm hb z hx=>by
  subst Z hw hK hm hb;exact(by refine zg ?_ ?_;exact(zW 2 (z.set 2 ⋯ (zI (zm 1 (z.var ⋯)) zh)));refine zg ?_ ?_;exact(qb (xc z (zI (zm 1 (z.var ⋯)) zh) (zc 2 (z.var ⋯))) (zv (zP JI)) jj);refine zg ?_ ?_;exact(zW 3 (z.set 3 ⋯ (zI (PV.q (jo O ⋯ z ⋯ (za (zc 2 (z.var ⋯)) zn))) zh)));refine zg ?_ ?_;exact(zW 4 (z.set 4 ⋯ (PO.v (xk I ⋯ z ⋯ (za (zc 0 (z.var ⋯)) (za (ju (zc 2 (z.var ⋯)) (zc 2 (z.var ⋯))) (za (PO.v (jk (own:=["row","unit"]) (fr:=[]) (T:= .tp [0,1]) z.calm (z.compOk (fr:=[]) ⋯) ⋯ (PIF.c (vN z ⋯ Y (zI (zm 1 (z.var ⋯)) zh) (zc 3 (z.var ⋯)))) (λfp s2 H2=>have h1:=z.cq ["row","unit"] [] fp s2 H2 ⋯;h1.tgts (zN (h1.tgt 0 ⋯) (zN (h1.tgt 1 ⋯) j1))) (λfp s2 H2=>have h1:=z.cq ["row","unit"] [] fp s2 H2 ⋯;ju (zc 0 (h1.var ⋯)) (zc 1 (h1.var ⋯))))) zn)))))));refine zg ?_ ?_;exact(qb (xc z (PO.v (jk (own:=["load"]) (fr:=[("many",2)]) (T:= .nm 0) z.calm (z.compOk (fr:=[("many",2)]) ⋯) ⋯ (jd (zm 4 (z.var ⋯))) (λfp s2 H2=>have h1:=z.cq ["load"] [("many",2)] fp s2 H2 ⋯;h1.tgt 0 ⋯) (λfp s2 H2=>have h1:=z.cq ["load"] [("many",2)] fp s2 H2 ⋯;JH (zc 0 (h1.var ⋯)) vQ (vP (zc 1 (h1.var ⋯)))))) (PO.v (Y9 z ⋯ S (zm 3 (z.var ⋯))))) (zv (zP JI)) jj);exact(zv (zP (jM (xV (za (zc 2 (z.var ⋯)) (za (zc 2 (z.var ⋯)) (za (jl z ⋯ U (PO.q (jk (own:=["load"]) (fr:=[("many",2)]) (T:= .nm 0) z.calm (z.compOk (fr:=[("many",2)]) ⋯) ⋯ (jd (zm 4 (z.var ⋯))) (λfp s2 H2=>have h1:=z.cq ["load"] [("many",2)] fp s2 H2 ⋯;h1.tgt 0 ⋯) (λfp s2 H2=>have h1:=z.cq ["load"] [("many",2)] fp s2 H2 ⋯;JH (zc 0 (h1.var ⋯)) (vP (zc 1 (h1.var ⋯))) vQ)))) zn))))))))
theorem ok_barred(D:DefAt K mg "barred" (top 32) ["row"])(I:FnD P w K mg base 9 "all_grown" 1 F_all_grown)(O:FnD P w K mg base 2 "columns" 2 F_columns)(S:FnD P w K mg base 4 "back_of" 2 F_back_of)(U:FnD P w K mg base 2 "loads_in" 2 F_loads_in)(Y:FnD P w K mg base 1 "stretch_of" 1 F_stretch_of)(Z:mg "enumerate" = none):FnD P w K mg base 10 "barred" 1 F_barred:=
 xU (N:=["row","bars","backs","turns"]) D ⋯ λX hP hw hK hm hb z hx=>by
  subst hP hw hK hm hb;exact(by refine zg ?_ ?_;exact(zW 1 (z.set 1 ⋯ (PO.v (xk I ⋯ z ⋯ (za (zc 0 (z.var ⋯)) zn)))));refine zg ?_ ?_;exact(jv 2 (psc 2 z ⋯ (own:=["room","width"]) (fr:=[("bars",1)]) (T:= .tp [0,1]) z.calm (z.compOk (fr:=[("bars",1)]) ⋯) ⋯ (PIF.c (XT z ⋯ Z (zI (zm 0 (z.var ⋯)) zh))) (λfp s2 H2=>have h1:=z.cq ["room","width"] [("bars",1)] fp s2 H2 ⋯;h1.tgts (zN (h1.tgt 0 ⋯) (zN (h1.tgt 1 ⋯) j1))) (λfp s2 H2=>have h1:=z.cq ["room","width"] [("bars",1)] fp s2 H2 ⋯;jo O ⋯ h1 ⋯ (za (zc 1 (h1.var ⋯)) (za (PO.v (xk U ⋯ h1 ⋯ (za (zc 2 (h1.var ⋯)) (za (zc 0 (h1.var ⋯)) zn)))) zn)))));refine zg ?_ ?_;exact(jv 3 (psc 3 z ⋯ (own:=["back"]) (fr:=[("row",0)]) (T:= .nm 0) z.calm (z.compOk (fr:=[("row",0)]) ⋯) ⋯ (jd (zm 2 (z.var ⋯))) (λfp s2 H2=>have h1:=z.cq ["back"] [("row",0)] fp s2 H2 ⋯;h1.tgt 0 ⋯) (λfp s2 H2=>have h1:=z.cq ["back"] [("row",0)] fp s2 H2 ⋯;jo S ⋯ h1 ⋯ (za (zI (zm 1 (h1.var ⋯)) zh) (za (zc 0 (h1.var ⋯)) zn)))));exact(zv (zP (jM (xV (za (PO.v (jk (own:=["bar"]) (fr:=[]) (T:= .nm 0) z.calm (z.compOk (fr:=[]) ⋯) ⋯ (jd (zm 1 (z.var ⋯))) (λfp s2 H2=>have h1:=z.cq ["bar"] [] fp s2 H2 ⋯;h1.tgt 0 ⋯) (λfp s2 H2=>have h1:=z.cq ["bar"] [] fp s2 H2 ⋯;jo Y ⋯ h1 ⋯ (za (zc 0 (h1.var ⋯)) zn)))) (za (zc 3 (z.var ⋯)) (za (zc 2 (z.var ⋯)) zn))))))))
theorem ok_law_times_32(D:DefAt K mg "_law_times" (top 35) ["_law_p","_law_one","_law_other"])(O:mg "range" = none)(S:mg "sum" = none)(I:mg "tuple" = none)(U:mg "zip" = none):FnD P w K mg base 1 "_law_times" 3 F_law_times_32:=
 xU (N:=["_law_p","_law_one","_law_other","_law_columns_told","_law_rows","_law_row"]) D ⋯ λX Y hw Z hm hb z hx=>by
  subst Y hw Z hm hb;exact(by refine zg ?_ ?_;exact(jv 3 (psc 3 z ⋯ (own:=["_law_k"]) (fr:=[("_law_other",2)]) (T:= .nm 0) z.calm (z.compOk (fr:=[("_law_other",2)]) ⋯) ⋯ (PIF.c (jJ z ⋯ O (zI (zm 2 (z.var ⋯)) zh))) (λfp s2 H2=>have h1:=z.cq ["_law_k"] [("_law_other",2)] fp s2 H2 ⋯;h1.tgt 0 ⋯) (λfp s2 H2=>have h1:=z.cq ["_law_k"] [("_law_other",2)] fp s2 H2 ⋯;PO.v (jk (own:=["_law_row"]) (fr:=[("_law_k",0)]) (T:= .nm 0) h1.calm (h1.compOk (fr:=[("_law_k",0)]) ⋯) ⋯ (jd (PV.q (zI (zm 1 (h1.var ⋯)) zh))) (λfp s2 H2=>have h2:=h1.cq ["_law_row"] [("_law_k",0)] fp s2 H2 ⋯;h2.tgt 0 ⋯) (λfp s2 H2=>have h2:=h1.cq ["_law_row"] [("_law_k",0)] fp s2 H2 ⋯;zI (zm 0 (h2.var ⋯)) (zc 1 (h2.var ⋯)))))));refine zg ?_ ?_;exact(xE 4 (z.set 4 ⋯ (kX (xV zn))));refine zg ?_ ?_;exact(qz (T:= .nm 5) (xp hx) z.calm (ZQ (zI (zm 1 (z.var ⋯)) zh)) (z.tgt 5 ⋯) (zv (ZN 4 z ⋯ (jl z ⋯ I (PO.q (jk (own:=["_law_told"]) (fr:=[("_law_p",0),("_law_row",5)]) (T:= .nm 0) z.calm (z.compOk (fr:=[("_law_p",0),("_law_row",5)]) ⋯) ⋯ (jd (zm 3 (z.var ⋯))) (λfp s2 H2=>have h1:=z.cq ["_law_told"] [("_law_p",0),("_law_row",5)] fp s2 H2 ⋯;h1.tgt 0 ⋯) (λfp s2 H2=>have h1:=z.cq ["_law_told"] [("_law_p",0),("_law_row",5)] fp s2 H2 ⋯;qd (zbE h1 ⋯ S (PO.q (jk (own:=["_law_a","_law_b"]) (fr:=[]) (T:= .tp [0,1]) h1.calm (h1.compOk (fr:=[]) ⋯) ⋯ (PIF.c (vN h1 ⋯ U (zc 2 (h1.var ⋯)) (zc 0 (h1.var ⋯)))) (λfp s2 H2=>have h2:=h1.cq ["_law_a","_law_b"] [] fp s2 H2 ⋯;h2.tgts (zN (h2.tgt 0 ⋯) (zN (h2.tgt 1 ⋯) j1))) (λfp s2 H2=>have h2:=h1.cq ["_law_a","_law_b"] [] fp s2 H2 ⋯;qV (zc 0 (h2.var ⋯)) (zc 1 (h2.var ⋯)))))) (zc 1 (h1.var ⋯)))))))));exact(zv (zP (jM (xV (za (zI (zm 1 (z.var ⋯)) zh) (za (zI (zm 2 (z.var ⋯)) zh) (za (jl z ⋯ I (zm 4 (z.var ⋯))) zn))))))))
theorem ok_law_in_turns_32(D:DefAt K mg "_law_in_turns" (top 41) ["_law_told","_law_turns","_law_backs"])(I:FnD P w K mg base 1 "_law_times" 3 F_law_times_32)(S:mg "enumerate" = none)(O:mg "int" = none)(U:mg "tuple" = none):FnD P w K mg base 2 "_law_in_turns" 3 F_law_in_turns_32:=
 xU (N:=["_law_told","_law_turns","_law_backs","_law_p","_law_widths","_law_arrows","_law_made","_law_k","_law_pair","_law_begin","_law_end"]) D ⋯ λX Y hw Z hm hb z hx=>by
  subst Y hw Z hm hb;exact(by refine zg ?_ ?_;exact(ZL (T:= .tp [3,4,5]) (z.tgts (zN (z.tgt 3 ⋯) (zN (z.tgt 4 ⋯) (zN (z.tgt 5 ⋯) j1)))) (zc 0 (z.var ⋯)));refine zg ?_ ?_;exact(xE 6 (z.set 6 ⋯ (kX (xV zn))));refine zg ?_ ?_;exact(qz (T:= .tp [7,8]) (xp hx) z.calm (XT z ⋯ S (zc 5 (z.var ⋯))) (z.tgts (zN (z.tgt 7 ⋯) (zN (z.tgt 8 ⋯) j1))) ((by refine zg ?_ ?_;exact(zW 9 (z.set 9 ⋯ (ju (zc 7 (z.var ⋯)) (yv z ⋯ O (JJ z (zI (zm 8 (z.var ⋯)) zh) kD)))));refine zg ?_ ?_;exact(zW 10 (z.set 10 ⋯ (ju (zc 7 (z.var ⋯)) (yv z ⋯ O (JJ z (zI (zm 8 (z.var ⋯)) zh) kD)))));exact(zv (ZN 6 z ⋯ (jM (xV (za (zI (zm 8 (z.var ⋯)) zh) (za (jo I ⋯ z ⋯ (za (zc 3 (z.var ⋯)) (za (jo I ⋯ z ⋯ (za (zc 3 (z.var ⋯)) (za (zI (zm 1 (z.var ⋯)) (zc 10 (z.var ⋯))) (za (zI (zm 8 (z.var ⋯)) zh) zn)))) (za (zI (zm 2 (z.var ⋯)) (zc 9 (z.var ⋯))) zn)))) zn)))))))));exact(zv (zP (jM (xV (za (zc 3 (z.var ⋯)) (za (zc 4 (z.var ⋯)) (za (jl z ⋯ U (zm 6 (z.var ⋯))) zn))))))))
theorem ok_law_with_k28(D:DefAt K mg "_law_with" (top 39) ["_law_found","_law_room"])(I:mg "enumerate" = none):FnD P w K mg base 1 "_law_with" 2 F_law_with_k28:=
 xU (N:=["_law_found","_law_room"]) D ⋯ λX O hw S hm U z hx=>by
  subst O hw S hm U;exact zv (qC (xo (own:=["_law_at","_law_bar"]) (fr:=[("_law_room",1)]) (T:= .tp [0,1]) z.calm (z.compOk (fr:=[("_law_room",1)]) ⋯) ⋯ (PIF.c (Va z ⋯ I (zc 0 (z.var ⋯)))) (λfp s2 H2=>have h1:=z.cq ["_law_at","_law_bar"] [("_law_room",1)] fp s2 H2 ⋯;h1.tgts (zN (h1.tgt 0 ⋯) (zN (h1.tgt 1 ⋯) j1))) (λfp s2 H2=>have h1:=z.cq ["_law_at","_law_bar"] [("_law_room",1)] fp s2 H2 ⋯;Y2 K1 K1 wX wX (zI (zm 1 (h1.var ⋯)) zh) (zc 2 (h1.var ⋯)) (zI (zm 1 (h1.var ⋯)) zh)) (λfp s2 H2=>have h1:=z.cq ["_law_at","_law_bar"] [("_law_room",1)] fp s2 H2 ⋯;zc 0 (h1.var ⋯))))
theorem ok_law_bar_row(D:DefAt K mg "_law_bar_row" (top 40) ["_law_p","_law_ways_here","_law_found"])(O:FnD P w K mg base 1 "_law_with" 2 F_law_with_k28)(Y:mg "enumerate" = none)(S:mg "int" = none)(U:mg "len" = none)(Z:mg "range" = none)(I:mg "tuple" = none):FnD P w K mg base 2 "_law_bar_row" 3 F_law_bar_row:=
 xU (N:=["_law_p","_law_ways_here","_law_found","_law_widths","_law_arrows","_law_k","_law_way","_law_begin","_law_end","_law_rows"]) D ⋯ λX hP hw hK hm hb z hx=>by
  subst hP hw hK hm hb;exact(by refine zg ?_ ?_;exact(jv 3 (psc 3 z ⋯ (own:=["_law_room"]) (fr:=[("_law_found",2)]) (T:= .nm 0) z.calm (z.compOk (fr:=[("_law_found",2)]) ⋯) ⋯ (PIF.c (jJ z ⋯ Z (ju (zcn z ⋯ U (zc 1 (z.var ⋯))) zh))) (λfp s2 H2=>have h1:=z.cq ["_law_room"] [("_law_found",2)] fp s2 H2 ⋯;h1.tgt 0 ⋯) (λfp s2 H2=>have h1:=z.cq ["_law_room"] [("_law_found",2)] fp s2 H2 ⋯;qa h1 ⋯ U (PO.q (xk O ⋯ h1 ⋯ (za (zc 1 (h1.var ⋯)) (za (zc 0 (h1.var ⋯)) zn)))))));refine zg ?_ ?_;exact(xE 4 (z.set 4 ⋯ (kX (xV zn))));refine zg ?_ ?_;exact(qz (T:= .tp [5,6]) (xp hx) z.calm (zcC z ⋯ Y (zc 1 (z.var ⋯))) (z.tgts (zN (z.tgt 5 ⋯) (zN (z.tgt 6 ⋯) j1))) ((by refine zg ?_ ?_;exact(zW 7 (z.set 7 ⋯ (ju (zc 5 (z.var ⋯)) (yv z ⋯ S (JJ z (zc 6 (z.var ⋯)) kD)))));refine zg ?_ ?_;exact(zW 8 (z.set 8 ⋯ (ju (zc 5 (z.var ⋯)) (yv z ⋯ S (JJ z (zc 6 (z.var ⋯)) kD)))));refine zg ?_ ?_;exact(jv 9 (psc 9 z ⋯ (own:=["_law_at"]) (fr:=[("_law_found",2),("_law_begin",7)]) (T:= .nm 0) z.calm (z.compOk (fr:=[("_law_found",2),("_law_begin",7)]) ⋯) ⋯ (jd (PO.q (xk O ⋯ z ⋯ (za (zc 2 (z.var ⋯)) (za (zc 8 (z.var ⋯)) zn))))) (λfp s2 H2=>have h1:=z.cq ["_law_at"] [("_law_found",2),("_law_begin",7)] fp s2 H2 ⋯;h1.tgt 0 ⋯) (λfp s2 H2=>have h1:=z.cq ["_law_at"] [("_law_found",2),("_law_begin",7)] fp s2 H2 ⋯;jl h1 ⋯ I (PO.q (jk (own:=["_law_other"]) (fr:=[("_law_at",0)]) (T:= .nm 0) h1.calm (h1.compOk (fr:=[("_law_at",0)]) ⋯) ⋯ (jd (PO.q (xk O ⋯ h1 ⋯ (za (zc 1 (h1.var ⋯)) (za (zc 2 (h1.var ⋯)) zn))))) (λfp s2 H2=>have h2:=h1.cq ["_law_other"] [("_law_at",0)] fp s2 H2 ⋯;h2.tgt 0 ⋯) (λfp s2 H2=>have h2:=h1.cq ["_law_other"] [("_law_at",0)] fp s2 H2 ⋯;yv h2 ⋯ S (JJ h2 (zc 1 (h2.var ⋯)) (zc 0 (h2.var ⋯)))))))));exact(zv (ZN 4 z ⋯ (jM (xV (za (zc 6 (z.var ⋯)) (za (jM (xV (za (zI (zm 3 (z.var ⋯)) (zc 8 (z.var ⋯))) (za (zI (zm 3 (z.var ⋯)) (zc 7 (z.var ⋯))) (za (jl z ⋯ I (zm 9 (z.var ⋯))) zn))))) zn)))))))));exact(zv (zP (jM (xV (za (zc 0 (z.var ⋯)) (za (jl z ⋯ I (zm 3 (z.var ⋯))) (za (jl z ⋯ I (zm 4 (z.var ⋯))) zn))))))))
theorem ok_law_same_32(D:DefAt K mg "_law_same" (top 36) ["_law_many"])(S:mg "int" = none)(I:mg "range" = none)(O:mg "tuple" = none):FnD P w K mg base 1 "_law_same" 1 F_law_same_32:=
 xU (N:=["_law_many"]) D ⋯ λX U hw Y hm Z z hx=>by
  subst U hw Y hm Z;exact zv (zP (jM (xV (za (zc 0 (z.var ⋯)) (za (zc 0 (z.var ⋯)) (za (jl z ⋯ O (PO.q (jk (own:=["_law_k"]) (fr:=[("_law_many",0)]) (T:= .nm 0) z.calm (z.compOk (fr:=[("_law_many",0)]) ⋯) ⋯ (PIF.c (jJ z ⋯ I (zc 0 (z.var ⋯)))) (λfp s2 H2=>have h1:=z.cq ["_law_k"] [("_law_many",0)] fp s2 H2 ⋯;h1.tgt 0 ⋯) (λfp s2 H2=>have h1:=z.cq ["_law_k"] [("_law_many",0)] fp s2 H2 ⋯;jl h1 ⋯ O (PO.q (jk (own:=["_law_j"]) (fr:=[("_law_k",0)]) (T:= .nm 0) h1.calm (h1.compOk (fr:=[("_law_k",0)]) ⋯) ⋯ (PIF.c (jJ h1 ⋯ I (zc 1 (h1.var ⋯)))) (λfp s2 H2=>have h2:=h1.cq ["_law_j"] [("_law_k",0)] fp s2 H2 ⋯;h2.tgt 0 ⋯) (λfp s2 H2=>have h2:=h1.cq ["_law_j"] [("_law_k",0)] fp s2 H2 ⋯;yv h2 ⋯ S (JJ h2 (zc 1 (h2.var ⋯)) (zc 0 (h2.var ⋯)))))))))) zn))))))
theorem ok_law_whole(D:DefAt K mg "_law_whole" (top 42) ["_law_found"])(O:mg "bool" = none)(S:mg "int" = none)(I:mg "isinstance" = none):FnD P w K mg base 1 "_law_whole" 1 F_law_whole:=
 xU (N:=["_law_found"]) D ⋯ λX U hw Y hm Z z hx=>by
  subst U hw Y hm Z;exact zv (zP (zbH (Y1 z ⋯ I ⋯ S (zc 0 (z.var ⋯))) (zbF (zec (KP z ⋯ I ⋯ O (zc 0 (z.var ⋯)))))))
theorem ok_law_is_table_32(D:DefAt K mg "_law_is_table" (top 43) ["_law_p","_law_found","_law_high","_law_wide"])(I:FnD P w K mg base 1 "_law_whole" 1 F_law_whole)(Y:mg "all" = none)(O:mg "isinstance" = none)(S:mg "len" = none)(U:mg "tuple" = none):FnD P w K mg base 2 "_law_is_table" 4 F_law_is_table_32:=
 xU (N:=["_law_p","_law_found","_law_high","_law_wide","_law_row"]) D ⋯ λX Z hw hK hm hb z hx=>by
  subst Z hw hK hm hb;exact(by refine zg ?_ ?_;exact(qb (ZJ (q9 (jZ (jN (qW z ⋯ O ⋯ U (zc 1 (z.var ⋯))))) (q9 (xc z (qa z ⋯ S (zm 1 (z.var ⋯))) zh) (q9 (jZ (jN (jo I ⋯ z ⋯ (za (zI (zm 1 (z.var ⋯)) zh) zn)))) (kK (jZ (jN (jo I ⋯ z ⋯ (za (zI (zm 1 (z.var ⋯)) zh) zn))))))))) (zv (zP y8)) jj);refine zg ?_ ?_;exact(qb (ZJ (q9 (xc z (JH (zc 1 (z.var ⋯)) vQ (vP zh)) (jM (xV (za (zc 2 (z.var ⋯)) (za (zc 3 (z.var ⋯)) zn))))) (q9 (jZ (jN (qW z ⋯ O ⋯ U (zI (zm 1 (z.var ⋯)) zh)))) (kK (xc z (qa z ⋯ S (PV.q (zI (zm 1 (z.var ⋯)) zh))) (zc 2 (z.var ⋯))))))) (zv (zP y8)) jj);refine zg ?_ ?_;exact(qz (T:= .nm 4) (xp hx) z.calm (ZQ (zI (zm 1 (z.var ⋯)) zh)) (z.tgt 4 ⋯) ((by refine zg ?_ ?_;exact(qb (ZJ (q9 (jZ (jN (qW z ⋯ O ⋯ U (zc 4 (z.var ⋯))))) (kK (xc z (qa z ⋯ S (zm 4 (z.var ⋯))) (zc 3 (z.var ⋯)))))) (zv (zP y8)) jj);exact(zv (qb (jZ (jN (zbI z ⋯ Y (PO.q (jk (own:=["_law_x"]) (fr:=[("_law_p",0)]) (T:= .nm 0) z.calm (z.compOk (fr:=[("_law_p",0)]) ⋯) ⋯ (jd (zm 4 (z.var ⋯))) (λfp s2 H2=>have h1:=z.cq ["_law_x"] [("_law_p",0)] fp s2 H2 ⋯;h1.tgt 0 ⋯) (λfp s2 H2=>have h1:=z.cq ["_law_x"] [("_law_p",0)] fp s2 H2 ⋯;zbH (jo I ⋯ h1 ⋯ (za (zc 0 (h1.var ⋯)) zn)) (zbF (XQ K1 zcL wX YM zh (zc 0 (h1.var ⋯)) (zc 1 (h1.var ⋯)))))))))) (zv (zP y8)) jj)))));exact(zv (zP y8)))
theorem ok_law_paper_right(D:DefAt K mg "_law_paper_right" (top 44) ["_law_told","_law_found"])(Z:FnD P w K mg base 2 "_law_in_turns" 3 F_law_in_turns_32)(a0:FnD P w K mg base 2 "_law_bar_row" 3 F_law_bar_row)(a1:FnD P w K mg base 1 "_law_times" 3 F_law_times_32)(a2:FnD P w K mg base 1 "_law_same" 1 F_law_same_32)(S:FnD P w K mg base 1 "_law_whole" 1 F_law_whole)(U:FnD P w K mg base 2 "_law_is_table" 4 F_law_is_table_32)(a3:mg "all" = none)(O:mg "isinstance" = none)(I:mg "len" = none)(a4:mg "list" = none)(a5:mg "sorted" = none)(Y:mg "tuple" = none)(a6:mg "zip" = none):FnD P w K mg base 3 "_law_paper_right" 2 F_law_paper_right:=
 xU (N:=["_law_told","_law_found","_law_p","_law_widths","_law_arrows","_law_some","_law_turns","_law_backs","_law_bar","_law_wide","_law_turn","_law_back"]) D ⋯ λX hP hw hK hm hb z hx=>by
  subst hP hw hK hm hb;exact(by refine zg ?_ ?_;exact(ZL (T:= .tp [2,3,4]) (z.tgts (zN (z.tgt 2 ⋯) (zN (z.tgt 3 ⋯) (zN (z.tgt 4 ⋯) j1)))) (zc 0 (z.var ⋯)));refine zg ?_ ?_;exact(qb (ZJ (q9 (jZ (jN (qW z ⋯ O ⋯ Y (zc 1 (z.var ⋯))))) (q9 (xc z (qa z ⋯ I (zm 1 (z.var ⋯))) zh) (kK (jZ (jN (zbI z ⋯ a3 (PO.q (jk (own:=["_law_some"]) (fr:=[]) (T:= .nm 0) z.calm (z.compOk (fr:=[]) ⋯) ⋯ (jd (zm 1 (z.var ⋯))) (λfp s2 H2=>have h1:=z.cq ["_law_some"] [] fp s2 H2 ⋯;h1.tgt 0 ⋯) (λfp s2 H2=>have h1:=z.cq ["_law_some"] [] fp s2 H2 ⋯;KO h1 ⋯ O ⋯ a4 (zc 0 (h1.var ⋯)))))))))))) (zv (zP y8)) jj);refine zg ?_ ?_;exact(ZL (T:= .tp [5,6,7]) (z.tgts (zN (z.tgt 5 ⋯) (zN (z.tgt 6 ⋯) (zN (z.tgt 7 ⋯) j1)))) (zc 1 (z.var ⋯)));refine zg ?_ ?_;exact(qz (T:= .nm 8) (xp hx) z.calm (ZQ (zc 5 (z.var ⋯))) (z.tgt 8 ⋯) ((by refine zg ?_ ?_;exact(qb (ZJ (q9 (jZ (jN (qW z ⋯ O ⋯ Y (zc 8 (z.var ⋯))))) (q9 (xc z (qa z ⋯ I (zm 8 (z.var ⋯))) zh) (q9 (jZ (jN (jo S ⋯ z ⋯ (za (zI (zm 8 (z.var ⋯)) zh) zn)))) (kK (jZ (jN (jo S ⋯ z ⋯ (za (zI (zm 8 (z.var ⋯)) zh) zn))))))))) (zv (zP y8)) jj);exact(zv (qb (jZ (KR K1 K1 zcL wX wX YM zh (zI (zm 8 (z.var ⋯)) zh) (zI (zm 8 (z.var ⋯)) zh) (qa z ⋯ I (zm 3 (z.var ⋯))))) (zv (zP y8)) jj)))));refine zg ?_ ?_;exact(qb (ZJ (q9 (xc z (zc 5 (z.var ⋯)) (PO.v (zar z ⋯ a5 (zm 5 (z.var ⋯))))) (q9 (xc z (qa z ⋯ I (zm 6 (z.var ⋯))) (qa z ⋯ I (zm 3 (z.var ⋯)))) (kK (xc z (qa z ⋯ I (zm 7 (z.var ⋯))) (qa z ⋯ I (zm 3 (z.var ⋯)))))))) (zv (zP y8)) jj);refine zg ?_ ?_;exact(qz (T:= .tp [9,10,11]) (xp hx) z.calm (zcA z ⋯ a6 (zc 3 (z.var ⋯)) (zc 6 (z.var ⋯)) (zc 7 (z.var ⋯))) (z.tgts (zN (z.tgt 9 ⋯) (zN (z.tgt 10 ⋯) (zN (z.tgt 11 ⋯) j1)))) ((by refine zg ?_ ?_;exact(qb (ZJ (q9 (jZ (jN (jo U ⋯ z ⋯ (za (zc 2 (z.var ⋯)) (za (zc 10 (z.var ⋯)) (za (zc 9 (z.var ⋯)) (za (zc 9 (z.var ⋯)) zn))))))) (kK (jZ (jN (jo U ⋯ z ⋯ (za (zc 2 (z.var ⋯)) (za (zc 11 (z.var ⋯)) (za (zc 9 (z.var ⋯)) (za (zc 9 (z.var ⋯)) zn)))))))))) (zv (zP y8)) jj);exact(zv (qb (xc z (jo a1 ⋯ z ⋯ (za (zc 2 (z.var ⋯)) (za (zc 10 (z.var ⋯)) (za (zc 11 (z.var ⋯)) zn)))) (jo a2 ⋯ z ⋯ (za (zc 9 (z.var ⋯)) zn))) (zv (zP y8)) jj)))));exact(zv (zP (JJ z (jo Z ⋯ z ⋯ (za (zc 0 (z.var ⋯)) (za (zc 6 (z.var ⋯)) (za (zc 7 (z.var ⋯)) zn)))) (jo a0 ⋯ z ⋯ (za (zc 2 (z.var ⋯)) (za (zco kD (PO.q (jk (own:=["_law_pair"]) (fr:=[]) (T:= .nm 0) z.calm (z.compOk (fr:=[]) ⋯) ⋯ (jd (zm 4 (z.var ⋯))) (λfp s2 H2=>have h1:=z.cq ["_law_pair"] [] fp s2 H2 ⋯;h1.tgt 0 ⋯) (λfp s2 H2=>have h1:=z.cq ["_law_pair"] [] fp s2 H2 ⋯;zI (zm 0 (h1.var ⋯)) zh)))) (za (zc 5 (z.var ⋯)) zn))))))))
theorem ok_law{f:Addr}{fd:FuncData}(D:L2.Fun K "law" "law" (top 46) f fd)(O:FnD P w K mg base 2 "_law_any_row" 4 F_law_any_row)(S:FnD P w K mg base 10 "barred" 1 F_barred)(U:FnD P w K mg base 3 "_law_paper_right" 2 F_law_paper_right)(Y:FnD P w K mg base 1 "_law_cell" 2 F_law_cell)(Z:FnD P w K mg base 1 "_law_with" 2 F_law_with_k28)(I:mg "len" = none)(a0:mg "list" = none)(a1:mg "range" = none):FnOk P w K mg base CX0 11 f fd ["_law_script"] (spF K 1 F_law_k30):=
 zgJ (N:=["_law_script","_law_told","_law_found"]) D ⋯ λX hP hw hK hm hb z hx=>by
  subst hP hw hK hm hb;exact(by refine zg ?_ ?_;exact(zW 1 (z.set 1 ⋯ (jo O ⋯ z ⋯ (za (zc 0 (z.var ⋯)) (za zh (za (ju zh (qd (jo Y ⋯ z ⋯ (za (zc 0 (z.var ⋯)) (za zh zn))) zh)) (za zh zn)))))));refine zg ?_ ?_;exact(zW 2 (z.set 2 ⋯ (jo S ⋯ z ⋯ (za (zc 1 (z.var ⋯)) zn))));refine zg ?_ ?_;exact(qb (jZ (jN (jo U ⋯ z ⋯ (za (zc 1 (z.var ⋯)) (za (zc 2 (z.var ⋯)) zn))))) (zv (zP y8)) jj);exact(zv (zP (JJ z (PO.v (jk (own:=["_law_room"]) (fr:=[("_law_found",2)]) (T:= .nm 0) z.calm (z.compOk (fr:=[("_law_found",2)]) ⋯) ⋯ (PIF.c (jJ z ⋯ a1 (qa z ⋯ I (PV.q (zI (zm 1 (z.var ⋯)) zh))))) (λfp s2 H2=>have h1:=z.cq ["_law_room"] [("_law_found",2)] fp s2 H2 ⋯;h1.tgt 0 ⋯) (λfp s2 H2=>have h1:=z.cq ["_law_room"] [("_law_found",2)] fp s2 H2 ⋯;qa h1 ⋯ I (PO.q (xk Z ⋯ h1 ⋯ (za (zI (zm 1 (h1.var ⋯)) zh) (za (zc 0 (h1.var ⋯)) zn))))))) (PO.v (Y9 z ⋯ a0 (PV.q (zI (zm 1 (z.var ⋯)) zh))))))))
end
end DL
namespace PySem.W.Fast
def tw7632109319771043057:=0
def tw18232984513782855251:=0
def tw18192541017536030988:=0
def tw4843497314827362551:=0
def tw12764108282599010279:=0
def tw9917209569488224754:=0
def tw12510193088951474971:=0
def tw13225553174647563519:=0
def tw9522661152898617250:=0
def tw11201471625417103305:=0
def tw1614355212093697259:=0
def tw16138189708940632008:=0
def tw6161965695799912522:=0
def tw17892549533472459995:=0
def tw8529716320048676026:=0
def tw14968490160661721375:=0
def tw9894483920814154977:=0
def tw12340400807039566838:=0
def tw2763665381491367899:=0
def tw2427075060681914990:=0
def tw9715645889434197865:=0
def tw6776106922100962155:=0
def tw17700918688475407015:=0
def tw16542134986757512217:=0
def tw9088707561276448420:=0
def tw5213749081950674485:=0
def tw13029405632571336866:=0
def tw4903644967572777221:=0
def tw7172538479917027265:=0
def tw8740555975570438987:=0
def tw6839606496786758750:=0
def tw13430116078569069924:=0
def tw1482064230200228853:=0
def tw10265879105343192371:=0
def tw208385518734634100:=0
def tw17417930889672069398:=0
def tw15475329091815513584:=0
def tw11269497029989657868:=0
def tw18054070513883005249:=0
def tw6481438169131089639:=0
def tw16301759981312857817:=0
def tw7197254672337915132:=0
def tw14522133032200500623:=0
def tw4099659314528600776:=0
def tw9227073160326343500:=0
end PySem.W.Fast
open PySem PySem.W PyProof.Rows
set_option maxRecDepth 100000 in
set_option maxHeartbeats 0 in
theorem PySem.Challenge.cw_barsplit_k30_whole_any_row_falls_into_ba_holds : PySem.Challenge.rw_barsplit_k30_whole_any_row_falls_into_ba.Holds := by
 w_on;o_law;k_head;(case hw=>w_witness2)
 k_fill
 refine L2.walk_ofK (l:=zic) (n:=63) (k:=11) (x:="_law_script") (CX:=L2.CX0) (sp:=λK=>DL.spF K 1 DL.F_law_k30) rfl ⋯ rfl ⟨rfl,by decide,by decide⟩ (λw h Y=>PySem.W.kIn_of Y) ?F ?S ?C
 case S=>exact λK H a ns O hO hS=>DL.law_true hS (DL.law_k30 ns O)
 case C=>exact λ_ _ _ _ z=>z
 case F=>
  intro w mg fa h I G as;have ae:mg "all" = none:=zi2 I G (by k_is);have af:mg "any" = none:=zi2 I G (by k_is);have au:mg "bool" = none:=zi2 I G (by k_is);have av:mg "dict" = none:=zi2 I G (by k_is);have a2:mg "enumerate" = none:=zi2 I G (by k_is);have a3:mg "int" = none:=zi2 I G (by k_is);have a7:mg "isinstance" = none:=zi2 I G (by k_is);have a0:mg "len" = none:=zi2 I G (by k_is);have a8:mg "list" = none:=zi2 I G (by k_is);have aw:mg "min" = none:=zi2 I G (by k_is);have Z:mg "range" = none:=zi2 I G (by k_is);have ag:mg "sorted" = none:=zi2 I G (by k_is);have ah:mg "sum" = none:=zi2 I G (by k_is);have U:mg "tuple" = none:=zi2 I G (by k_is);have a1:mg "zip" = none:=zi2 I G (by k_is);have ax:DL.DefAt (L2.KOf I) mg "_law_cell" (DL.top 34) ["_law_script","_law_k"]:=by
   dsimp only [L2.KOf];refine' DL.def_mk I G ?a ?l ?c ?k ?b
   (case a=>k_is);(case l=>k_is);(case c=>k_is);(case k=>k_is)
   (case b=>intro _ _ _ _ _ _ us O;obtain⟨_,_,rfl⟩:=DL.len2 O;rfl)
  have ay:DL.DefAt (L2.KOf I) mg "_law_any_row" (DL.top 45) ["_law_script","_law_at","_law_rooms","_law_most"]:=by
   dsimp only [L2.KOf];refine' DL.def_mk I G ?a ?l ?c ?k ?b
   (case a=>k_is);(case l=>k_is);(case c=>k_is);(case k=>k_is)
   (case b=>intro _ _ _ _ _ _ us O;obtain⟨_,_,_,_,rfl⟩:=DL.len4 O;rfl)
  have az:DL.DefAt (L2.KOf I) mg "behind_noughts" (DL.top 13) ["many","base"]:=by
   dsimp only [L2.KOf];refine' DL.def_mk I G ?a ?l ?c ?k ?b
   (case a=>k_is);(case l=>k_is);(case c=>k_is);(case k=>k_is)
   (case b=>intro _ _ _ _ _ _ us O;obtain⟨_,_,rfl⟩:=DL.len2 O;rfl)
  have b0:DL.DefAt (L2.KOf I) mg "rests" (DL.top 4) ["p","numbers"]:=by
   dsimp only [L2.KOf];refine' DL.def_mk I G ?a ?l ?c ?k ?b
   (case a=>k_is);(case l=>k_is);(case c=>k_is);(case k=>k_is)
   (case b=>intro _ _ _ _ _ _ us O;obtain⟨_,_,rfl⟩:=DL.len2 O;rfl)
  have b5:DL.DefAt (L2.KOf I) mg "inverse" (DL.top 5) ["p","x"]:=by
   dsimp only [L2.KOf];refine' DL.def_mk I G ?a ?l ?c ?k ?b
   (case a=>k_is);(case l=>k_is);(case c=>k_is);(case k=>k_is)
   (case b=>intro _ _ _ _ _ _ us O;obtain⟨_,_,rfl⟩:=DL.len2 O;rfl)
  have b6:DL.DefAt (L2.KOf I) mg "cleared" (DL.top 11) ["p","load","pivot","place"]:=by
   dsimp only [L2.KOf];refine' DL.def_mk I G ?a ?l ?c ?k ?b
   (case a=>k_is);(case l=>k_is);(case c=>k_is);(case k=>k_is)
   (case b=>intro _ _ _ _ _ _ us O;obtain⟨_,_,_,_,rfl⟩:=DL.len4 O;rfl)
  have b7:DL.DefAt (L2.KOf I) mg "base_of" (DL.top 12) ["p","long","loads"]:=by
   dsimp only [L2.KOf];refine' DL.def_mk I G ?a ?l ?c ?k ?b
   (case a=>k_is);(case l=>k_is);(case c=>k_is);(case k=>k_is)
   (case b=>intro _ _ _ _ _ _ us O;obtain⟨_,_,_,rfl⟩:=DL.len3 O;rfl)
  have b8:DL.DefAt (L2.KOf I) mg "turned_over" (DL.top 7) ["table"]:=by
   dsimp only [L2.KOf];refine' DL.def_mk I G ?a ?l ?c ?k ?b
   (case a=>k_is);(case l=>k_is);(case c=>k_is);(case k=>k_is)
   (case b=>intro _ _ _ _ _ _ us O;obtain⟨_,rfl⟩:=DL.len1 O;rfl)
  have b9:DL.DefAt (L2.KOf I) mg "same_table" (DL.top 8) ["many"]:=by
   dsimp only [L2.KOf];refine' DL.def_mk I G ?a ?l ?c ?k ?b
   (case a=>k_is);(case l=>k_is);(case c=>k_is);(case k=>k_is)
   (case b=>intro _ _ _ _ _ _ us O;obtain⟨_,rfl⟩:=DL.len1 O;rfl)
  have ba:DL.DefAt (L2.KOf I) mg "led_into" (DL.top 14) ["p","table","base"]:=by
   dsimp only [L2.KOf];refine' DL.def_mk I G ?a ?l ?c ?k ?b
   (case a=>k_is);(case l=>k_is);(case c=>k_is);(case k=>k_is)
   (case b=>intro _ _ _ _ _ _ us O;obtain⟨_,_,_,rfl⟩:=DL.len3 O;rfl)
  have bb:DL.DefAt (L2.KOf I) mg "kernel" (DL.top 15) ["p","table"]:=by
   dsimp only [L2.KOf];refine' DL.def_mk I G ?a ?l ?c ?k ?b
   (case a=>k_is);(case l=>k_is);(case c=>k_is);(case k=>k_is)
   (case b=>intro _ _ _ _ _ _ us O;obtain⟨_,_,rfl⟩:=DL.len2 O;rfl)
  have bc:DL.DefAt (L2.KOf I) mg "image" (DL.top 16) ["p","table"]:=by
   dsimp only [L2.KOf];refine' DL.def_mk I G ?a ?l ?c ?k ?b
   (case a=>k_is);(case l=>k_is);(case c=>k_is);(case k=>k_is)
   (case b=>intro _ _ _ _ _ _ us O;obtain⟨_,_,rfl⟩:=DL.len2 O;rfl)
  have bd:DL.DefAt (L2.KOf I) mg "columns" (DL.top 23) ["high","loads"]:=by
   dsimp only [L2.KOf];refine' DL.def_mk I G ?a ?l ?c ?k ?b
   (case a=>k_is);(case l=>k_is);(case c=>k_is);(case k=>k_is)
   (case b=>intro _ _ _ _ _ _ us O;obtain⟨_,_,rfl⟩:=DL.len2 O;rfl)
  have be:DL.DefAt (L2.KOf I) mg "has_room" (DL.top 21) ["bar","room"]:=by
   dsimp only [L2.KOf];refine' DL.def_mk I G ?a ?l ?c ?k ?b
   (case a=>k_is);(case l=>k_is);(case c=>k_is);(case k=>k_is)
   (case b=>intro _ _ _ _ _ _ us O;obtain⟨_,_,rfl⟩:=DL.len2 O;rfl)
  have bf:DL.DefAt (L2.KOf I) mg "loads_in" (DL.top 22) ["bars","room"]:=by
   dsimp only [L2.KOf];refine' DL.def_mk I G ?a ?l ?c ?k ?b
   (case a=>k_is);(case l=>k_is);(case c=>k_is);(case k=>k_is)
   (case b=>intro _ _ _ _ _ _ us O;obtain⟨_,_,rfl⟩:=DL.len2 O;rfl)
  have bg:DL.DefAt (L2.KOf I) mg "lead_of" (DL.top 10) ["load"]:=by
   dsimp only [L2.KOf];refine' DL.def_mk I G ?a ?l ?c ?k ?b
   (case a=>k_is);(case l=>k_is);(case c=>k_is);(case k=>k_is)
   (case b=>intro _ _ _ _ _ _ us O;obtain⟨_,rfl⟩:=DL.len1 O;rfl)
  have bh:DL.DefAt (L2.KOf I) mg "led" (DL.top 6) ["p","table","load"]:=by
   dsimp only [L2.KOf];refine' DL.def_mk I G ?a ?l ?c ?k ?b
   (case a=>k_is);(case l=>k_is);(case c=>k_is);(case k=>k_is)
   (case b=>intro _ _ _ _ _ _ us O;obtain⟨_,_,_,rfl⟩:=DL.len3 O;rfl)
  have bi:DL.DefAt (L2.KOf I) mg "mixed_load" (DL.top 24) ["row","bars","times","room"]:=by
   dsimp only [L2.KOf];refine' DL.def_mk I G ?a ?l ?c ?k ?b
   (case a=>k_is);(case l=>k_is);(case c=>k_is);(case k=>k_is)
   (case b=>intro _ _ _ _ _ _ us O;obtain⟨_,_,_,_,rfl⟩:=DL.len4 O;rfl)
  have bj:DL.DefAt (L2.KOf I) mg "mixed" (DL.top 25) ["row","bars","times"]:=by
   dsimp only [L2.KOf];refine' DL.def_mk I G ?a ?l ?c ?k ?b
   (case a=>k_is);(case l=>k_is);(case c=>k_is);(case k=>k_is)
   (case b=>intro _ _ _ _ _ _ us O;obtain⟨_,_,_,rfl⟩:=DL.len3 O;rfl)
  have bl:DL.DefAt (L2.KOf I) mg "settled" (DL.top 26) ["row","k","bars"]:=by
   dsimp only [L2.KOf];refine' DL.def_mk I G ?a ?l ?c ?k ?b
   (case a=>k_is);(case l=>k_is);(case c=>k_is);(case k=>k_is)
   (case b=>intro _ _ _ _ _ _ us O;obtain⟨_,_,_,rfl⟩:=DL.len3 O;rfl)
  have bm:DL.DefAt (L2.KOf I) mg "solved" (DL.top 17) ["p","table","load"]:=by
   dsimp only [L2.KOf];refine' DL.def_mk I G ?a ?l ?c ?k ?b
   (case a=>k_is);(case l=>k_is);(case c=>k_is);(case k=>k_is)
   (case b=>intro _ _ _ _ _ _ us O;obtain⟨_,_,_,rfl⟩:=DL.len3 O;rfl)
  have bn:DL.DefAt (L2.KOf I) mg "next_load" (DL.top 27) ["p","arrow","load"]:=by
   dsimp only [L2.KOf];refine' DL.def_mk I G ?a ?l ?c ?k ?b
   (case a=>k_is);(case l=>k_is);(case c=>k_is);(case k=>k_is)
   (case b=>intro _ _ _ _ _ _ us O;obtain⟨_,_,_,rfl⟩:=DL.len3 O;rfl)
  have bo:DL.DefAt (L2.KOf I) mg "taken_on" (DL.top 28) ["p","arrow","bar"]:=by
   dsimp only [L2.KOf];refine' DL.def_mk I G ?a ?l ?c ?k ?b
   (case a=>k_is);(case l=>k_is);(case c=>k_is);(case k=>k_is)
   (case b=>intro _ _ _ _ _ _ us O;obtain⟨_,_,_,rfl⟩:=DL.len3 O;rfl)
  have bp:DL.DefAt (L2.KOf I) mg "new_loads" (DL.top 29) ["p","arrow"]:=by
   dsimp only [L2.KOf];refine' DL.def_mk I G ?a ?l ?c ?k ?b
   (case a=>k_is);(case l=>k_is);(case c=>k_is);(case k=>k_is)
   (case b=>intro _ _ _ _ _ _ us O;obtain⟨_,_,rfl⟩:=DL.len2 O;rfl)
  have bq:DL.DefAt (L2.KOf I) mg "grown" (DL.top 30) ["row","k","bars"]:=by
   dsimp only [L2.KOf];refine' DL.def_mk I G ?a ?l ?c ?k ?b
   (case a=>k_is);(case l=>k_is);(case c=>k_is);(case k=>k_is)
   (case b=>intro _ _ _ _ _ _ us O;obtain⟨_,_,_,rfl⟩:=DL.len3 O;rfl)
  have br:DL.DefAt (L2.KOf I) mg "stretch_of" (DL.top 20) ["bar"]:=by
   dsimp only [L2.KOf];refine' DL.def_mk I G ?a ?l ?c ?k ?b
   (case a=>k_is);(case l=>k_is);(case c=>k_is);(case k=>k_is)
   (case b=>intro _ _ _ _ _ _ us O;obtain⟨_,rfl⟩:=DL.len1 O;rfl)
  have bt:DL.DefAt (L2.KOf I) mg "all_grown" (DL.top 31) ["row"]:=by
   dsimp only [L2.KOf];refine' DL.def_mk I G ?a ?l ?c ?k ?b
   (case a=>k_is);(case l=>k_is);(case c=>k_is);(case k=>k_is)
   (case b=>intro _ _ _ _ _ _ us O;obtain⟨_,rfl⟩:=DL.len1 O;rfl)
  have bu:DL.DefAt (L2.KOf I) mg "back_of" (DL.top 18) ["p","table"]:=by
   dsimp only [L2.KOf];refine' DL.def_mk I G ?a ?l ?c ?k ?b
   (case a=>k_is);(case l=>k_is);(case c=>k_is);(case k=>k_is)
   (case b=>intro _ _ _ _ _ _ us O;obtain⟨_,_,rfl⟩:=DL.len2 O;rfl)
  have bv:DL.DefAt (L2.KOf I) mg "barred" (DL.top 32) ["row"]:=by
   dsimp only [L2.KOf];refine' DL.def_mk I G ?a ?l ?c ?k ?b
   (case a=>k_is);(case l=>k_is);(case c=>k_is);(case k=>k_is)
   (case b=>intro _ _ _ _ _ _ us O;obtain⟨_,rfl⟩:=DL.len1 O;rfl)
  have bw:DL.DefAt (L2.KOf I) mg "_law_times" (DL.top 35) ["_law_p","_law_one","_law_other"]:=by
   dsimp only [L2.KOf];refine' DL.def_mk I G ?a ?l ?c ?k ?b
   (case a=>k_is);(case l=>k_is);(case c=>k_is);(case k=>k_is)
   (case b=>intro _ _ _ _ _ _ us O;obtain⟨_,_,_,rfl⟩:=DL.len3 O;rfl)
  have bx:DL.DefAt (L2.KOf I) mg "_law_in_turns" (DL.top 41) ["_law_told","_law_turns","_law_backs"]:=by
   dsimp only [L2.KOf];refine' DL.def_mk I G ?a ?l ?c ?k ?b
   (case a=>k_is);(case l=>k_is);(case c=>k_is);(case k=>k_is)
   (case b=>intro _ _ _ _ _ _ us O;obtain⟨_,_,_,rfl⟩:=DL.len3 O;rfl)
  have bz:DL.DefAt (L2.KOf I) mg "_law_with" (DL.top 39) ["_law_found","_law_room"]:=by
   dsimp only [L2.KOf];refine' DL.def_mk I G ?a ?l ?c ?k ?b
   (case a=>k_is);(case l=>k_is);(case c=>k_is);(case k=>k_is)
   (case b=>intro _ _ _ _ _ _ us O;obtain⟨_,_,rfl⟩:=DL.len2 O;rfl)
  have c0:DL.DefAt (L2.KOf I) mg "_law_bar_row" (DL.top 40) ["_law_p","_law_ways_here","_law_found"]:=by
   dsimp only [L2.KOf];refine' DL.def_mk I G ?a ?l ?c ?k ?b
   (case a=>k_is);(case l=>k_is);(case c=>k_is);(case k=>k_is)
   (case b=>intro _ _ _ _ _ _ us O;obtain⟨_,_,_,rfl⟩:=DL.len3 O;rfl)
  have c1:DL.DefAt (L2.KOf I) mg "_law_same" (DL.top 36) ["_law_many"]:=by
   dsimp only [L2.KOf];refine' DL.def_mk I G ?a ?l ?c ?k ?b
   (case a=>k_is);(case l=>k_is);(case c=>k_is);(case k=>k_is)
   (case b=>intro _ _ _ _ _ _ us O;obtain⟨_,rfl⟩:=DL.len1 O;rfl)
  have c2:DL.DefAt (L2.KOf I) mg "_law_whole" (DL.top 42) ["_law_found"]:=by
   dsimp only [L2.KOf];refine' DL.def_mk I G ?a ?l ?c ?k ?b
   (case a=>k_is);(case l=>k_is);(case c=>k_is);(case k=>k_is)
   (case b=>intro _ _ _ _ _ _ us O;obtain⟨_,rfl⟩:=DL.len1 O;rfl)
  have c3:DL.DefAt (L2.KOf I) mg "_law_is_table" (DL.top 43) ["_law_p","_law_found","_law_high","_law_wide"]:=by
   dsimp only [L2.KOf];refine' DL.def_mk I G ?a ?l ?c ?k ?b
   (case a=>k_is);(case l=>k_is);(case c=>k_is);(case k=>k_is)
   (case b=>intro _ _ _ _ _ _ us O;obtain⟨_,_,_,_,rfl⟩:=DL.len4 O;rfl)
  have c4:DL.DefAt (L2.KOf I) mg "_law_paper_right" (DL.top 44) ["_law_told","_law_found"]:=by
   dsimp only [L2.KOf];refine' DL.def_mk I G ?a ?l ?c ?k ?b
   (case a=>k_is);(case l=>k_is);(case c=>k_is);(case k=>k_is)
   (case b=>intro _ _ _ _ _ _ us O;obtain⟨_,_,rfl⟩:=DL.len2 O;rfl)
  have c5:DL.DefAt (L2.KOf I) mg "law" (DL.top 46) ["_law_script"]:=by
   dsimp only [L2.KOf];refine' DL.def_mk I G ?a ?l ?c ?k ?b
   (case a=>k_is);(case l=>k_is);(case c=>k_is);(case k=>k_is)
   (case b=>intro _ _ _ _ _ _ us O;obtain⟨_,rfl⟩:=DL.len1 O;rfl)
  obtain⟨f,fd,Fu,hb,hm⟩:=c5.ex;have e0:=as.symm.trans hm;cases e0;refine⟨fd,λs u=> .of_eq (hb [u] rfl),λbase kb nb=>?_⟩;have ai:DL.FnD (zic).prog w (L2.KOf I) mg base 1 "_law_cell" 2 DL.F_law_cell:=DL.ok_law_cell ax a0 aw Z;have c9:DL.FnD (zic).prog w (L2.KOf I) mg base 2 "_law_any_row" 4 DL.F_law_any_row:=DL.ok_law_any_row ay ai Z U;have ca:DL.FnD (zic).prog w (L2.KOf I) mg base 1 "behind_noughts" 2 DL.F_behind_noughts:=DL.ok_behind_noughts az af;have a9:DL.FnD (zic).prog w (L2.KOf I) mg base 1 "rests" 2 DL.F_rests:=DL.ok_rests b0 U;have cb:DL.FnD (zic).prog w (L2.KOf I) mg base 1 "inverse" 2 DL.F_inverse:=DL.ok_inverse b5 Z;have cc:DL.FnD (zic).prog w (L2.KOf I) mg base 2 "cleared" 4 DL.F_cleared:=DL.ok_cleared b6 a9 a1;have a4:DL.FnD (zic).prog w (L2.KOf I) mg base 3 "base_of" 3 DL.F_base_of:=DL.ok_base_of b7 a9 cb cc Z;have aa:DL.FnD (zic).prog w (L2.KOf I) mg base 1 "turned_over" 1 DL.F_turned_over:=DL.ok_turned_over b8 Z U;have a5:DL.FnD (zic).prog w (L2.KOf I) mg base 1 "same_table" 1 DL.F_same_table:=DL.ok_same_table b9 Z U;have aj:DL.FnD (zic).prog w (L2.KOf I) mg base 4 "led_into" 3 DL.F_led_into:=DL.ok_led_into ba ca a4 aa a5 a1;have ak:DL.FnD (zic).prog w (L2.KOf I) mg base 5 "kernel" 2 DL.F_kernel:=DL.ok_kernel bb aj;have al:DL.FnD (zic).prog w (L2.KOf I) mg base 4 "image" 2 DL.F_image:=DL.ok_image bc a4 aa;have ab:DL.FnD (zic).prog w (L2.KOf I) mg base 2 "columns" 2 DL.F_columns:=DL.ok_columns bd aa a0 U;have ac:DL.FnD (zic).prog w (L2.KOf I) mg base 1 "has_room" 2 DL.F_has_room:=DL.ok_has_room be a0;have ad:DL.FnD (zic).prog w (L2.KOf I) mg base 2 "loads_in" 2 DL.F_loads_in:=DL.ok_loads_in bf ac;have a6:DL.FnD (zic).prog w (L2.KOf I) mg base 1 "lead_of" 1 DL.F_lead_of:=DL.ok_lead_of bg a2;have am:DL.FnD (zic).prog w (L2.KOf I) mg base 2 "led" 3 DL.F_led:=DL.ok_led bh a9 ah a1;have cd:DL.FnD (zic).prog w (L2.KOf I) mg base 3 "mixed_load" 4 DL.F_mixed_load:=DL.ok_mixed_load bi am ab ac ad a1;have ce:DL.FnD (zic).prog w (L2.KOf I) mg base 4 "mixed" 3 DL.F_mixed:=DL.ok_mixed bj a6 cd a0 Z U;have cf:DL.FnD (zic).prog w (L2.KOf I) mg base 6 "settled" 3 DL.F_settled:=DL.ok_settled bl aj ak al ab ad ce a6 av a2;have cg:DL.FnD (zic).prog w (L2.KOf I) mg base 4 "solved" 3 DL.F_solved:=DL.ok_solved bm a4 a6 U a1;have ch:DL.FnD (zic).prog w (L2.KOf I) mg base 5 "next_load" 3 DL.F_next_load:=DL.ok_next_load bn am cg af;have ci:DL.FnD (zic).prog w (L2.KOf I) mg base 6 "taken_on" 3 DL.F_taken_on:=DL.ok_taken_on bo ch;have cj:DL.FnD (zic).prog w (L2.KOf I) mg base 6 "new_loads" 2 DL.F_new_loads:=DL.ok_new_loads bp ak a6 al a5 a2;have ck:DL.FnD (zic).prog w (L2.KOf I) mg base 7 "grown" 3 DL.F_grown:=DL.ok_grown bq cf ci cj ac;have an:DL.FnD (zic).prog w (L2.KOf I) mg base 1 "stretch_of" 1 DL.F_stretch_of:=DL.ok_stretch_of br a0;have cl:DL.FnD (zic).prog w (L2.KOf I) mg base 9 "all_grown" 1 DL.F_all_grown:=DL.ok_all_grown bt ck an a5 a0 Z ag;have cm:DL.FnD (zic).prog w (L2.KOf I) mg base 4 "back_of" 2 DL.F_back_of:=DL.ok_back_of bu a4 a5 a8 U a1;have cn:DL.FnD (zic).prog w (L2.KOf I) mg base 10 "barred" 1 DL.F_barred:=DL.ok_barred bv cl ab cm ad an a2;have ao:DL.FnD (zic).prog w (L2.KOf I) mg base 1 "_law_times" 3 DL.F_law_times_32:=DL.ok_law_times_32 bw Z ah U a1;have co:DL.FnD (zic).prog w (L2.KOf I) mg base 2 "_law_in_turns" 3 DL.F_law_in_turns_32:=DL.ok_law_in_turns_32 bx ao a2 a3 U;have ap:DL.FnD (zic).prog w (L2.KOf I) mg base 1 "_law_with" 2 DL.F_law_with_k28:=DL.ok_law_with_k28 bz a2;have cp:DL.FnD (zic).prog w (L2.KOf I) mg base 2 "_law_bar_row" 3 DL.F_law_bar_row:=DL.ok_law_bar_row c0 ap a2 a3 a0 Z U;have cq:DL.FnD (zic).prog w (L2.KOf I) mg base 1 "_law_same" 1 DL.F_law_same_32:=DL.ok_law_same_32 c1 a3 Z U;have aq:DL.FnD (zic).prog w (L2.KOf I) mg base 1 "_law_whole" 1 DL.F_law_whole:=DL.ok_law_whole c2 au a3 a7;have cr:DL.FnD (zic).prog w (L2.KOf I) mg base 2 "_law_is_table" 4 DL.F_law_is_table_32:=DL.ok_law_is_table_32 c3 aq ae a7 a0 U;have cs:DL.FnD (zic).prog w (L2.KOf I) mg base 3 "_law_paper_right" 2 DL.F_law_paper_right:=DL.ok_law_paper_right c4 co cp ao cq aq cr ae a7 a0 a8 ag U a1;exact DL.ok_law Fu c9 cn cs ai ap a0 a8 Z
