import PyProof.Rows.All
import Wide.All
import OpenK.AllK
import Wide.FinOn
import Lean
import PyProof.EqAt
import PyProof.EqKinds
import PyProof.TupleCall
import PySem.Str
import PyProof.ZipIter
import PyProof.IsiBase
import KE.KItemsList
import KE.KIsAll
import OpenK.KOwn
import KE.KSortAsk
import PyProof.StrBlockI
import PyProof.Rows.EqDataRows
import PyProof.Rows.InDataRows
import PyProof.SumWalkG
import PyProof.ConsumeWalk
import PyProof.WalksMore
import KE.KSortTup
import PyProof.ListMulRoad
import PyProof.EnumFor
import PyProof.Rows.EnumRows
import PyProof.StrBlockL
import PyProof.JoinWalk
import PyProof.NsDelKeeps
import KE.KTryDeep
import PyProof.InstStoreFacts
import PyProof.NsCount
import PyProof.ExcClass2
import PyProof.Rows.FStr
import PyProof.StationsW
import PyProof.Rows.Catch
import KE.KRevIter
import PyProof.CollectIter
import PyProof.TupleOfGen
import PyProof.Rows.Tup
import PyProof.Draws
import PyProof.EnumMake
import PyProof.StrWalks
import PyProof.SliceStr2
import PyProof.ListNew
import KE.KDictOf
import PyProof.ListRange
import PyProof.Rows.GenSrcRange
import PyProof.ListCopy
import PyProof.AttrMissHeap
import PyProof.DictWalks
import PyProof.FactsDict
import PyProof.TableCode
import PyProof.Rows.KernelRfl
import PySem.Challenge.RW_barsplit_k25_whole_mirrored_and_opposite
open PySem renaming wpAny_bind → zgV, wpAny_pure → zg1, wpAny_newObj_type → zho, wpAny_call_entry → zhH, wpAny_callSpecial?_slot → zhN, wpAny_field → zhR, builtinLookup_eq_fast → zid, wpAny_setField_rec → ziv, wpAny_of_eq → ziC, wpAny_seqItems → ziM, isSubtype_type → ziN, wpAny_dictEntries → ziP, typeLookup_type → ziQ, wpAny_typeNameOfWhole_keyiter → ziU, wpAny_isInstance → ziV, wpAny_mono → ziX, wpAny_Call_Name_kw → zi0, wpAny_holding → zi3, wpAny_attempt → zi4, mem_of_lookup → zi5, Builtin → zi8, wpAny_typeOf → zjh, wpAny_rule → zji, wpAny_specialOf → zjo, wpAny_loadPart' → zjp, codeAny_builtin → zjq, wpAny_notOrdered_dict → zjz, wpAny_passesOwn → zjQ, wpAny_dictEpoch → zjR, pushCells_keeps → zjT, wpAny_truthy_bool → zj6, call_meets → zj7, plainId_quiet → zke, codeAny_mono → zkr, wpAny_updateSeq_pair → zkv, wpAny_setField → zkx, Within → zky, wpAny_onRaise → zkK, tupleKind_room_in1 → zkL, wpAny_pyIter_slot → zkO, wpAny_pyIter_list → zkP, concat_meets → zkR, noFill_tuple_add → zkS, entryFor_of_tree → zkT
open PySem.Challenge renaming rw_barsplit_k25_whole_mirrored_and_opposite → zgW
open List renaming range → zgX, mem_range → zgZ, getElem?_eq_getElem → zg0, replicate → zg2, getD_eq_getElem?_getD → zg4, getElem?_set_ne → zg7, size_toArray → zg9, getElem?_cons_zero → zha, getElem?_cons_succ → zhb, getElem?_eq_some_iff → zhe, mem_cons_of_mem → zhg, mem_cons → zhh, map_congr_left → zhi, mem_cons_self → zhj, length_map → zhk, mem_filter → zhm, map_cons → zhq, mem_map → zhr, set_cons_zero → zhw, set_cons_succ → zhx, eq_nil_of_length_eq_zero → zhy, countP_eq_length_filter → zhB, getElem?_map → zhD, length_cons → zhE, map_append → zhG, getElem?_set_self → zhI, getElem?_append_right → zhL, not_mem_nil → zhP, lookup_cons → zhQ, mem_append_right → zhT, map_map → zhU, getElem?_append_left → zhX, length_append → zh3, range_succ → zh5, range'_succ → zia, countP_congr → zic, range_eq_range' → zie, take_of_length_le → zih, replicate_succ → zij, getElem_mem → zis, mem_of_getElem? → zit, range' → ziz, pairwise_iff_getElem → ziF, length_range → ziI, length_nil → ziJ, flatten_cons → ziK, pairwise_map → zi1, Pairwise → zi2, length_take → zi6, lookup → zi7, nodup_cons → zjb, mem_append → zjc, getElem?_replicate → zjd, countP_map → zje, pairwise_lt_range → zjj, ext_getElem? → zjl, any_eq_false → zjm, range_add → zjs, length_singleton → zjt, all_eq_true → zjx, zip_map' → zjy, nodup_iff_pairwise_ne → zjF, mem_singleton → zjK, find?_eq_none → zjL, filter_append → zjM, drop_eq_getElem_cons → zjO, reverse_cons → zjX, getElem?_eq_none → zkb, append_nil → zkc, length_reverse → zkm, getElem_of_mem → zkn, filter_sublist → zko, filterMap_cons → zkp, countP_eq_zero → zkq, length_eq_countP_add_countP → zkw, filter_congr → zkz, nodup_range → zkG, drop_length → zkH, cons_append → zkI
open PySem.Heap renaming get?_push_of_some → zgY, get?_push_size → zg6, lt_size → zhc, size_push → zhY, push → zh6, SameBut → ziD, get?_update_self → ziZ, get?_update_other → zjk
open Nat renaming le_refl → zg3, lt_or_ge → zhd, lt_of_lt_of_le → zhl, not_lt_zero → zhn, add_sub_cancel_left → zhu, ne_of_lt → zhz, lt_irrefl → zhC, lt_succ_of_lt → zh0, le_trans → zh2, zero_le → zh7, le_add_right → zh8, lt_succ_self → zif, ne_of_gt → zin, zero_add → ziO, lt_trichotomy → zjr, add_assoc → zj1, le_of_lt → zkh, mul_comm → zkE, add_zero → zkF
open Option renaming bind_some → zg5, map_some → zhF, isSome_iff_exists → zim, some → ziq, getD_some → zjZ, map → zku
open Int renaming mul_emod → zg8, add_emod → zhp, emod_emod → zhs, emod_lt_of_pos → zht, emod_nonneg → zhM, toNat_natCast → zh1, emod_eq_of_lt → zik, sub_emod → zio, emod_eq_emod_iff_emod_sub_eq_zero → ziu, mul_assoc → ziw, mul_comm → zix, eq_ofNat_of_zero_le → ziR, toNat_of_nonneg → zjD, mul_one → zj2, mul_add → zj3, mul_left_comm → zkC, mul_zero → zkJ
open Bool renaming false_ne_true → zhf, or_eq_true → zh9, false_eq_true → zir, eq_iff_iff → ziA, not_eq_true' → ziL
open PySem.Value renaming ref → zhv, none → zii, type → zj8
open PyProof.Rows renaming callWith_type1 → zhA, slot_tuple_getitem → zh4, slot_tupleiter_next → zjS, tupleItemsOf_ → zkd
open PySem.Builtin.SmallTypes renaming nextOf → zhJ, ownedTupleIsFree → zil, ownedTupleHandOut → zjE, newRecord → zj4
open PySem.Str renaming ofString → zhK
open Ne renaming symm → zhO
open Option.some renaming inj → zhS
open Classical renaming byContradiction → zhV, axiomOfChoice → zjN
open PySem.Builtin.Tuple renaming tupleExact → zhW, tupleIsExact → ziS
open PySem.W renaming mg_none_of → zhZ, emptyDict → zig, cellsFrom_some → zja, mroIn → zju, nsIn → zjB, typeIn → zjC, specialIn → zjI, lookIn → zj9, kitOne → zka, plainGet_of → zkf, mg_of → zkj, callWith_K → zkk, methodObj → zkt
open Array renaming length_toList → zib, getElem?_eq_getElem → ziE, getElem?_toList → ziW
open PySem.F renaming slot_dict_keyiterator_next → ziy, slot_list_getattribute → zjf, slot_tuple_mul → zjA, args_tuple_add_2 → zjJ, entry_tuple_add → zjU, slot_tuple_add → zjY, slot_zip_next → zkl, args_tuple_mul_2 → zkD, entry_tuple_mul → zkM, args_dict_keyiterator_next_1 → zkN, entry_dict_keyiterator_next → zkQ
open PySem.Builtin.List renaming listTooLong → ziB
open False renaming elim → ziG
open PySem.NameKind renaming cell → ziH
open PySem.Builtin.Slice renaming slicePlaces → ziT, sliceAdjust → zjv
open List.Pairwise renaming imp_of_mem → ziY, filter → zjV
open PySem.Calls renaming spliced_cons → zi9, spliced_nil → zjW
open PySem.Obj renaming data_mapFields → zjg, isFreed_of_fields → zkg, mapSeq → zki, cls_mapFields → zkB
open PySem.Heap.SameBut renaming update → zjn
open PySem.Around renaming under_plainId → zjw
open Function renaming comp_def → zjG
open PySem.Builtin.Dict renaming samePairs → zjH, showsAll → zjP
open ForInStep renaming yield → zj0
open PySem.Builtin.Dict_items renaming ownsTuple → zj5
open Sum renaming inl → zks, inr → zkA
local macro_rules | `(⋯) => `(by first | decide +kernel | omega | simp)
noncomputable section
set_option Elab.async false
set_option linter.all false
set_option maxRecDepth 100000
set_option maxHeartbeats 4000000
namespace L2
open PySem PySem.Spec PyProof.Rows
abbrev Key:=Sum Int Str
def zdG:Key->Value->Bool
 | .inl k,v=>Value.isInt k v
 | .inr x,v=>Value.isStrOf x v
def zgK(w:World):Key->Int
 | .inl k=>hashInt k
 | .inr x=>hashStr w x
theorem jB : ∀{k:Key} {v:Value},zdG k v=true->(∃i t,k=zks i/\v=Value.int i t)\/(∃x t,k=zkA x/\v=Value.str x t)
 | .inl i,v,h=>by
  obtain⟨t,e⟩:=Value.isInt_shape (k:=i) (v:=v) h;exact .inl ⟨i,t,rfl,e⟩
 | .inr x,v,h=>by
  obtain⟨t,e⟩:=Value.isStrOf_shape (x:=x) (v:=v) h;exact .inr ⟨x,t,rfl,e⟩
theorem zdF(a b:Int):decide ((zks a:Key)=zks b)=(a==b):=by
 by_cases e:a=b
 ·subst e;simp
 ·have h : ¬(zks a:Key)=zks b:=λq=>e (zks.inj q)
  rw [decide_eq_false h];exact(beq_eq_false_iff_ne.mpr e).symm
theorem zdC(a b:Str):decide ((zkA a:Key)=zkA b)=decide (a=b):=by
 by_cases e:a=b
 ·subst e;simp
 ·have h : ¬(zkA a:Key)=zkA b:=λq=>e (zkA.inj q)
  rw [decide_eq_false h,decide_eq_false e]
theorem zdE(a:Int)(b:Str):decide ((zks a:Key)=zkA b)=false:=decide_eq_false (λq=>nomatch q)
theorem zdD(a:Str)(b:Int):decide ((zkA a:Key)=zks b)=false:=decide_eq_false (λq=>nomatch q)
def JL(prog:Program)(w:World):PySem.KeyKind prog w Key where
 is:=zdG
 hash:=zgK w
 inj:=λv a b ha I=>by
  rcases jB ha with⟨i,t,rfl,rfl⟩ | ⟨x,t,rfl,rfl⟩
  ·rcases jB I with⟨j,u,rfl,e⟩ | ⟨y,u,rfl,e⟩
   ·injection e with e1 _;rw [e1]
   ·exact nomatch e
  ·rcases jB I with⟨j,u,rfl,e⟩ | ⟨y,u,rfl,e⟩
   ·exact nomatch e
   ·injection e with e1 _;rw [e1]
 byValue:=λk v h=>by
  rcases jB h with⟨i,t,rfl,rfl⟩ | ⟨x,t,rfl,rfl⟩<;>rfl
 pyHash:=λz h=>by
  rcases jB z with⟨i,t,rfl,rfl⟩ | ⟨x,t,rfl,rfl⟩
  ·exact wpAny_pyHash_int h
  ·exact wpAny_pyHash_str h
 eqBool:=λJ z h=>by
  rcases jB J with⟨i,t,rfl,rfl⟩ | ⟨x,t,rfl,rfl⟩
  ·rcases jB z with⟨j,u,rfl,rfl⟩ | ⟨y,u,rfl,rfl⟩
   ·rw [zdF]at h;exact wpAny_eqBool_int h
   ·rw [zdE]at h;exact SeqAt.EqAt.int_str i t y u _ _ _ _ h
  ·rcases jB z with⟨j,u,rfl,rfl⟩ | ⟨y,u,rfl,rfl⟩
   ·rw [zdD]at h;exact SeqAt.EqAt.str_int x t j u _ _ _ _ h
   ·rw [zdC]at h;exact wpAny_eqBool_str h
 «strs» :=λk x t v h=>by
  rcases jB h with⟨i,u,rfl,e⟩ | ⟨y,u,rfl,e⟩
  ·exact nomatch e
  ·injection e with e1 _
   subst e1;cases v<;>rfl
inductive V where
 | non | bl (b:Bool) | int (i:Int) | str (x:Str) | byt (b:Array UInt8) | flt (b:UInt64) | ref (a:Addr) | ty (n:String)
 deriving DecidableEq
def RelV:V->Value->Prop
 | .non,u=>u=zii
 | .bl b,u=>u=Value.bool b
 | .int i,u=>∃t,u=Value.int i t
 | .str x,u=>∃t,u=Value.str x t
 | .byt b,u=>∃t,u=Value.bytes b t
 | .flt b,u=>∃t,u=Value.float b t
 | .ref a,u=>u=zhv a
 | .ty n,u=>u=zj8 n
abbrev Vals:List V->List Value->Prop:=Paired RelV
theorem Vals.length{xs:List V}{us:List Value}(r:Vals xs us):xs.length=us.length:=Paired.length r
theorem Vals.get : ∀{xs:List V} {us:List Value} {i:Nat} {x:V},Vals xs us->xs[i]? = some x->∃u,us[i]? = some u/\RelV x u
 | _,_,_,_,.nil,e=>by simp at e
 | _,_,0,_,.cons r _,e=>by simp at e;subst e;exact⟨_,rfl,r⟩
 | _,_,i+1,x,.cons _ t,e=>by
  obtain⟨u,h1,h2⟩:=Vals.get (i:=i) (x:=x) t (by simpa using e);exact⟨u,by simpa using h1,h2⟩
theorem Vals.append : ∀{xs ys:List V} {us z:List Value},Vals xs us->Vals ys z->Vals (xs++ys) (us++z)
 | _,_,_,_,.nil,s=>s
 | _,_,_,_,.cons r t,s=> .cons r (Vals.append t s)
theorem Vals.take : ∀{xs:List V} {us:List Value} (n:Nat),Vals xs us->Vals (xs.take n) (us.take n)
 | _,_,0,_=> .nil
 | _,_,_+1,.nil=> .nil
 | _,_,n+1,.cons r t=> .cons r (Vals.take n t)
theorem Vals.drop : ∀{xs:List V} {us:List Value} (n:Nat),Vals xs us->Vals (xs.drop n) (us.drop n)
 | _,_,0,r=>r
 | _,_,_+1,.nil=> .nil
 | _,_,n+1,.cons _ t=>Vals.drop n t
def RelO:Option V->Option Value->Prop
 | some v,some u=>RelV v u
 | none,none=>True
 | _,_=>False
def KV{κ:Type}:List (κ×V)->List (κ×Value)->Prop:=Paired λ(p:κ×V) (q:κ×Value)=>p.1=q.1/\RelV p.2 q.2
def kV:Key->V
 | .inl i=> .int i
 | .inr x=> .str x
inductive HO where
 | lst (xs:List V)
 | tup (xs:List V)
 | dK (kvs:List (Key×V)) | dT (kvs:List (List Key×V))
 | set (S:Int->Bool) (n:Nat)
 | ins (C dx:Addr) (fs:List (Str×V))
 | own (x:Addr)
 | xd (fs:List (Str×V))
 | met (f x:Addr)
 | rng (lo hi:Int)
 | frz (o:Obj) (u:HO)
 | tbl (ps:Array Value)
 | ext (φ:Heap->Prop)
abbrev Hp:=Addr->Option HO
def upd(H:Hp)(a:Addr)(o:HO):Hp:=λb=>if b=a then some o else H b
theorem zE{H:Hp}{a:Addr}{o:HO}:upd H a o a=some o:=by unfold upd;rw [if_pos rfl]
theorem zH{H:Hp}{a b:Addr}{o:HO}(h:b≠a):upd H a o b=H b:=by unfold upd;rw [if_neg h]
theorem yK{H:Hp}{a:Addr}{o u:HO}:upd (upd H a o) a u=upd H a u:=by
 funext b;unfold upd;split<;>rfl
theorem jy{H:Hp}{a b:Addr}{o:HO}(h:H a=some o)(h':H b=none):a≠b:=by
 intro e;subst e;rw [h]at h';cases h'
def IsTupD(h:Heap)(a:Addr)(items:Array Value):Prop:=∃o,h.get? a=some o/\(o.cls,o.dict)=(zj8 "tuple",none)/\∃n,o.data = .seq items n
theorem IsTupD.new(h:Heap)(items:Array Value):IsTupD (h.push {cls:= .type "tuple",data:= .seq items}) h.objs.size items:=⟨_,zg6 _ rfl,rfl,_,rfl⟩
theorem IsTupD.tup{h:Heap}{a:Addr}{items:Array Value}(x:IsTupD h a items):IsTup h a items:=let ⟨o,e,c,r⟩:=x;⟨o,e,(Prod.mk.inj c).1,r⟩
section
variable(P:Program)(w:World)
def ObjOk(H:Hp)(h:Heap)(a:Addr):HO->Prop
 | .lst xs=>xs.length<=sizeLine/\∃(z:List Value) (n:Nat),Vals xs z/\h.get? a=some {cls:= .type "list",data:= .seq z.toArray n}
 | .tup xs=>xs.length<=sizeLine/\∃z:List Value,Vals xs z/\IsTupD h a z.toArray
 | .dK kvs=>kvs.length<=sizeLine/\(a==sysModules)=false/\∃vs,KV kvs vs/\h.DictOf (JL P w) a vs
 | .dT kvs=>kvs.length<=sizeLine/\(a==sysModules)=false/\∃xs:List (List Key×Addr×Value),
  Paired (λ(p:List Key×V) (q:List Key×Addr×Value)=>p.1=q.1/\H q.2.1=some (.tup (p.1.map kV))/\RelV p.2 q.2.2) kvs xs/\
  ∃o es ep,h.get? a=some o/\o.ExactDict/\o.data = .dict es ep/\es.toList=xs.map (entryOfKey (tupleKind (JL P w)))/\(xs.map (·.1)).Nodup
 | .set S n=>h.SetOf (intKind P w) a S n
 | .ins C dx fs=>H dx=some (.own a)/\fs.length<=1000/\dx≠a/\h.get? a=some (PySem.W.instObj C dx)/\
  ∃mA,h.Ns1 dx mA/\(∀f,RelO (fs.lookup f) (mA f))/\zky mA (fs.map (·.1))
 | .own _=>∃o,h.get? a=some o
 | .xd fs=>∃mA,h.Ns1 a mA/\∀f,RelO (fs.lookup f) (mA f)
 | .rng lo hi=>∃t u v,h.get? a=some {cls:= .type "range",data:= .fields #[.int lo t,.int hi u,.int 1 v]}
 | .frz o u=>h.get? a=some o/\ObjOk H h a u
 | .tbl ps=>h.get? a=some {cls:= .none,data:= .fields ps}
 | .met f x=>h.get? a=some (zkt (.ref f) (.ref x))
 | .ext φ=>φ h/\(∃o,h.get? a=some o)/\∀h1 h2:Heap,φ h1->(∀o,h1.get? a=some o->h2.get? a=some o)->φ h2
def HOk(H:Hp)(h:Heap):Prop:=∀a o,H a=some o->ObjOk P w H h a o
end
section
variable{P:Program}{w:World}{H H':Hp}{h h':Heap}{a:Addr}{o:HO}
theorem ObjOk.lt(x:ObjOk P w H h a o):a<h.objs.size:=by
 cases o with
 | lst xs=>obtain⟨_,_,_,_,e⟩:=x;exact zhc e
 | tup xs=>obtain⟨_,_,_,p⟩:=x;exact p.tup.lt
 | dK kvs=>obtain⟨_,_,_,_,o,_,_,e,_⟩:=x;exact zhc e
 | dT kvs=>obtain⟨_,_,_,_,o,_,_,e,_⟩:=x;exact zhc e
 | set S n=>obtain⟨o,_,_,_,e,_⟩:=x;exact zhc e
 | ins C dx fs=>obtain⟨_,_,_,e,_⟩:=x;exact zhc e
 | own y=>obtain⟨_,e⟩:=x;exact zhc e
 | xd fs=>obtain⟨_,⟨_,_,_,e,_⟩,_⟩:=x;exact zhc e
 | rng lo hi=>obtain⟨_,_,_,e⟩:=x;exact zhc e
 | frz ob u=>obtain⟨e,_⟩:=x;exact zhc e
 | tbl ps=>exact zhc (show h.get? a=some _ from x)
 | met f y=>exact zhc (show h.get? a=some _ from x)
 | ext φ=>obtain⟨_,⟨_,e⟩,_⟩:=x;exact zhc e
theorem Paired.mapP{α β:Type}{F G:α->β->Prop} : ∀{z:List α} {I:List β},Paired F z I->(∀a b,F a b->G a b)->Paired G z I
 | _,_,.nil,_=> .nil
 | _,_,.cons r t,f=> .cons (f _ _ r) (Paired.mapP t f)
theorem ObjOk.stay(x:ObjOk P w H h a o)(k : ∀b u,(b=a\/H b=some (.own a))->h.get? b=some u->h'.get? b=some u)
 (J : ∀b,H b=some (.own a)->H' b=some (.own a)) (O : ∀b xs,H b=some (.tup xs)->H' b=some (.tup xs)):ObjOk P w H' h' a o:=by
 induction o with
 | lst xs=>obtain⟨z,I,n,r,e⟩:=x;exact⟨z,I,n,r,k _ _ (.inl rfl) e⟩
 | tup xs=>obtain⟨z,I,r,ob,e,c⟩:=x;exact⟨z,I,r,ob,k _ _ (.inl rfl) e,c⟩
 | dK kvs=>obtain⟨z,y,vs,r,ob,es,ep,e,c⟩:=x;exact⟨z,y,vs,r,ob,es,ep,k _ _ (.inl rfl) e,c⟩
 | dT kvs=>
  obtain⟨z,y,xs,r,ob,es,ep,e,c⟩:=x;exact⟨z,y,xs,Paired.mapP r λp q z=>⟨z.1,O _ _ z.2.1,z.2.2⟩,ob,es,ep,k _ _ (.inl rfl) e,c⟩
 | set S n=>obtain⟨ob,es,ep,t,e,c⟩:=x;exact⟨ob,es,ep,t,k _ _ (.inl rfl) e,c⟩
 | ins C dx fs=>
  obtain⟨d,z,ne,e,mA,⟨od,es,ep,Q,c⟩,r⟩:=x;exact⟨J _ d,z,ne,k _ _ (.inl rfl) e,mA,⟨od,es,ep,k _ _ (.inr d) Q,c⟩,r⟩
 | own y=>obtain⟨ob,e⟩:=x;exact⟨ob,k _ _ (.inl rfl) e⟩
 | xd fs=>obtain⟨mA,⟨od,es,ep,e,c⟩,r⟩:=x;exact⟨mA,⟨od,es,ep,k _ _ (.inl rfl) e,c⟩,r⟩
 | rng lo hi=>obtain⟨t,u,v,e⟩:=x;exact⟨t,u,v,k _ _ (.inl rfl) e⟩
 | frz ob u U=>obtain⟨e,q⟩:=x;exact⟨k _ _ (.inl rfl) e,U q⟩
 | tbl ps=>
  have e:h.get? a=some {cls:= .none,data:= .fields ps}:=x;show h'.get? a=some {cls:= .none,data:= .fields ps};exact k a _ (.inl rfl) e
 | met f y=>
  have e:h.get? a=some (zkt (.ref f) (.ref y)):=x;show h'.get? a=some (zkt (.ref f) (.ref y));exact k a _ (.inl rfl) e
 | ext φ=>obtain⟨p,⟨o,e⟩,st⟩:=x;exact⟨st _ _ p λo q=>k _ _ (.inl rfl) q,⟨o,k _ _ (.inl rfl) e⟩,st⟩
theorem HOk.lt(x:HOk P w H h)(e:H a=some o):a<h.objs.size:=(x a o e).lt
theorem HOk.fresh(x:HOk P w H h)(e:h.objs.size<=a):H a=none:=by
 cases q:H a with
 | none=>rfl
 | some u=>exact absurd (zhl (x.lt q) e) (zhC _)
theorem HOk.kept(x:HOk P w H h)(k : ∀b u,h.get? b=some u->h'.get? b=some u):HOk P w H h':=λa o e=>
 (x a o e).stay (λb u _ q=>k b u q) (λ_ q=>q) λ_ _ q=>q
theorem HOk.laid(x:HOk P w H h)(k : ∀b u,h.get? b=some u->h'.get? b=some u)(J:h.objs.size<=a)(new:ObjOk P w (upd H a o) h' a o):HOk P w (upd H a o) h':=λb u e=>by
 have z:=x.fresh J;by_cases I:b=a
 ·subst I;rw [zE]at e;cases e;exact new
 ·rw [zH I]at e
  exact(x b u e).stay (λc v _ q=>k c v q) (λc q=>by rw [zH (jy q z)];exact q) λc xs q=>by rw [zH (jy q z)];exact q
end
def Rd(H:Hp)(a:Addr)(u:HO):Prop:=H a=some u\/∃o,H a=some (.frz o u)
theorem Rd.ok{P:Program}{w:World}{H:Hp}{h:Heap}{a:Addr}{u:HO}(r:Rd H a u)(x:HOk P w H h):ObjOk P w H h a u:=by
 rcases r with r | ⟨o,r⟩
 ·exact x a u r
 ·obtain⟨_,q⟩:=x a _ r
  exact q
def Mut:Option HO->Prop
 | some (.lst _)=>True
 | some (.dK _)=>True
 | some (.dT _)=>True
 | some (.set _ _)=>True
 | some (.ins _ _ _)=>True
 | some (.ext _)=>True
 | _=>False
section
variable{P:Program}{w:World}{H:Hp}{h h':Heap}{x e:Addr}{o':HO}
theorem HOk.write(ok:HOk P w H h)(I:Mut (H x))(S:e=x\/H e=some (.own x))(k : ∀b u,b≠e->h.get? b=some u->h'.get? b=some u)(Z : ∃u,h'.get? e=some u)
 (new:ObjOk P w (upd H x o') h' x o'):HOk P w (upd H x o') h':=λb u q=>by
 have U : ∀c y,H c=some (.own y)->c≠x:=λc y r z=>by subst z;rw [r]at I;exact I
 have a0 : ∀c xs,H c=some (.tup xs)->c≠x:=λc xs r z=>by subst z;rw [r]at I;exact I
 by_cases J:b=x
 ·subst J;rw [zE]at q;cases q;exact new
 ·rw [zH J]at q
  by_cases O:b=e
  ·have Y:H b=some (.own x):=by
    rcases S with z | z
    ·exact absurd (O.trans z) J
    ·rw [O];exact z
   rw [q]at Y;cases Y;obtain⟨v,hv⟩:=Z;exact⟨v,by rw [O];exact hv⟩
  ·refine(ok b u q).stay (λc v Q r=>k c v ?_ r) (λc r=>by rw [zH (U c b r)];exact r) λc xs r=>by rw [zH (a0 c xs r)];exact r
   rcases Q with rfl | Q
   ·exact O
   ·rintro rfl
    rcases S with z | z
    ·exact U c b Q z
    ·rw [Q]at z;cases z;exact J rfl
end
structure Un(fs ex:List Addr)(H H':Hp)(h h':Heap):Prop where
 keep : ∀b o,h.get? b=some o->H b=none->b∉fs->b∉ex->h'.get? b=some o
 slot : ∀b o,h.get? b=some o->H b=none->b∈fs->b∉ex->∃sl,h'.get? b=some {o with slots:=sl}
 free : ∀b o,h.get? b=some o->H b=none->b∉ex->H' b=none
 there : ∀b o,h.get? b=some o->b∉ex->∃o',h'.get? b=some o'
 tups : ∀b xs,H b=some (.tup xs)->H' b=some (.tup xs)
 frzs : ∀b o u,H b=some (.frz o u)->H' b=some (.frz o u)
 tbls : ∀b ps,H b=some (.tbl ps)->∃more,H' b=some (.tbl (ps++more))
section
variable{fs fs' ex ex':List Addr}{H H1 H2:Hp}{h h1 h2 h':Heap}{a x e:Addr}{o:HO}
theorem Un.any(u:Un fs ex H H1 h h1){b:Addr}{ob:Obj}(q:h.get? b=some ob)(n:H b=none)(hx:b∉ex) : ∃sl,h1.get? b=some {ob with slots:=sl}:=by
 by_cases z:b∈fs
 ·exact u.slot b ob q n z hx
 ·exact⟨ob.slots,u.keep b ob q n z hx⟩
theorem Un.kept(k : ∀b u,h.get? b=some u->h'.get? b=some u):Un fs ex H H h h':=
 ⟨λb ob q _ _ _=>k b ob q,λb ob q _ _ _=>⟨ob.slots,k b ob q⟩,λ_ _ _ n _=>n,λb ob q _=>⟨ob,k b ob q⟩,λ_ _ q=>q,λ_ _ _ q=>q,λ_ ps q=>⟨#[],by rw [q];simp⟩⟩
theorem Un.refl:Un fs ex H H h h:=Un.kept λ_ _ q=>q
theorem Un.laid(k : ∀b u,h.get? b=some u->h'.get? b=some u)(I:h.objs.size<=a)(z:H a=none):Un fs ex H (upd H a o) h h' where
 keep:=λb u q _ _ _=>k b u q
 slot:=λb u q _ _ _=>⟨u.slots,k b u q⟩
 free:=λb u q n _=>by rw [zH (zhz (zhl (zhc q) I))];exact n
 there:=λb u q _=>⟨u,k b u q⟩
 tups:=λb xs q=>by rw [zH (jy q z)];exact q
 frzs:=λb u xs q=>by rw [zH (jy q z)];exact q
 tbls:=λb ps q=>⟨#[],by rw [zH (jy q z),q];simp⟩
theorem Un.write(I:Mut (H x))(S:e=x\/H e=some (.own x))(k : ∀b u,b≠e->h.get? b=some u->h'.get? b=some u)(U : ∃u,h'.get? e=some u):Un fs ex H (upd H x o) h h':=by
 have hx : ∀b,H b=none->b≠x:=λb n z=>by subst z;rw [n]at I;exact I
 have O : ∀b,H b=none->b≠e:=λb n z=>by
  subst z;rcases S with r | r
  ·exact hx b n r
  ·rw [n]at r;cases r
 have J : ∀b u,H b=some u->¬Mut (some u)->b≠x:=λb u q nm z=>by subst z;rw [q]at I;exact nm I
 refine⟨λb u q n _ _=>k b u (O b n) q,λb u q n _ _=>⟨u.slots,k b u (O b n) q⟩,λb u q n _=>by rw [zH (hx b n)];exact n,λb u q _=>?_,
  λb xs q=>by rw [zH (J b _ q λz=>z)];exact q,λb u xs q=>by rw [zH (J b _ q λz=>z)];exact q,λb ps q=>⟨#[],by rw [zH (J b _ q λz=>z),q];simp⟩⟩
 by_cases Q:b=e
 ·subst Q;exact U
 ·exact⟨u,k b u Q q⟩
end
def trk(h:Heap)(H:Hp):List Addr:=(zgX h.objs.size).filter λa=>(H a).isSome
def WC(h:Heap)(H:Hp):Heap:=PySem.W.hideAll h (trk h H)
theorem Yw(h:Heap)(H:Hp):(WC h H).objs.size=h.objs.size:=PySem.W.hideAll_size _ _
theorem WB{h:Heap}{H:Hp}{b:Addr}{o:Obj}(e:h.get? b=some o)(n:H b=none):(WC h H).get? b=some o:=
 PySem.W.hideAll_get _ e λz=>by
  have q:(H b).isSome=true:=(zhm.mp z).2;rw [n]at q;simp at q
theorem zbE{h:Heap}{H:Hp}{b:Addr}{o:Obj}(e:(WC h H).get? b=some o):h.get? b=some o/\H b=none:=by
 have I:h.get? b=some o:=PySem.W.of_hideAll (trk h H) e;refine⟨I,?_⟩;cases q:H b with
 | none=>rfl
 | some x=>
  have J:b∈trk h H:=zhm.mpr ⟨zgZ.mpr (zhc I),by simp [q]⟩;have z:(WC h H).get? b=none:=PySem.W.hideAll_none (trk h H) J;rw [z]at e;cases e
def zcg(g h:Heap)(L:Addr):List (Addr×Obj):=(zgX h.objs.size).filterMap λa=>if a=L\/(g.get? a).isSome=true then none else (h.get? a).map λo=>(a,o)
def rest(g h:Heap)(L d:Addr):List (Addr×Obj):=(zcg g h L).filter λp=>decide (p.1≠d)
structure Mod(K:PySem.W.Frag)(mg:Str->Option Value)(base:Heap):Prop where
 kin:K.In base
 glob:base.Ns mainGlobals mg
 blt : ∃mb,base.Ns builtinsNs mb/\∀x:Str,x ≠ "__name__"->mb x=bootBuiltins x
 nolimit:base.NoLimit
structure Cx where
 prog:Program
 w:World
 K:PySem.W.Frag
 mg:Str->Option Value
 base:Heap
 A:Around
 N:List Str
 s₀:Shared
 H₀:Hp
 env:Env
 outer:List Env
 stack:List Env
 ex:List Addr
 fn:Str->Bool
 calm:Bool
 pn:List (Addr×Obj)
 xe:Value->Shared->Prop
def frs(l:List Env):List Addr:=l.filterMap (·.frame)
abbrev Cx.fs(X:Cx):List Addr:=frs X.outer
def Vis(sc:Scope)(x:Str):Prop:=sc.names.lookup x=some .local\/sc.names.lookup x=some .cell\/sc.names.lookup x=some .free
def Loc(sc:Scope)(x:Str):Prop:=sc.names.lookup x=some .local\/sc.names.lookup x=some .cell
def Look(env:Env)(h:Heap)(m:Str->Option Value)(x:Str)(u:Value):Prop:=
 (env.kindOf x=some .local/\m x=some u)\/((env.kindOf x=some .cell\/env.kindOf x=some .free)/\∃c,env.cells.lookup x=some c/\h.IsCell c (some u))
structure Cx.Ok(X:Cx):Prop where
 mod:Mod X.K X.mg X.base
 kind:X.env.scope.kind = .function
 glob:X.env.globals=mainGlobals
 blt:X.env.builtins=builtinsNs
 above:X.s₀.heap.objs.size<=X.env.locals
 inj : ∀x y c,X.env.cells.lookup x=some c->X.env.cells.lookup y=some c->x=y
 has : ∀x,(X.env.kindOf x=some .cell\/X.env.kindOf x=some .free)->∃c,X.env.cells.lookup x=some c
 cab : ∀x c,X.fn x=true->X.env.cells.lookup x=some c->X.s₀.heap.objs.size<=c
 hd:X.calm=true->X.A.handled=none
 frames:X.A.frames=some X.stack
 stk:X.stack=X.outer\/(X.stack=X.env::X.outer/\X.env.frame=some X.env.locals)
 exf : ∀b∈X.ex,b≠X.env.locals/\∀x c,X.env.cells.lookup x=some c->c≠b
 bs : ∀b o,X.base.get? b=some o->X.s₀.heap.get? b=some o/\X.H₀ b=none
 bsz:X.base.objs.size<=X.s₀.heap.objs.size
 noex : ∀b o,X.base.get? b=some o->b∉X.ex
 exfs : ∀b∈X.ex,b∉X.fs
 funs:X.s₀.heap.FunFrames X.base X.outer
 frf : ∀b∈X.fs,X.H₀ b=none
structure Inv(X:Cx)(pins:List (Addr×Obj))(σ:List (Option V))(H:Hp)(s:Shared):Prop where
 ok:X.Ok
 os:s.os=X.s₀.os
 bare:AllBare s.gens
 base:Un X.fs X.ex X.H₀ H X.s₀.heap s.heap
 loc : ∃m,s.heap.Ns X.env.locals m/\∀(i:Nat) (x:Str) (v:V),X.N[i]? = some x->σ[i]? = some (some v)->Vis X.env.scope x->∃u,RelV v u/\Look X.env s.heap m x u
 cell : ∀x c,X.env.cells.lookup x=some c->∃v,s.heap.IsCell c v
 free:H X.env.locals=none
 freeC : ∀x c,X.env.cells.lookup x=some c->H c=none
 pin : ∀p∈X.pn++pins,s.heap.get? p.1=some p.2/\H p.1=none/\p.1≠X.env.locals/\p.1∉X.fs/\∀v,p.2.data ≠ .cell v
 hok:HOk X.prog X.w H s.heap
 len:σ.length=X.N.length
section
variable{X:Cx}{pins:List (Addr×Obj)}{σ:List (Option V)}{H H':Hp}{s:Shared}{h':Heap}
theorem Cx.Ok.nofr(ok:X.Ok){b:Addr}{o:Obj}(e:X.base.get? b=some o):b∉X.fs:=λz=>by
 have:=(ok.funs.mem z).1;rw [e]at this;cases this
theorem Inv.bs(I:Inv X pins σ H s) : ∀b o,X.base.get? b=some o->s.heap.get? b=some o/\H b=none:=λb o e=>
 ⟨I.base.keep b o (I.ok.bs b o e).1 (I.ok.bs b o e).2 (I.ok.nofr e) (I.ok.noex b o e),I.base.free b o (I.ok.bs b o e).1 (I.ok.bs b o e).2 (I.ok.noex b o e)⟩
theorem Inv.bk(I:Inv X pins σ H s) : ∀b o,X.base.get? b=some o->s.heap.get? b=some o:=λb o e=>(I.bs b o e).1
theorem Inv.mod(I:Inv X pins σ H s):Mod X.K X.mg X.base:=I.ok.mod
theorem Inv.kIn(I:Inv X pins σ H s):X.K.In s.heap:=I.ok.mod.kin.keeps I.bk
theorem Inv.lt(I:Inv X pins σ H s):X.env.locals<s.heap.objs.size:=let ⟨_,z,_⟩:=I.loc;z.lt
theorem Inv.sz(I:Inv X pins σ H s):X.s₀.heap.objs.size<=s.heap.objs.size:=zh2 I.ok.above (zkh I.lt)
theorem Inv.nofs(I:Inv X pins σ H s){a:Addr}(h:s.heap.objs.size<=a):a∉X.fs:=λz=>by
 obtain⟨_,o,J,_⟩:=I.ok.funs.mem z;exact absurd (zhl (zhc J) (zh2 I.sz h)) (zhC _)
theorem Inv.cne(I:Inv X pins σ H s) : ∀x c,X.env.cells.lookup x=some c->c≠X.env.locals:=λx c e z=>by
 obtain⟨v,o,J,hd⟩:=I.cell x c e;obtain⟨m,⟨o',es,ep,O,Q,_⟩,_⟩:=I.loc;rw [z,O]at J;cases J;rw [Q]at hd;cases hd
theorem Inv.funs(I:Inv X pins σ H s):s.heap.FunFrames X.base X.outer:=by
 have all : ∀(l:List Env),(∀b∈frs l,b∈X.fs)->X.s₀.heap.FunFrames X.base l->s.heap.FunFrames X.base l:=by
  intro l
  induction l with
  | nil=>intro _ _;trivial
  | cons env r U=>
   intro S Y;obtain⟨Z,⟨L,o,J,hn,ho,hd⟩,hr⟩:=Y;have O:L∈X.fs:=S L (by unfold frs;rw [zkp,J];exact zhj);obtain⟨sl,e⟩:=I.base.slot L o ho (I.ok.frf L O) O λz=>I.ok.exfs L z O;exact⟨Z,⟨L,_,J,hn,e,hd⟩,U (λb Q=>S b (by unfold frs;rw [zkp,J];exact zhg _ Q)) hr⟩
 exact all X.outer (λ_ Q=>Q) I.ok.funs
theorem Inv.stack(I:Inv X pins σ H s):s.heap.FunFrames X.base X.stack:=by
 rcases I.ok.stk with e | ⟨e,z⟩
 ·rw [e];exact I.funs
 ·rw [e]
  obtain⟨m,J,_⟩:=I.loc;refine .cons (by rw [I.ok.kind];decide) z J ?_ I.funs;exact Heap.get?_none_of_le (zh2 I.ok.bsz I.ok.above)
theorem Inv.stkSub(I:Inv X pins σ H s) : ∀b∈frs X.stack,b∈X.env.locals::X.fs:=λb z=>by
 rcases I.ok.stk with e | ⟨e,J⟩
 ·rw [e]at z;exact zhg _ z
 ·rw [e]at z
  unfold frs at z;rw [zkp,J]at z;exact z
theorem Inv.stkFree(I:Inv X pins σ H s) : ∀b∈frs X.stack,H b=none:=λb J=>by
 rcases zhh.mp (I.stkSub b J)with e | J
 ·rw [e];exact I.free
 ·obtain⟨_,o,O,_⟩:=I.ok.funs.mem J
  exact I.base.free b o O (I.ok.frf b J) λz=>I.ok.exfs b z J
theorem Inv.step{g':Array GenState}{t':Nat}{d':Drawn}{ch:List Addr}(I:Inv X pins σ H s)
 (Q : ∀b∈ch,(b∈X.ex\/X.s₀.heap.objs.size<=b)/\b≠X.env.locals/\(∀x c,X.env.cells.lookup x=some c->c≠b)/\∀p∈X.pn++pins,p.1≠b)
 (keep : ∀b o,b≠X.env.locals->b∉X.fs->b∉ch->s.heap.get? b=some o->H b=none->h'.get? b=some o)
 (slot : ∀b o,b≠X.env.locals->b∈X.fs->b∉ch->s.heap.get? b=some o->H b=none->∃sl,h'.get? b=some {o with slots:=sl}) (free : ∀b o,b∉ch->s.heap.get? b=some o->H b=none->H' b=none)
 (there : ∀b o,b∉ch->s.heap.get? b=some o->∃o',h'.get? b=some o')
 (tups : ∀b xs,H b=some (.tup xs)->H' b=some (.tup xs)) (frzs : ∀b o u,H b=some (.frz o u)->H' b=some (.frz o u)) (tbls : ∀b ps,H b=some (.tbl ps)->∃more,H' b=some (.tbl (ps++more)))
 (ns : ∀m,s.heap.Ns X.env.locals m->h'.Ns X.env.locals m) (hok:HOk X.prog X.w H' h') (hg:AllBare g') :
 Inv X pins σ H' {s with heap:=h',gens:=g',drawn:=d',toks:=t'}:=by
 have Z : ∀b o,X.s₀.heap.get? b=some o->b≠X.env.locals:=λb o e=>zhz (zhl (zhc e) I.ok.above);have Y : ∀b o,X.s₀.heap.get? b=some o->b∉X.ex->b∉ch:=λb o e hx J=>by
  rcases (Q b J).1 with z | z
  ·exact hx z
  ·exact absurd (zhl (zhc e) z) (zhC _)
 have a0 : ∀x c,X.env.cells.lookup x=some c->∀v,s.heap.IsCell c v->h'.IsCell c v:=λx c e v hZ=>by
  obtain⟨o,O,hd⟩:=hZ;have S:c∉ch:=λz=>(Q c z).2.2.1 x c e rfl;by_cases hc:c∈X.fs
  ·obtain⟨sl,q⟩:=slot c o (I.cne x c e) hc S O (I.freeC x c e)
   exact⟨_,q,hd⟩
  ·exact⟨o,keep c o (I.cne x c e) hc S O (I.freeC x c e),hd⟩
 refine⟨I.ok,I.os,hg,⟨λb o e n J hx=>?_,λb o e n J hx=>?_,λb o e n hx=>?_,λb o e hx=>?_,λb xs e=>tups b xs (I.base.tups b xs e),λb o xs e=>frzs b o xs (I.base.frzs b o xs e),λb ps e=>?_⟩,?_,λx c e=>?_,?_,λx c e=>?_,λp hp=>?_,hok,I.len⟩
 ·exact keep b o (Z b o e) J (Y b o e hx) (I.base.keep b o e n J hx) (I.base.free b o e n hx)
 ·obtain⟨sl,e1⟩:=I.base.slot b o e n J hx
  obtain⟨a6,U⟩:=slot b _ (Z b o e) J (Y b o e hx) e1 (I.base.free b o e n hx);exact⟨a6,U⟩
 ·obtain⟨o',e1⟩:=I.base.there b o e hx
  exact free b o' (Y b o e hx) e1 (I.base.free b o e n hx)
 ·obtain⟨o',e1⟩:=I.base.there b o e hx
  exact there b o' (Y b o e hx) e1
 ·obtain⟨m1,e1⟩:=I.base.tbls b ps e
  obtain⟨m2,U⟩:=tbls b _ e1;exact⟨m1++m2,by rw [U,Array.append_assoc]⟩
 ·obtain⟨m,hn,hl⟩:=I.loc
  refine⟨m,ns m hn,λi x v e1 U e3=>?_⟩;obtain⟨u,r,l⟩:=hl i x v e1 U e3;refine⟨u,r,?_⟩;rcases l with l | ⟨k,c,e,z⟩
  ·exact .inl l
  ·exact .inr ⟨k,c,e,a0 x c e _ z⟩
 ·obtain⟨v,z⟩:=I.cell x c e
  exact⟨v,a0 x c e v z⟩
 ·obtain⟨m,⟨o,_,_,O,_⟩,_⟩:=I.loc
  exact free _ o (λz=>(Q _ z).2.1 rfl) O I.free
 ·obtain⟨v,o,O,hd⟩:=I.cell x c e
  exact free c o (λz=>(Q c z).2.2.1 x c e rfl) O (I.freeC x c e)
 ·obtain⟨e,n,ne,nf,d⟩:=I.pin p hp
  have S:p.1∉ch:=λz=>(Q p.1 z).2.2.2 p hp rfl;exact⟨keep p.1 p.2 ne nf S e n,free p.1 p.2 S e n,ne,nf,d⟩
theorem Inv.un{t':Nat}(I:Inv X pins σ H s)(u:Un X.fs [] H H' s.heap h')(hok:HOk X.prog X.w H' h'):Inv X pins σ H' {s with heap:=h',toks:=t'}:=by
 obtain⟨m,⟨o,es,ep,O,r⟩,_⟩:=id I.loc;obtain⟨sl,S⟩:=u.any O I.free ⋯;exact I.step (g':=s.gens) (d':=s.drawn) (ch:=[]) (λ_ z=>nomatch z) (λb o _ J _ e n=>u.keep b o e n J ⋯) (λb o _ J _ e n=>u.slot b o e n J ⋯) (λb o _ e n=>u.free b o e n ⋯) (λb o _ e=>u.there b o e ⋯) u.tups u.frzs u.tbls (λm' U=>by
  obtain⟨o',Y,Z,Q,r'⟩:=U;rw [O]at Q;cases Q;exact⟨_,Y,Z,S,r'⟩) hok I.bare
theorem Inv.call{g':Array GenState}{t':Nat}{d':Drawn}{ch:List Addr}(I:Inv X pins σ H s)(u:Un (frs X.stack) ch H H' s.heap h')(hok:HOk X.prog X.w H' h')(Y:AllBare g')
 (Q : ∀b∈ch,(b∈X.ex\/X.s₀.heap.objs.size<=b)/\b≠X.env.locals/\(∀x c,X.env.cells.lookup x=some c->c≠b)/\∀p∈X.pn++pins,p.1≠b) :
 Inv X pins σ H' {s with heap:=h',gens:=g',drawn:=d',toks:=t'}:=by
 obtain⟨m,⟨o,es,ep,S,r⟩,_⟩:=id I.loc;obtain⟨sl,O⟩:=u.any S I.free λz=>(Q _ z).2.1 rfl;exact I.step (ch:=ch) Q (λb o O Z J e n=>u.keep b o e n (λz=>(zhh.mp (I.stkSub b z)).elim O Z) J) (λb o _ _ J e n=>u.any e n J) (λb o J e n=>u.free b o e n J) (λb o J e=>u.there b o e J) u.tups u.frzs u.tbls (λm' hm=>by
  obtain⟨o',a1,a2,U,r'⟩:=hm;rw [S]at U;cases U;exact⟨_,a1,a2,O,r'⟩) hok Y
theorem Inv.turned{t':Nat}{it:Addr}(I:Inv X pins σ H s)(k : ∀b o,b≠it->s.heap.get? b=some o->h'.get? b=some o)(S:H it=none)(O:it≠X.env.locals)
 (h1:it∈X.ex\/X.s₀.heap.objs.size<=it) (h2 : ∀x c,X.env.cells.lookup x=some c->c≠it) (U : ∀p∈X.pn++pins,p.1≠it):Inv X pins σ H {s with heap:=h',toks:=t'}:=by
 have Q : ∀b u,H b=some u->b≠it:=λb u e z=>by rw [z,S]at e;cases e
 refine I.step (g':=s.gens) (d':=s.drawn) (ch:=[it]) (λb Y=>?_) (λb o _ _ J e _=>k b o (λz=>J (by simp [z])) e) (λb o _ _ J e _=>⟨o.slots,k b o (λz=>J (by simp [z])) e⟩) (λ_ _ _ _ n=>n)
  (λb o J e=>⟨o,k b o (λz=>J (by simp [z])) e⟩) (λ_ _ e=>e) (λ_ _ _ e=>e) (λb ps e=>⟨#[],by rw [e];simp⟩) (λm Z=>?_) (λb u e=>?_) I.bare
 ·have e:b=it:=by simpa using Y
  subst e;exact⟨h1,O,h2,U⟩
 ·obtain⟨o,es,ep,ho,r⟩:=Z
  exact⟨o,es,ep,k _ o (zhO O) ho,r⟩
 ·refine(I.hok b u e).stay (λc v J q=>k c v ?_ q) (λ_ q=>q) λ_ _ q=>q
  rcases J with z | z
  ·rw [z];exact Q b u e
  ·exact Q c _ z
theorem Inv.tok(I:Inv X pins σ H s)(t:Nat):Inv X pins σ H {s with toks:=t}:=I.un (h':=s.heap) (t':=t) Un.refl I.hok
theorem Inv.kept{t':Nat}(I:Inv X pins σ H s)(k : ∀b u,s.heap.get? b=some u->h'.get? b=some u):Inv X pins σ H {s with heap:=h',toks:=t'}:=I.un (Un.kept k) (I.hok.kept k)
theorem Inv.laid{a:Addr}{o:HO}{t':Nat}(I:Inv X pins σ H s)(k : ∀b u,s.heap.get? b=some u->h'.get? b=some u)(z:s.heap.objs.size<=a)(new:ObjOk X.prog X.w (upd H a o) h' a o) :
 Inv X pins σ (upd H a o) {s with heap:=h',toks:=t'}:=I.un (Un.laid k z (I.hok.fresh z)) (I.hok.laid k z new)
theorem Inv.write{x e:Addr}{o:HO}{t':Nat}(I:Inv X pins σ H s)(z:Mut (H x))(J:e=x\/H e=some (.own x))(k : ∀b u,b≠e->s.heap.get? b=some u->h'.get? b=some u)(O : ∃u,h'.get? e=some u)
 (new:ObjOk X.prog X.w (upd H x o) h' x o):Inv X pins σ (upd H x o) {s with heap:=h',toks:=t'}:=I.un (Un.write z J k O) (I.hok.write z J k O new)
theorem Inv.pins_of{J:List (Addr×Obj)}(I:Inv X pins σ H s)(h : ∀p∈J,s.heap.get? p.1=some p.2/\H p.1=none/\p.1≠X.env.locals/\p.1∉X.fs/\∀v,p.2.data ≠ .cell v):Inv X J σ H s:=
 ⟨I.ok,I.os,I.bare,I.base,I.loc,I.cell,I.free,I.freeC,λp O=>(zjc.mp O).elim (λz=>I.pin p (List.mem_append_left _ z)) (h p),I.hok,I.len⟩
theorem QC{N:List Str}(z:N.Nodup){i j:Nat}{x:Str}(a:N[i]? = some x)(b:N[j]? = some x):i=j:=by
 obtain⟨h1,e1⟩:=zhe.mp a;obtain⟨h2,I⟩:=zhe.mp b;exact(List.getElem_inj z).mp (e1.trans I.symm)
theorem Zw{M:Model}{A:Around}{E:Value->Shared->Prop}{i:Nat}{x:Str}{v:V}{u:Value}{Q:Unit->Shared->Prop}(I:Inv X pins σ H s)(hN:X.N.Nodup)(hi:X.N[i]? = some x)(hx:Loc X.env.scope x)(r:RelV v u)
 (h : ∀s',Inv X pins (σ.set i (some v)) H s'->(∃a,ziD a s.heap s'.heap/\(a=X.env.locals\/X.env.cells.lookup x=some a))->Q () s') (hf:X.fn x=true\/X.env.scope.names.lookup x=some .local:=by first | exact .inl rfl | exact .inr rfl | assumption):wpAny M A (storeName X.env x u) Q E s:=by
 obtain⟨m,hn,hl⟩:=id I.loc;have ag:(X.env.scope.kind == .class || (X.env.scope.kind == .module && X.env.locals != X.env.globals))=false:=by rw [I.ok.kind];rfl
 have a9:i<σ.length:=by rw [I.len];exact(zhe.mp hi).1
 have cne:=I.cne;have aa : ∀{a:Addr} {h':Heap},(∃o,s.heap.get? a=some o/\H a=none)->ziD a s.heap h'->HOk X.prog X.w H h':=λ{a h'} ha J b ob e=>by
  obtain⟨_,_,ab⟩:=ha;refine(I.hok b ob e).stay (λc w' O q=>(J.2 c ?_).trans q) (λ_ q=>q) λ_ _ q=>q;rintro rfl;rcases O with rfl | O
  ·rw [ab]at e;cases e
  ·rw [ab]at O;cases O
 rcases hx with U | U
 ·refine wpAny_storeName_local U hn (λh' ah J=>?_) ag
  obtain⟨oL,_,_,aj,_⟩:=id hn;refine h _ ⟨I.ok,I.os,I.bare,⟨λb o e n Y hx=>?_,λb o e n Y hx=>?_,I.base.free,λb o e hx=>?_,I.base.tups,I.base.frzs,I.base.tbls⟩,⟨_,ah,λj y v' e1 S e3=>?_⟩,λy c e=>?_,I.free,I.freeC,λp hp=>?_,aa ⟨oL,aj,I.free⟩ J,by simpa using I.len⟩ ⟨_,J,.inl rfl⟩
  ·exact(J.2 b (zhz (zhl (zhc e) I.ok.above))).trans (I.base.keep b o e n Y hx)
  ·obtain⟨sl,e1⟩:=I.base.slot b o e n Y hx
   exact⟨sl,(J.2 b (zhz (zhl (zhc e) I.ok.above))).trans e1⟩
  ·obtain⟨o',e1⟩:=I.base.there b o e hx
   exact⟨o',(J.2 b (zhz (zhl (zhc e) I.ok.above))).trans e1⟩
  ·by_cases Z:j=i
   ·subst Z
    rw [hi]at e1;cases e1;rw [zhI a9]at S;cases S;exact⟨u,r,.inl ⟨U,by simp⟩⟩
   ·rw [zg7 (zhO Z)]at S
    obtain⟨u',r',q⟩:=hl j y v' e1 S e3;refine⟨u',r',?_⟩;rcases q with⟨k,e⟩ | ⟨k,c,e,z⟩
    ·refine .inl ⟨k,?_⟩
     have:y≠x:=λe=>Z (QC hN e1 (e ▸ hi));simp [this,e]
    ·exact .inr ⟨k,c,e,z.sameBut J (cne y c e)⟩
  ·obtain⟨w',z⟩:=I.cell y c e
   exact⟨w',z.sameBut J (cne y c e)⟩
  ·obtain⟨e,n,ne,nf,d⟩:=I.pin p hp
   exact⟨(J.2 p.1 ne).trans e,n,ne,nf,d⟩
 ·have a6:X.fn x=true:=by
   rcases hf with z | z
   ·exact z
   ·rw [z]at U;cases U
  obtain⟨c,O⟩:=I.ok.has x (.inl U);obtain⟨w',z⟩:=I.cell x c O;refine wpAny_storeName_cell I.ok.kind U O z (λh' ac J=>?_);obtain⟨oc,ad,ak⟩:=id z;refine h {s with heap:=h'} ⟨I.ok,I.os,I.bare,⟨λb o e n Y hx=>?_,λb o e n Y hx=>?_,I.base.free,λb o e hx=>?_,I.base.tups,I.base.frzs,I.base.tbls⟩,⟨m,hn.sameBut J (zhO (cne x c O)),λj y v' e1 S e3=>?_⟩,λy c' e=>?_,I.free,I.freeC,λp hp=>?_,aa ⟨oc,ad,I.freeC x c O⟩ J,by simpa using I.len⟩ ⟨c,J,.inr O⟩
  ·exact(J.2 b (zhz (zhl (zhc e) (I.ok.cab x c a6 O)))).trans (I.base.keep b o e n Y hx)
  ·obtain⟨sl,e1⟩:=I.base.slot b o e n Y hx
   exact⟨sl,(J.2 b (zhz (zhl (zhc e) (I.ok.cab x c a6 O)))).trans e1⟩
  ·obtain⟨o',e1⟩:=I.base.there b o e hx
   exact⟨o',(J.2 b (zhz (zhl (zhc e) (I.ok.cab x c a6 O)))).trans e1⟩
  ·by_cases Z:j=i
   ·subst Z
    rw [hi]at e1;cases e1;rw [zhI a9]at S;cases S;exact⟨u,r,.inr ⟨.inl U,c,O,ac⟩⟩
   ·rw [zg7 (zhO Z)]at S
    obtain⟨u',r',q⟩:=hl j y v' e1 S e3;refine⟨u',r',?_⟩;rcases q with q | ⟨k,c',e,z'⟩
    ·exact .inl q
    ·refine .inr ⟨k,c',e,z'.sameBut J ?_⟩
     rintro rfl;exact Z (QC hN e1 (I.ok.inj _ _ _ e O ▸ hi))
  ·by_cases ae:c'=c
   ·subst ae;exact⟨_,ac⟩
   ·obtain⟨w2,z2⟩:=I.cell y c' e
    exact⟨w2,z2.sameBut J ae⟩
  ·obtain⟨e,n,ne,nf,d⟩:=I.pin p hp
   refine⟨(J.2 p.1 ?_).trans e,n,ne,nf,d⟩;intro q;rw [q,ad]at e;have q':oc=p.2:=zhS e;exact d w' (by rw [<- q'];exact ak)
theorem Qk{M:Model}{A:Around}{E:Value->Shared->Prop}{i:Nat}{x:Str}{v:V}{u:Value}{Q:Unit->Shared->Prop}(I:Inv X pins σ H s)(z:X.N.Nodup)(hi:X.N[i]? = some x)(hx:Loc X.env.scope x)(r:RelV v u)
 (h : ∀s',Inv X pins (σ.set i (some v)) H s'->Q () s') (J:X.fn x=true\/X.env.scope.names.lookup x=some .local:=by first | exact .inl rfl | exact .inr rfl | assumption):wpAny M A (storeName X.env x u) Q E s:=
 Zw I z hi hx r (λs' O _=>h s' O) J
theorem Inv.call'{s':Shared}{ch:List Addr}(I:Inv X pins σ H s)(z:s'.os=s.os)(u:Un (frs X.stack) ch H H' s.heap s'.heap)(hok:HOk X.prog X.w H' s'.heap)(J:AllBare s'.gens)
 (O : ∀b∈ch,(b∈X.ex\/X.s₀.heap.objs.size<=b)/\b≠X.env.locals/\(∀x c,X.env.cells.lookup x=some c->c≠b)/\∀p∈X.pn++pins,p.1≠b):Inv X pins σ H' s':=by
 obtain⟨h',g',d',t',o'⟩:=s';have e:o'=s.os:=z;subst e;exact I.call (g':=g') (t':=t') (d':=d') u hok J O
end
abbrev XK:=Value->Option Addr->Hp->Prop
abbrev St:=List (Option V)
abbrev VK:=V->Hp->Prop
abbrev TE:=St->Hp->VK->Prop
abbrev TT:=St->Hp->(Bool->Hp->Prop)->Prop
abbrev TA:=St->Hp->(List V->Hp->Prop)->Prop
structure Ends where
 nx:St->Hp->Prop
 rt:VK
 bk:St->Hp->Prop:=λ_ _=>False
 ct:St->Hp->Prop:=λ_ _=>False
abbrev TS:=Ends->St->Hp->Prop
def EP(X:Cx)(pins:List (Addr×Obj))(σ:St)(Q:VK)(u:Value)(s':Shared):Prop:=∃v H',Inv X pins σ H' s'/\RelV v u/\Q v H'
def TP(X:Cx)(pins:List (Addr×Obj))(σ:St)(Q:Bool->Hp->Prop)(b:Bool)(s':Shared):Prop:=∃H',Inv X pins σ H' s'/\Q b H'
def AP(X:Cx)(pins:List (Addr×Obj))(σ:St)(Q:List V->Hp->Prop)(us:List Value)(s':Shared):Prop:=∃vs H',Inv X pins σ H' s'/\Vals vs us/\Q vs H'
def SP(X:Cx)(pins:List (Addr×Obj))(D:Ends)(f:Flow)(s':Shared):Prop:=
 match f with
 | .next=>∃z H',Inv X pins z H' s'/\D.nx z H'
 | .brk=>∃z H',Inv X pins z H' s'/\D.bk z H'
 | .cont=>∃z H',Inv X pins z H' s'/\D.ct z H'
 | .ret u=>∃v z H',Inv X pins z H' s'/\RelV v u/\D.rt v H'
def PE(X:Cx)(e:Expr)(t:TE):Prop:=
 ∀(pins:List (Addr×Obj)) (s:Shared) (σ:St) (H:Hp) (Q:VK),Inv X pins σ H s->t σ H Q->wpAny (model X.prog X.w) X.A (eval e X.env) (EP X pins σ Q) X.xe s
def PT(X:Cx)(e:Expr)(t:TT):Prop:=
 ∀(pins:List (Addr×Obj)) (s:Shared) (σ:St) (H:Hp) (Q:Bool->Hp->Prop),Inv X pins σ H s->t σ H Q->wpAny (model X.prog X.w) X.A (isTrue e X.env (eval e X.env)) (TP X pins σ Q) X.xe s
def PW(X:Cx)(e:Expr)(t:TT):Prop:=
 ∀(z:Sem Value) (pins:List (Addr×Obj)) (s:Shared) (σ:St) (H:Hp) (Q:Bool->Hp->Prop),Inv X pins σ H s->t σ H Q->wpAny (model X.prog X.w) X.A (isTrue e X.env z) (TP X pins σ Q) X.xe s
theorem PW.pt{X:Cx}{e:Expr}{t:TT}(h:PW X e t):PT X e t:=h _
def PA(X:Cx)(es:List Expr)(t:TA):Prop:=
 ∀(pos:Pos) (pins:List (Addr×Obj)) (s:Shared) (σ:St) (H:Hp) (Q:List V->Hp->Prop),Inv X pins σ H s->t σ H Q->wpAny (model X.prog X.w) X.A (spliced (backTo pos (starEach es X.env))) (AP X pins σ Q) X.xe s
def PS(X:Cx)(st:Stmt)(t:TS):Prop:=
 ∀(pins:List (Addr×Obj)) (s:Shared) (σ:St) (H:Hp) (D:Ends),Inv X pins σ H s->t D σ H->wpAny (model X.prog X.w) X.A (exec st X.env) (SP X pins D) X.xe s
def PSs(X:Cx)(st:List Stmt)(t:TS):Prop:=
 ∀(pins:List (Addr×Obj)) (s:Shared) (σ:St) (H:Hp) (D:Ends),Inv X pins σ H s->t D σ H->wpAny (model X.prog X.w) X.A (execs st X.env) (SP X pins D) X.xe s
theorem thn{α:Type}{t:Sem α}{Q z:α->Shared->Prop}{M:Model}{A:Around}{E:Value->Shared->Prop}{s:Shared}(h:wpAny M A t Q E s)(I : ∀a s,Q a s->z a s):wpAny M A t z E s:=ziX h I λ_ _ x=>x
section
variable{X:Cx}
def vG(i:Nat):TE:=λσ H Q=>∃v,σ[i]? = some (some v)/\Q v H
def tC(v:V):TE:=λ_ H Q=>Q v H
theorem zde{i:Nat}{x:Str}{pos:Pos}(U:X.N[i]? = some x)(Y:Vis X.env.scope x)(hd:(x==("__debug__" : Str))=false:=by decide)(Z:(x==("__classdict__" : Str))=false:=by decide):PE X (.Name x pos) (vG i):=by
 intro pins s σ H Q I h;obtain⟨v,e,h⟩:=h;obtain⟨m,hn,hl⟩:=I.loc;obtain⟨u,r,l⟩:=hl i x v U e Y;have J:EP X pins σ Q u s:=⟨v,H,I,r,h⟩;rcases l with⟨z,hm⟩ | ⟨z,c,O,S⟩
 ·exact wpAny_Name (wpAny_loadName_local I.ok.kind z hn hm J) hd
 ·rcases z with z | z
  ·exact wpAny_Name (wpAny_loadName_cell I.ok.kind z O S J) hd
  ·exact wpAny_Name (wpAny_loadName_free I.ok.kind z O S J Z) hd
theorem zdi{i j pos}:PE X (.Constant (.int i) j pos) (tC (.int i)):=λ_ _ _ H _ I h=>wpAny_Constant_int ⟨.int i,H,I.tok _,⟨_,rfl⟩,h⟩
theorem zfc{b j pos}:PE X (.Constant (.bool b) j pos) (tC (.bl b)):=λ_ _ _ H _ I h=>Constant_bool ⟨.bl b,H,I,rfl,h⟩
theorem zat{x j pos}:PE X (.Constant (.str x) j pos) (tC (.str x)):=λ_ _ _ H _ I h=>Calls.Constant_str ⟨.str x,H,I.tok _,⟨_,rfl⟩,h⟩
def Gl(X:Cx)(x:Str):Prop:=X.env.kindOf x=some .globalImplicit
theorem Yk{E:Value->Shared->Prop}{pins:List (Addr×Obj)}{s:Shared}{σ:St}{H:Hp}{x:Str}{u:Value}{pos:Pos}{Q:Value->Shared->Prop}(I:Inv X pins σ H s)(z:Gl X x)(J:X.mg x=some u)(h:Q u s)
 (hd:(x==("__debug__" : Str))=false:=by decide):wpAny (model X.prog X.w) X.A (eval (.Name x pos) X.env) Q E s:=
 Calls.Name_function_global I.ok.kind z (Calls.loadGlobal_global (by rw [I.ok.glob];exact I.mod.glob.keeps I.bk) J h) hd
theorem xX{E:Value->Shared->Prop}{pins:List (Addr×Obj)}{s:Shared}{σ:St}{H:Hp}{x:Str}{u:Value}{pos:Pos}{Q:Value->Shared->Prop}(I:Inv X pins σ H s)(z:Gl X x)(J:X.mg x=none)(O:bootBuiltins x=some u)(h:Q u s)
 (S:x ≠ "__name__":=by decide) (hd:(x==("__debug__" : Str))=false:=by decide):wpAny (model X.prog X.w) X.A (eval (.Name x pos) X.env) Q E s:=by
 obtain⟨mb,h1,h2⟩:=I.mod.blt;exact Calls.Name_function_global I.ok.kind z (Calls.loadGlobal_builtin (by rw [I.ok.glob];exact I.mod.glob.keeps I.bk) J (by rw [I.ok.blt];exact h1.keeps I.bk) ((h2 x S).trans O) h) hd
variable{a b:Expr}{ta tb:TE}{pos:Pos}
def tB(t:TE):TT:=λσ H Q=>t σ H λx H1=>∃c,x = .bl c/\Q c H1
theorem zc7{e:Expr}{t:TE}(h:PE X e t)(J : ∀z,isTrue e X.env z=(do let v <- z;standAt e.pos;holding [v] (truthy v)):=by intro _;rfl):PT X e (tB t):=by
 intro pins s σ H Q I hw;refine isTrue_plain (thn (h pins s σ H _ I hw) λv s1 O=>?_) (J _);obtain⟨x,H1,S,U,Y⟩:=O;obtain⟨d,rfl,q⟩:=Y;cases U;exact zj6 ⟨H1,S,q⟩
variable{tA tB':TT}{rest:List Expr}
def zgC(t u:TT):TT:=λσ H Q=>t σ H λc H1=>if c=true then u σ H1 Q else Q false H1
def tOr(t u:TT):TT:=λσ H Q=>t σ H λc H1=>if c=true then Q true H1 else u σ H1 Q
def zgy(t:TT):TT:=λσ H Q=>t σ H λc H1=>Q (!c) H1
theorem zbd(ha:PT X a tA):PW X (.BoolOp .And [a] pos) tA:=by
 intro z pins s σ H Q I h;refine isTrue_and (thn (ha pins s σ H Q I h) λc s1 e=>?_);cases c with
 | true=>exact isTrue_and_nil e
 | false=>exact e
theorem zc0(ha:PT X a tA):PW X (.BoolOp .Or [a] pos) tA:=by
 intro z pins s σ H Q I h;refine isTrue_or (thn (ha pins s σ H Q I h) λc s1 e=>?_);cases c with
 | false=>exact isTrue_or_nil e
 | true=>exact e
theorem zc1(ha:PT X a tA)(O:PW X (.BoolOp .And (b::rest) pos) tB'):PW X (.BoolOp .And (a::b::rest) pos) (zgC tA tB'):=by
 intro S pins s σ H Q I h;refine isTrue_and (thn (ha pins s σ H _ I h) λc s1 U=>?_);obtain⟨H1,z,J⟩:=U;cases c with
 | true=>exact O S pins s1 σ H1 Q z J
 | false=>exact⟨H1,z,J⟩
theorem ze6(ha:PT X a tA)(O:PW X (.BoolOp .Or (b::rest) pos) tB'):PW X (.BoolOp .Or (a::b::rest) pos) (tOr tA tB'):=by
 intro S pins s σ H Q I h;refine isTrue_or (thn (ha pins s σ H _ I h) λc s1 U=>?_);obtain⟨H1,z,J⟩:=U;cases c with
 | true=>exact⟨H1,z,J⟩
 | false=>exact O S pins s1 σ H1 Q z J
theorem zc8(ha:PT X a tA):PT X (.UnaryOp .Not a pos) (zgy tA):=by
 intro pins s σ H Q I h;exact isTrue_not (ha pins s σ H (λc H1=>Q (!c) H1) I h)
def tIf(t:TT)(ta tb:TE):TE:=λσ H Q=>t σ H λc H1=>if c=true then ta σ H1 Q else tb σ H1 Q
theorem pe_ifExp{c:Expr}(O:PT X c tA)(ha:PE X a ta)(S:PE X b tb):PE X (.IfExp c a b pos) (tIf tA ta tb):=by
 intro pins s σ H Q I h;refine wpAny_IfExp (thn (O pins s σ H _ I h) λd s1 U=>?_);obtain⟨H1,z,J⟩:=U;cases d with
 | true=>exact ha pins s1 σ H1 Q z J
 | false=>exact S pins s1 σ H1 Q z J
end
def SqL(K:PySem.W.Frag)(H:Hp)(a:Addr)(xs:List V):Prop:=
 Rd H a (.lst xs)\/
  ∃(o:Obj) (z:Array Value) (n:Nat),K.lookup a=some o/\o.cls = .type "list"/\o.dict=none/\o.data = .seq z n/\z.size<=sizeLine/\Vals xs z.toList
def SqT(K:PySem.W.Frag)(H:Hp)(a:Addr)(xs:List V):Prop:=
 Rd H a (.tup xs)\/
  ∃(o:Obj) (z:Array Value) (n:Nat),K.lookup a=some o/\(o.cls,o.dict)=(zj8 "tuple",none)/\o.data = .seq z n/\z.size<=sizeLine/\Vals xs z.toList
def zgS:Value->Option V
 | .none=>some .non
 | .bool b=>some (.bl b)
 | .int i _=>some (.int i)
 | .str x _=>some (.str x)
 | .bytes b _=>some (.byt b)
 | .float b _=>some (.flt b)
 | .ref a=>some (.ref a)
 | .type n=>some (.ty n)
 | _=>none
theorem RelV.abs{x:V}{u:Value}(r:RelV x u):zgS u=some x:=by
 cases x with
 | non=>cases r;rfl
 | bl _=>cases r;rfl
 | int _=>obtain⟨t,rfl⟩:=r;rfl
 | str _=>obtain⟨t,rfl⟩:=r;rfl
 | byt _=>obtain⟨t,rfl⟩:=r;rfl
 | flt _=>obtain⟨t,rfl⟩:=r;rfl
 | ref _=>cases r;rfl
 | ty _=>cases r;rfl
theorem RelV.inj{x y:V}{u:Value}(r:RelV x u)(q:RelV y u):x=y:=zhS (r.abs.symm.trans q.abs)
theorem Vals.inj : ∀{xs ys:List V} {us:List Value},Vals xs us->Vals ys us->xs=ys
 | _,_,_,.nil,.nil=>rfl
 | _,_,_,.cons r t,.cons r' t'=>by rw [r.inj r',Vals.inj t t']
section
variable{X:Cx}{pins:List (Addr×Obj)}{σ:St}{H:Hp}{s:Shared}{a:Addr}{xs ys:List V}
theorem SqL.of{K:PySem.W.Frag}(h:H a=some (.lst xs)):SqL K H a xs:= .inl (.inl h)
theorem SqT.of{K:PySem.W.Frag}(h:H a=some (.tup xs)):SqT K H a xs:= .inl (.inl h)
theorem Inv.list(I:Inv X pins σ H s)(h:SqL X.K H a xs) : ∃J:List Value,Vals xs J/\PlainL s.heap a J.toArray/\xs.length<=sizeLine:=by
 rcases h with h | ⟨o,J,n,O,Q,hd,S,U,r⟩
 ·obtain⟨z,J,n,r,e⟩:=h.ok I.hok
  exact⟨J,r,⟨_,n,e,rfl,rfl,rfl⟩,z⟩
 ·refine⟨J.toList,r,⟨o,n,I.kIn a o O,Q,hd,by simpa using S⟩,?_⟩
  have e:=r.length;simp only [zib]at e;omega
theorem Inv.tuple(I:Inv X pins σ H s)(h:SqT X.K H a xs) : ∃J:List Value,Vals xs J/\IsTup s.heap a J.toArray/\xs.length<=sizeLine:=by
 rcases h with h | ⟨o,J,n,O,Q,S,U,r⟩
 ·obtain⟨z,J,r,p⟩:=h.ok I.hok
  exact⟨J,r,p.tup,z⟩
 ·refine⟨J.toList,r,⟨o,I.kIn a o O,(Prod.mk.inj Q).1,n,by simpa using S⟩,?_⟩
  have e:=r.length;simp only [zib]at e;omega
theorem Inv.list_inj(I:Inv X pins σ H s)(h:SqL X.K H a xs)(h':SqL X.K H a ys):xs=ys:=by
 obtain⟨J,r,⟨o,n,e,_,_,d⟩,_⟩:=I.list h;obtain⟨its',r',⟨o',n',z,_,_,d'⟩,_⟩:=I.list h';rw [e]at z;cases z;rw [d]at d';injection d' with O _;have:J=its':=by simpa using congrArg Array.toList O
 subst this;exact r.inj r'
theorem Inv.tuple_inj(I:Inv X pins σ H s)(h:SqT X.K H a xs)(h':SqT X.K H a ys):xs=ys:=by
 obtain⟨J,r,⟨o,e,_,n,d⟩,_⟩:=I.tuple h;obtain⟨its',r',⟨o',z,_,n',d'⟩,_⟩:=I.tuple h';rw [e]at z;cases z;rw [d]at d';injection d' with O _;have:J=its':=by simpa using congrArg Array.toList O
 subst this;exact r.inj r'
end
abbrev Cx.wish(X:Cx)(E:Value->Shared->Prop):Cx:={X with xe:=E}
abbrev Cx.nox(X:Cx):Cx:=X.wish λ_ _=>False
theorem Cx.Ok.wish{X:Cx}(ok:X.Ok)(E:Value->Shared->Prop):(X.wish E).Ok:=
 ⟨ok.mod,ok.kind,ok.glob,ok.blt,ok.above,ok.inj,ok.has,ok.cab,ok.hd,ok.frames,ok.stk,ok.exf,ok.bs,ok.bsz,ok.noex,ok.exfs,ok.funs,ok.frf⟩
theorem Cx.Ok.unwish{X:Cx}{E:Value->Shared->Prop}(ok:(X.wish E).Ok):X.Ok:=
 ⟨ok.mod,ok.kind,ok.glob,ok.blt,ok.above,ok.inj,ok.has,ok.cab,ok.hd,ok.frames,ok.stk,ok.exf,ok.bs,ok.bsz,ok.noex,ok.exfs,ok.funs,ok.frf⟩
section
variable{X:Cx}{pins:List (Addr×Obj)}{σ:St}{H:Hp}{s:Shared}{E:Value->Shared->Prop}
theorem Inv.wish(I:Inv X pins σ H s)(E:Value->Shared->Prop):Inv (X.wish E) pins σ H s:=⟨I.ok.wish E,I.os,I.bare,I.base,I.loc,I.cell,I.free,I.freeC,I.pin,I.hok,I.len⟩
theorem Inv.unwish(I:Inv (X.wish E) pins σ H s):Inv X pins σ H s:=⟨I.ok.unwish,I.os,I.bare,I.base,I.loc,I.cell,I.free,I.freeC,I.pin,I.hok,I.len⟩
theorem SP.unwish{D:Ends}{f:Flow}{s':Shared}(h:SP (X.wish E) pins D f s'):SP X pins D f s':=by
 cases f with
 | next=>obtain⟨z,H',I,q⟩:=h;exact⟨z,H',I.unwish,q⟩
 | brk=>obtain⟨z,H',I,q⟩:=h;exact⟨z,H',I.unwish,q⟩
 | cont=>obtain⟨z,H',I,q⟩:=h;exact⟨z,H',I.unwish,q⟩
 | ret u=>obtain⟨v,z,H',I,r,q⟩:=h;exact⟨v,z,H',I.unwish,r,q⟩
theorem PSs.nox{st:List Stmt}{t:TS}(h:PSs X.nox st t):PSs X st t:=λpins s σ H D I hw=>
 ziX (h pins s σ H D (I.wish _) hw) (λ_ _ q=>q.unwish) λ_ _ z=>ziG z
end
section
variable{X:Cx}{st:Stmt}{rest:List Stmt}{t u:TS}{e:Expr}{te:TE}{pos:Pos}
def zeV:TS:=λD σ H=>D.nx σ H
def zf2(t u:TS):TS:=λD σ H=>t {D with nx:=u D} σ H
theorem zbk:PSs X [] zeV:=λ_ _ σ H _ I h=>wpAny_execs_nil ⟨σ,H,I,h⟩
theorem yv(h1:PS X st t)(h2:PSs X rest u):PSs X (st::rest) (zf2 t u):=by
 intro pins s σ H D I h;refine wpAny_execs_cons (thn (h1 pins s σ H {D with nx:=u D} I h) λf s1 q=>?_);cases f with
 | next=>
  obtain⟨z,H',J,q⟩:=q;exact h2 pins s1 z H' D J q
 | ret v=>exact q
 | brk=>exact q
 | cont=>exact q
theorem ya(h1:PS X st t):PSs X [st] t:=by
 intro pins s σ H D I h;refine wpAny_execs_cons (thn (h1 pins s σ H D I h) λf s1 q=>?_);cases f with
 | next=>exact wpAny_execs_nil q
 | ret v=>exact q
 | brk=>exact q
 | cont=>exact q
def zeZ:TS:=λD σ H=>D.ct σ H
theorem JE:PS X (.Continue pos) zeZ:=λ_ _ σ H _ I h=>wpAny_Continue ⟨σ,H,I,h⟩
theorem Inv.quiet{pins:List (Addr×Obj)}{σ:St}{H:Hp}{s:Shared}(I:Inv X pins σ H s):interactive X.env=false:=by simp [interactive,I.ok.kind]
def zeY(te:TE):TS:=λD σ H=>te σ H λ_ H1=>D.nx σ H1
theorem KW(z:PE X e te)(J:swapsWith e none pos.line X.env=pure false:=by rfl):PS X (.Expr e pos) (zeY te):=by
 intro pins s σ H D I h;exact wpAny_Expr_any (thn (z pins s σ H _ I h) λv s1 ⟨x,H1,O,S,Q⟩=>⟨σ,H1,O,Q⟩) I.quiet J
def zeS(te:TE):TS:=λD σ H=>te σ H D.rt
theorem v7(z:PE X e te):PS X (.Return (some e) pos) (zeS te):=by
 intro pins s σ H D I h;exact wpAny_Return_some (thn (z pins s σ H _ I h) λv s1 ⟨x,H1,J,O,Q⟩=>⟨x,σ,H1,J,O,Q⟩)
def zgA(c:TT)(t u:TS):TS:=λD σ H=>c σ H λb H1=>if b=true then t D σ H1 else u D σ H1
theorem zfa{c:Expr}{a b:List Stmt}{tc:TT}(O:PT X c tc)(ha:PSs X a t)(Q:PSs X b u):PS X (.If c a b pos) (zgA tc t u):=by
 intro pins s σ H D I h;refine wpAny_If (thn (O pins s σ H _ I h) λd s1 S=>?_);obtain⟨H1,z,J⟩:=S;cases d with
 | true=>exact ha pins s1 σ H1 D z J
 | false=>exact Q pins s1 σ H1 D z J
def zcE:TS:=λ_ _ _=>False
theorem V3:PS X st zcE:=λ_ _ _ _ _ _ h=>h.elim
end
abbrev TG:=V->St->Hp->(St->Hp->Prop)->Prop
abbrev TGs:=List V->St->Hp->(St->Hp->Prop)->Prop
def PG(X:Cx)(I:Expr)(t:TG):Prop:=
 ∀(pins:List (Addr×Obj)) (s:Shared) (σ:St) (H:Hp) (v:V) (u:Value) (Q:St->Hp->Prop),Inv X pins σ H s->RelV v u->t v σ H Q->
  wpAny (model X.prog X.w) X.A (assign I X.env u) (λ_ s'=>∃z H',Inv X pins z H' s'/\Q z H') X.xe s
def PGs(X:Cx)(I:List Expr)(t:TGs):Prop:=
 ∀(pins:List (Addr×Obj)) (s:Shared) (σ:St) (H:Hp) (vs:List V) (us:List Value) (Q:St->Hp->Prop),Inv X pins σ H s->Vals vs us->t vs σ H Q->
  wpAny (model X.prog X.w) X.A (assignInOrder ((assignEach I X.env).map (·.2)) us) (λ_ s'=>∃z H',Inv X pins z H' s'/\Q z H') X.xe s
section
variable{X:Cx}{pos:Pos}
def xR(i:Nat):TG:=λv σ H Q=>Q (σ.set i (some v)) H
theorem K4{i:Nat}{x:Str}(z:X.N.Nodup)(hi:X.N[i]? = some x)(hx:Loc X.env.scope x)(J:X.fn x=true\/X.env.scope.names.lookup x=some .local:=by first | exact .inl rfl | exact .inr rfl | assumption):PG X (.Name x pos) (xR i):=by
 intro pins s σ H v u Q I r h;exact wpAny_assign_Name (Qk I z hi hx r (λs' O=>⟨_,H,O,h⟩) J)
def zgc:TGs:=λvs σ H Q=>vs=[]/\Q σ H
def zdQ(t:TG)(u:TGs):TGs:=λvs σ H Q=>∃v r,vs=v::r/\t v σ H λz H'=>u r z H' Q
theorem qu:PGs X [] zgc:=by
 intro pins s σ H vs us Q I r h;obtain⟨e,h⟩:=h;subst e;cases r;exact assignInOrder_nil ⟨σ,H,I,h⟩
theorem z7{e:Expr}{es:List Expr}{t:TG}{u:TGs}(h1:PG X e t)(h2:PGs X es u)
 (z:(assignEach (e::es) X.env).map (·.2)=assign e X.env::(assignEach es X.env).map (·.2):=by rfl):PGs X (e::es) (zdQ t u):=by
 intro pins s σ H vs us Q I r h;obtain⟨v,Z,e1,h⟩:=h;subst e1;cases r with
 | cons r J=>
  rw [z];refine assignInOrder_cons (thn (h1 pins s σ H _ _ _ I r h) λ_ s1 O=>?_);obtain⟨S,H1,U,Y⟩:=O;exact h2 pins s1 S H1 _ _ Q U J Y
def zgb(K:PySem.W.Frag)(n:Nat)(t:TGs):TG:=λv σ H Q=>∃a xs,v = .ref a/\SqT K H a xs/\xs.length=n/\t xs σ H Q
theorem zdd{es:List Expr}{k:Nat}{t:TGs}{n:Nat}(J:X.calm=true)(h:PGs X es t)
 (O:(assignEach es X.env).length=n:=by rfl) (S:(assignEach es X.env).findIdx? (·.1)=none:=by rfl):PG X (.Tuple es k pos) (zgb X.K n t):=by
 intro pins s σ H v u Q I r hw;obtain⟨a,xs,e1,U,Y,hw⟩:=hw;subst e1;cases r;obtain⟨a1,z,Z,hz⟩:=I.tuple U;refine assign_Tuple_tuple (I.ok.hd J) Z (by simp [O,<- Y,z.length]) S λh' hx=>?_;have I1:Inv X pins σ H {s with heap:=h'}:=I.kept (t':=s.toks) λb o e=>hx b o (zhz (zhc e)) e;exact h pins _ σ H xs _ Q I1 (by simpa using z) hw
def X8(te:TE)(g:TG):TS:=λD σ H=>te σ H λx H1=>g x σ H1 D.nx
theorem zaq{tg e:Expr}{te:TE}{g:TG}(z:PE X e te)(J:PG X tg g)(O:swapsWithSole [tg] e pos.line X.env=pure false:=by rfl)(hw:swappedStores [tg] e X.env=pure none:=by rfl)
 (h1:(assignEach [tg] X.env).map (·.2)=[assign tg X.env]:=by rfl):PS X (.Assign [tg] e pos) (X8 te g):=by
 intro pins s σ H D I h;refine wpAny_Assign_stores (thn (z pins s σ H _ I h) λv s1 Q=>?_) O hw;obtain⟨x,H1,S,U,Y⟩:=Q;rw [h1];exact thn (J pins s1 σ H1 x v _ S U Y) λ_ s2 q=>q
theorem zc9{i:Nat}{x:Str}{e:Expr}{te:TE}{pos':Pos}(z:X.N.Nodup)(hi:X.N[i]? = some x)(hx:Loc X.env.scope x)(J:PE X e te)(O:swapsWith e (some (.Name x pos')) pos.line X.env=pure false:=by rfl)(Q:X.fn x=true\/X.env.scope.names.lookup x=some .local:=by first | exact .inl rfl | exact .inr rfl | assumption) :
 PS X (.Assign [.Name x pos'] e pos) (X8 te (xR i)):=by
 intro pins s σ H D I h;refine wpAny_Assign_Name (thn (J pins s σ H _ I h) λv s1 S=>?_) O;obtain⟨y,H1,U,Y,Z⟩:=S;exact Qk U z hi hx Y (λs2 I2=>⟨_,H1,I2,Z⟩) Q
end
structure It where
 go:Nat->Hp->Prop
 yld:Nat->Hp->V->Hp->Prop
 stop:Nat->Hp->Prop
def FpOk(X:Cx)(pins:List (Addr×Obj))(H:Hp)(b:Addr):Prop:=
 H b=none/\b≠X.env.locals/\b∉X.fs/\(b∈X.ex\/X.s₀.heap.objs.size<=b)/\(∀x c,X.env.cells.lookup x=some c->c≠b)/\∀p∈X.pn++pins,p.1≠b
theorem Inv.fpOk{X:Cx}{pins:List (Addr×Obj)}{σ:St}{H H':Hp}{s:Shared}{b:Addr}(I:Inv X pins σ H s)(J:s.heap.objs.size<=b)(O:H' b=none):FpOk X pins H' b:=by
 refine⟨O,zin (zhl I.lt J),I.nofs J,.inr (zh2 I.sz J),λx c e z=>?_,λp Q z=>?_⟩
 ·obtain⟨v,q⟩:=I.cell x c e
  exact absurd (zhl q.lt (by rw [z];exact J)) (zhC _)
 ·exact absurd (zhl (zhc (I.pin p Q).1) (by rw [z];exact J)) (zhC _)
structure Turn(P:Program)(w:World)(K:PySem.W.Frag)(tg:Expr)(J:It)(fp:List Addr)(it:Addr)(tn:Nat->Heap->Prop):Prop where
 mem:it∈fp
 obj : ∀i h,tn i h->∀b∈fp,∃o,h.get? b=some o/\∀v,o.data ≠ .cell v
 keep : ∀i h h',tn i h->(∀b∈fp,∀o,h.get? b=some o->h'.get? b=some o)->tn i h'
 item : ∀(X:Cx),X.prog=P->X.w=w->X.K=K->X.calm=true->∀(i:Nat) (pins:List (Addr×Obj)) (s:Shared) (σ:St) (H:Hp) (E:Value->Shared->Prop),Inv X pins σ H s->(∀b∈fp,FpOk X pins H b)->tn i s.heap->J.go i H->
  wpAny (model P w) X.A (pyNext (.ref it)) (λr s1=>∃u,r=some u/\
   wpAny (model P w) X.A (letOwnedTupleGo tg (.ref it) u) (λ_ s2=>∃x H',Inv X pins σ H' s2/\RelV x u/\J.yld i H x H'/\tn (i+1) s2.heap/\∀b∈fp,H' b=none) E s1) E s
 done : ∀(X:Cx),X.prog=P->X.w=w->X.K=K->X.calm=true->∀(i:Nat) (pins:List (Addr×Obj)) (s:Shared) (σ:St) (H:Hp) (E:Value->Shared->Prop),Inv X pins σ H s->(∀b∈fp,FpOk X pins H b)->tn i s.heap->J.stop i H->
  wpAny (model P w) X.A (pyNext (.ref it)) (λr s1=>r=none/\Inv X pins σ H s1) E s
 self : ∀(A:Around) (i:Nat) (s:Shared) (Q:Value->Shared->Prop) (E:Value->Shared->Prop),tn i s.heap->Q (.ref it) s->wpAny (model P w) A (pyIter (.ref it)) Q E s
abbrev TI:=St->Hp->(It->Hp->Prop)->Prop
def PIE(X:Cx)(pins:List (Addr×Obj))(σ:St)(tg:Expr)(R:It->Hp->Prop)(z:Value)(s2:Shared):Prop:=
 ∃(it:Addr) (fp:List Addr) (tn:Nat->Heap->Prop) (J:It) (H':Hp),z = .ref it/\Inv X pins σ H' s2/\Turn X.prog X.w X.K tg J fp it tn/\tn 0 s2.heap/\(∀b∈fp,FpOk X pins H' b)/\R J H'
def PI(X:Cx)(tg iter:Expr)(wi:TI):Prop:=
 ∀(pins:List (Addr×Obj)) (s:Shared) (σ:St) (H:Hp) (R:It->Hp->Prop),Inv X pins σ H s->wi σ H R->
  wpAny (model X.prog X.w) X.A (eval iter X.env) (λv s1=>wpAny (model X.prog X.w) X.A (pyIter v) (PIE X pins σ tg R) X.xe s1) X.xe s
theorem YC{M:Model}{A:Around}{E:Value->Shared->Prop}{s:Shared}{tg:Expr}{it:Addr}{u:Value}{o:Obj}{n:String}{vs:Array Value}{Q:Unit->Shared->Prop}(I:s.heap.get? it=some o)(J:o.cls = .type n)(hd:o.data = .fields vs)
 (O:["enumerate","zip","dict_itemiterator","dict_reverseitemiterator","odict_iterator","itertools.zip_longest","itertools.pairwise"].contains n=false) (z:Q () s):wpAny M A (letOwnedTupleGo tg (.ref it) u) Q E s:=by
 unfold letOwnedTupleGo;cases tg<;>first
  | exact zg1 z
  | (cases u<;>first
      | exact zg1 z
      | (refine zgV (wpAny_load I ?_)
         rw [J,hd];show wpAny M A (if (["enumerate","zip","dict_itemiterator","dict_reverseitemiterator","odict_iterator","itertools.zip_longest","itertools.pairwise"].contains n && vs[0]? == some (rawInt _))=true then _ else _) Q E s;rw [if_neg (by intro h;rw [O,Bool.false_and]at h;cases h)];exact zg1 z))
def Itl(K:PySem.W.Frag)(a:Addr):It:=
 ⟨λi H=>∃xs x,SqL K H a xs/\xs[i]? = some x,λi H x H'=>H'=H/\∀xs,SqL K H a xs->xs[i]? = some x,λi H=>∃xs,SqL K H a xs/\xs.length<=i⟩
def Itt(K:PySem.W.Frag)(a:Addr):It:=
 ⟨λi H=>∃xs x,SqT K H a xs/\xs[i]? = some x,λi H x H'=>H'=H/\∀xs,SqT K H a xs->xs[i]? = some x,λi H=>∃xs,SqT K H a xs/\xs.length<=i⟩
def Itr(lo:Int)(n:Nat):It:=⟨λi _=>i<n,λi H x H'=>H'=H/\x = .int (lo+i),λi _=>n<=i⟩
theorem Kg{P:Program}{w:World}{K:PySem.W.Frag}{tg:Expr}(a it:Addr):Turn P w K tg (Itl K a) [it] it (λi h=>h.IsListIter it a i) where
 mem:=by simp
 obj:=λi h st b J=>by
  have e:b=it:=by simpa using J
  subst e;obtain⟨o,e,c,d⟩:=st;exact⟨o,e,λv z=>by rw [d]at z;cases z⟩
 keep:=λi h h' st k=>st.at λo e=>k it ⋯ o e
 item:=by
  intro X S hw U hc i pins s σ H E I O st Y;subst S hw U;obtain⟨xs,x,Q,hx⟩:=Y;obtain⟨a7,Z,p,hz⟩:=I.list Q;obtain⟨u,hu,ru⟩:=Z.get hx;obtain⟨f0,f1,f2,f3,f4,f5⟩:=O it ⋯;refine wpAny_pyNext_list_item st p.isList (x:=u) (by simpa using hu) λh' a6 sb=>?_;have I1:Inv X pins σ H {s with heap:=h'}:=I.turned (t':=s.toks) (λb o J e=>(sb.2 b J).trans e) f0 f1 f3 f4 f5;obtain⟨o,e,c,d⟩:=id a6;exact⟨u,rfl,YC (s:={s with heap:=h'}) e c d ⋯ ⟨x,H,I1,ru,⟨rfl,λys hy=>by rw [I.list_inj hy Q];exact hx⟩,a6,λb J=>(O b J).1⟩⟩
 done:=by
  intro X S hw U hc i pins s σ H E I O st Y;subst S hw U;obtain⟨xs,Q,hx⟩:=Y;obtain⟨a7,Z,p,hz⟩:=I.list Q;obtain⟨f0,f1,f2,f3,f4,f5⟩:=O it ⋯;have hl:=Z.length;exact wpAny_pyNext_list_end (I.ok.hd hc) st p.isList (by simp;omega) λh' eb=>⟨rfl,I.turned (t':=s.toks) (λb o J e=>eb b o J e) f0 f1 f3 f4 f5⟩
 self:=λ_ _ _ _ _ st h=>wpAny_pyIter_listiter st h
theorem Xd{P:Program}{w:World}{K:PySem.W.Frag}{tg:Expr}(a it:Addr):Turn P w K tg (Itt K a) [it] it (λi h=>h.IsTupleIter it a i) where
 mem:=by simp
 obj:=λi h st b J=>by
  have e:b=it:=by simpa using J
  subst e;obtain⟨o,e,c,d⟩:=st;exact⟨o,e,λv z=>by rw [d]at z;cases z⟩
 keep:=λi h h' st k=>st.at λo e=>k it ⋯ o e
 item:=by
  intro X S hw U hc i pins s σ H E I O st Y;subst S hw U;obtain⟨xs,x,Q,hx⟩:=Y;obtain⟨Z,rv,p,hz⟩:=I.tuple Q;obtain⟨u,hu,ru⟩:=rv.get hx;obtain⟨f0,f1,f2,f3,f4,f5⟩:=O it ⋯;refine wpAny_pyNext_tuple_item st (show s.heap.IsTuple a Z.toArray from p) (x:=u) (by simpa using hu) λh' a7 sb=>?_;have I1:Inv X pins σ H {s with heap:=h'}:=I.turned (t':=s.toks) (λb o J e=>(sb.2 b J).trans e) f0 f1 f3 f4 f5;obtain⟨o,e,c,d⟩:=id a7;exact⟨u,rfl,YC (s:={s with heap:=h'}) e c d ⋯ ⟨x,H,I1,ru,⟨rfl,λys hy=>by rw [I.tuple_inj hy Q];exact hx⟩,a7,λb J=>(O b J).1⟩⟩
 done:=by
  intro X S hw U hc i pins s σ H E I O st Y;subst S hw U;obtain⟨xs,Q,hx⟩:=Y;obtain⟨Z,rv,p,hz⟩:=I.tuple Q;obtain⟨f0,f1,f2,f3,f4,f5⟩:=O it ⋯;have hl:=rv.length;exact wpAny_pyNext_tuple_end (I.ok.hd hc) st (show s.heap.IsTuple a Z.toArray from p) (by simp;omega) λh' eb=>⟨rfl,I.turned (t':=s.toks) (λb o J e=>eb b o J e) f0 f1 f3 f4 f5⟩
 self:=λ_ _ _ _ _ st h=>wpAny_pyIter_tupleiter st h
theorem Xe{P:Program}{w:World}{K:PySem.W.Frag}{tg:Expr}(it:Addr)(lo:Int)(n:Nat):Turn P w K tg (Itr lo n) [it] it (λi h=>IsRangeIter h it (lo+(i:Nat)*1) ((n:Int) - (i:Nat)) 1) where
 mem:=by simp
 obj:=λi h st b J=>by
  have e:b=it:=by simpa using J
  subst e;exact⟨_,st,λv z=>by
   have z':Data.fields _=Data.cell v:=z;cases z'⟩
 keep:=λi h h' st k=>k it ⋯ _ st
 item:=by
  intro X Q hw S U i pins s σ H E I O st Y;subst Q hw S;obtain⟨Z,f1,f2,f3,f4,f5⟩:=O it ⋯;have W:=Walks.range (prog:=X.prog) (w:=X.w) (I.ok.hd U) it lo 1 n;refine W.item i s _ _ Y st λv h' tk hv a4 kk=>?_;obtain⟨t,rfl⟩:=hv;have I1:Inv X pins σ H {s with heap:=h',toks:=tk}:=I.turned (λb o J e=>kk b o (by simpa using J) e) Z f1 f3 f4 f5;refine⟨_,rfl,YC (s:={s with heap:=h',toks:=tk}) (n:="range_iterator") a4 rfl rfl ⋯ ⟨.int (lo+i),H,I1,⟨t,?_⟩,⟨rfl,rfl⟩,a4,λb J=>(O b J).1⟩⟩;rw [zj2]
 done:=by
  intro X Q hw S U i pins s σ H E I O st Y;subst Q hw S;obtain⟨Z,f1,f2,f3,f4,f5⟩:=O it ⋯;exact wpAny_pyNext_range_end (I.ok.hd U) st (by have:n<=i:=Y;omega) λh' eb=>⟨rfl,I.turned (t':=s.toks) (λb o J e=>eb b o J e) Z f1 f3 f4 f5⟩
 self:=λ_ _ _ _ _ st h=>wpAny_pyIter_rangeiter st h
section
variable{X:Cx}{tg:Expr}
theorem Qt{pins:List (Addr×Obj)}{σ:St}{H:Hp}{s:Shared}{R:It->Hp->Prop}{E:Value->Shared->Prop}{lo hi:Int}{t u v:Tok}{tk:Nat}(I:Inv X pins σ H s)(h1 : -(2 ^ 62)<=lo)(h2:lo<2 ^ 62)(J : -(2 ^ 62)<=hi)(O:hi<2 ^ 62)
 (q:R (Itr lo (hi - lo).toNat) H):wpAny (model X.prog X.w) X.A (pyIter (.ref s.heap.objs.size)) (PIE X pins σ tg R) E {s with heap:=s.heap.push {cls:= .type "range",data:= .fields #[.int lo t,.int hi u,.int 1 v]},toks:=tk}:=by
 refine wpAny_pyIter_range (IsRange.new ..) (small_one h1 h2 J O) ?_;have z:Inv X pins σ H {s with heap:=s.heap.push {cls:= .type "range",data:= .fields #[.int lo t,.int hi u,.int 1 v]},toks:=tk}:=I.kept λb o e=>zgY _ e;refine⟨(s.heap.push {cls:= .type "range",data:= .fields #[.int lo t,.int hi u,.int 1 v]}).objs.size,[(s.heap.push {cls:= .type "range",data:= .fields #[.int lo t,.int hi u,.int 1 v]}).objs.size],_,_,H,rfl,
  z.kept (t':=tk) λb o e=>zgY _ e,Xe _ lo (hi - lo).toNat,?_,λb Q=>?_,q⟩
 ·have e1:lo+((0:Nat):Int)*1=lo:=by simp
  have S:(((hi - lo).toNat:Nat):Int) - ((0:Nat):Int)=Builtin.Range.rangeSize lo hi 1:=by rw [rangeSize_one];split<;>omega
  show IsRangeIter _ _ (lo+((0:Nat):Int)*1) ((((hi - lo).toNat:Nat):Int) - ((0:Nat):Int)) 1;rw [e1,S];exact zg6 _ rfl
 ·have e:b=(s.heap.push {cls:= .type "range",data:= .fields #[.int lo t,.int hi u,.int 1 v]}).objs.size:=by simpa using Q
  subst e;exact z.fpOk (zg3 _) (z.hok.fresh (zg3 _))
def zfr(ta:TA):TI:=λσ H R=>ta σ H λvs H1=>∃j:Int,vs=[.int j]/\ -(2 ^ 62)<=j/\j<2 ^ 62/\R (Itr 0 j.toNat) H1
def zfq(ta:TA):TI:=λσ H R=>ta σ H λvs H1=>∃i j:Int,vs=[.int i,.int j]/\(-(2 ^ 62)<=i/\i<2 ^ 62/\ -(2 ^ 62)<=j/\j<2 ^ 62)/\R (Itr i (j - i).toNat) H1
theorem K3{a:Expr}{ta:TA}{p pos:Pos}(J:Gl X "range")(O:X.mg "range" = none)(ha:PA X [a] ta)(Q:starEach [a] X.env=[(false,eval a X.env)]:=by rfl):PI X tg (.Call (.Name "range" p) [a] [] pos) (zfr ta):=by
 intro pins s σ H R I h;refine Call_ (xX I J O boot_range (zhA (thn (ha pos pins s σ H _ I h) λus s1 S=>?_) Q rfl));obtain⟨vs,H1,U,Y,z⟩:=S;obtain⟨j,e,z,Z,q⟩:=z;subst e;cases Y with
 | cons r rr=>
  cases rr;obtain⟨t,rfl⟩:=r;exact call_range_1 (Qt U ⋯ ⋯ z Z (by simpa using q))
theorem K2{a b:Expr}{ta:TA}{p pos:Pos}(Q:Gl X "range")(S:X.mg "range" = none)(ha:PA X [a,b] ta)(U:starEach [a,b] X.env=[(false,eval a X.env),(false,eval b X.env)]:=by rfl)(O:starEach [b] X.env=[(false,eval b X.env)]:=by rfl) :
 PI X tg (.Call (.Name "range" p) [a,b] [] pos) (zfq ta):=by
 intro pins s σ H R I h;refine Call_ (xX I Q S boot_range (zhA (thn (ha pos pins s σ H _ I h) λus s1 Y=>?_) (by rw [U,O]) (by rw [O];rfl)));obtain⟨vs,H1,Z,r1,z⟩:=Y;obtain⟨i,j,e,⟨z,q2,q3,q4⟩,q⟩:=z;subst e;cases r1 with
 | cons r J=>
  cases J with
  | cons r' J=>
   cases J;obtain⟨t,rfl⟩:=r;obtain⟨t',rfl⟩:=r';exact call_range_2 (Qt Z z q2 q3 q4 q)
def zgB(wi:TI)(g:TG)(tb:TS):TS:=λD σ H=>wi σ H λJ H1=>∃W:Nat->Nat->St->Hp->Prop,(∃m,W 0 m σ H1)/\∀i m σ H,W i m σ H->
 (J.stop i H/\D.nx σ H)\/(J.go i H/\∃N:St->Hp->Prop,(∀z H',N z H'->∃m',m'<m/\W (i+1) m' z H')/\∀x H',J.yld i H x H'->g x σ H' λI H2=>tb {D with nx:=N,ct:=N,bk:=D.nx} I H2)
def ZL(fp:List Addr)(h:Heap):List (Addr×Obj):=fp.filterMap λb=>(h.get? b).map λo=>(b,o)
theorem xL{fp:List Addr}{h:Heap}{b:Addr}{o:Obj}(z:b∈fp)(e:h.get? b=some o):(b,o)∈ZL fp h:=List.mem_filterMap.mpr ⟨b,z,by rw [e];rfl⟩
theorem K9{fp:List Addr}{h:Heap}{p:Addr×Obj}(z:p∈ZL fp h):p.1∈fp/\h.get? p.1=some p.2:=by
 obtain⟨b,I,e⟩:=List.mem_filterMap.mp z;cases q:h.get? b with
 | none=>rw [q]at e;cases e
 | some o=>
  rw [q]at e;have J:(b,o)=p:=zhS e;subst J;exact⟨I,q⟩
theorem Inv.pinned{pins:List (Addr×Obj)}{σ:St}{H:Hp}{s:Shared}{fp:List Addr}(I:Inv X pins σ H s)(Q : ∀b∈fp,FpOk X pins H b)(S : ∀b∈fp,∃o,s.heap.get? b=some o/\∀v,o.data ≠ .cell v):Inv X (pins++ZL fp s.heap) σ H s:=
 I.pins_of λp U=>(zjc.mp U).elim (λz=>I.pin p (zhT _ z)) λz=>by
  obtain⟨J,e⟩:=K9 z;obtain⟨Y,Z,f2,_⟩:=Q p.1 J;obtain⟨o,O,d⟩:=S p.1 J;rw [e]at O;cases O;exact⟨e,Y,Z,f2,d⟩
theorem Inv.unpinned{pins pl:List (Addr×Obj)}{σ:St}{H:Hp}{s:Shared}(I:Inv X (pins++pl) σ H s):Inv X pins σ H s:=I.pins_of λp z=>I.pin p (zhT _ (List.mem_append_left _ z))
theorem zao{iter:Expr}{body:List Stmt}{wi:TI}{g:TG}{tb:TS}{pos:Pos}(Z:PassesOwn (model X.prog X.w) X.A X.env X.xe)(hc:X.calm=true)(hi:PI X tg iter wi)(hg:PG X tg g)(z:PSs X body tb)
 (hs : ∀x,foldedSetIterable iter X.env x=pure x:=by intro _;rfl):PS X (.For tg iter body [] pos) (zgB wi g tb):=by
 intro pins s σ H D I h;refine wpAny_For (thn (hi pins s σ H _ I h) λv s1 h1=>thn h1 λbf s2 h2=>?_) hs;obtain⟨it,fp,tn,J,H2,e,I2,T,aj,f2,W,⟨m0,w0⟩,am⟩:=h2;subst e;have a4 : ∀{H':Hp},(∀b∈fp,H' b=none)->∀b∈fp,FpOk X pins H' b:=λhn b z=>⟨hn b z,(f2 b z).2⟩;refine codeAny_forLoop_any (λn s'=>∃i σ' H',Inv X pins σ' H' s'/\tn i s'.heap/\(∀b∈fp,H' b=none)/\W i n σ' H') ?_ m0 ⟨0,σ,H2,I2,aj,λb z=>(f2 b z).1,w0⟩;rintro n s3 ⟨i,σ3,H3,I3,ac,ad,w3⟩;rcases am i n σ3 H3 w3 with⟨stop,qn⟩ | ⟨go,N,hN,step⟩
 ·refine zjQ Z (thn (T.done X rfl rfl rfl hc i pins s3 σ3 H3 X.xe I3 (a4 ad) ac stop) λr s4 Y=>?_)
  obtain⟨hr,I4⟩:=Y;subst hr;exact wpAny_execs_nil ⟨σ3,H3,I4,qn⟩
 ·refine zjQ Z (thn (T.item X rfl rfl rfl hc i pins s3 σ3 H3 X.xe I3 (a4 ad) ac go) λr s4 Y=>?_)
  obtain⟨u,hr,h4⟩:=Y;subst hr;refine zjQ Z (thn h4 λ_ s5 Y=>?_);obtain⟨x,H5,I5,r5,y5,a6,ax⟩:=Y;have ay:=I5.pinned (a4 ax) (T.obj _ _ a6);refine zjQ Z (thn (hg _ s5 σ3 H5 x u _ ay r5 (step x H5 y5)) λ_ s6 Y=>?_);obtain⟨σ6,H6,I6,q6⟩:=Y;refine zjQ Z (thn (z _ s6 σ6 H6 _ I6 q6) λf s7 U=>?_);have again : ∀{O:St} {Q:Hp},Inv X (pins++ZL fp s5.heap) O Q s7->N O Q->∃m,m<n/\∃i σ' H',Inv X pins σ' H' s7/\tn i s7.heap/\(∀b∈fp,H' b=none)/\W i m σ' H':=λ{O Q} S n7=>by
   obtain⟨m',hm,w7⟩:=hN O Q n7;refine⟨m',hm,i+1,O,Q,S.unpinned,T.keep _ _ _ a6 λb z o e=>(S.pin (b,o) (zhT _ (zhT _ (xL z e)))).1,λb z=>?_,w7⟩;obtain⟨o,e,d⟩:=T.obj _ _ a6 b z;exact(S.pin (b,o) (zhT _ (zhT _ (xL z e)))).2.1
  cases f with
  | next=>obtain⟨O,Q,S,n7⟩:=U;exact again S n7
  | cont=>obtain⟨O,Q,S,n7⟩:=U;exact again S n7
  | brk=>obtain⟨O,Q,S,U⟩:=U;exact⟨O,Q,S.unpinned,U⟩
  | ret v=>obtain⟨x7,O,Q,S,r7,U⟩:=U;exact⟨x7,O,Q,S.unpinned,r7,U⟩
end
theorem Z2{lo:Int}{n:Nat}{g:TG}{tb:TS}{D:Ends}{σ:St}{H:Hp}(z:Nat->St->Hp->Prop)(Q:z 0 σ H)
 (S : ∀i σ H,i<n->z i σ H->g (.int (lo+i)) σ H λI H2=>tb {D with nx:=z (i+1),ct:=z (i+1),bk:=D.nx} I H2) (hd : ∀σ H,z n σ H->D.nx σ H) :
 ∃W:Nat->Nat->St->Hp->Prop,(∃m,W 0 m σ H)/\∀i m σ H,W i m σ H->
  ((Itr lo n).stop i H/\D.nx σ H)\/((Itr lo n).go i H/\∃N:St->Hp->Prop,(∀J H',N J H'->∃m',m'<m/\W (i+1) m' J H')/\∀x H',(Itr lo n).yld i H x H'->g x σ H' λI H2=>tb {D with nx:=N,ct:=N,bk:=D.nx} I H2):=by
 refine⟨λi m σ H=>m=n - i/\i<=n/\z i σ H,⟨n,by simp,zh7 _,Q⟩,?_⟩;rintro i m σ H ⟨rfl,hi,p⟩;by_cases O:i<n
 ·refine .inr ⟨O,z (i+1),λJ H' U=>⟨n - (i+1),by omega,rfl,O,U⟩,λx H' y=>?_⟩
  obtain⟨e,y⟩:=y;subst e y;exact S i σ _ O p
 ·have e:i=n:=by omega
  subst e;exact .inl ⟨zg3 _,hd σ H p⟩
abbrev R2:=V->V->Hp->VK->Prop
def OpR(X:Cx)(f:Value->Value->Sem Value)(r:R2):Prop:=
 ∀(pins:List (Addr×Obj)) (s:Shared) (σ:St) (H:Hp) (x y:V) (v u:Value) (Q:VK),Inv X pins σ H s->RelV x v->RelV y u->r x y H Q->
  wpAny (model X.prog X.w) X.A (f v u) (EP X pins σ Q) X.xe s
def Zo(X:Cx)(f:Value)(r:List V->Hp->VK->Prop):Prop:=
 ∀(pins:List (Addr×Obj)) (s:Shared) (σ:St) (H:Hp) (xs:List V) (us:List Value) (Q:VK),Inv X pins σ H s->Vals xs us->r xs H Q->
  wpAny (model X.prog X.w) X.A (call f us) (EP X pins σ Q) X.xe s
def zgT(X:Cx)(r:V->Hp->(Bool->Hp->Prop)->Prop):Prop:=
 ∀(pins:List (Addr×Obj)) (s:Shared) (σ:St) (H:Hp) (x:V) (v:Value) (Q:Bool->Hp->Prop),Inv X pins σ H s->RelV x v->r x H Q->
  wpAny (model X.prog X.w) X.A (truthy v) (TP X pins σ Q) X.xe s
def tOp(r:R2)(ta tb:TE):TE:=λσ H Q=>ta σ H λx H1=>tb σ H1 λy H2=>r x y H2 Q
def rI(C:Int->Int->Prop)(g:Int->Int->V):R2:=λx y H Q=>∃i j,x = .int i/\y = .int j/\C i j/\Q (g i j) H
def rI0(g:Int->Int->V):R2:=λx y H Q=>∃i j,x = .int i/\y = .int j/\Q (g i j) H
section
variable{X:Cx}{a b c:Expr}{ta tb tc:TE}{pos:Pos}
theorem zfH(ha:PE X a ta)(J:PE X b tb){pins:List (Addr×Obj)}{s:Shared}{σ:St}{H:Hp}{R:V->V->Hp->Prop}(I:Inv X pins σ H s)
 (h:ta σ H λx H1=>tb σ H1 λy H2=>R x y H2) {Q:Value->Shared->Prop} {f:Value->Value->Sem Value}
 (O : ∀v u s2 x y H2,Inv X pins σ H2 s2->RelV x v->RelV y u->R x y H2->wpAny (model X.prog X.w) X.A (f v u) Q X.xe s2) :
 wpAny (model X.prog X.w) X.A (eval a X.env) (λv S=>wpAny (model X.prog X.w) X.A (eval b X.env) (λu U=>wpAny (model X.prog X.w) X.A (f v u) Q X.xe U) X.xe S) X.xe s:=by
 refine thn (ha pins s σ H _ I h) λv s1 z=>?_;obtain⟨x,H1,Y,Z,q1⟩:=z;refine thn (J pins s1 σ H1 _ Y q1) λu s2 z=>?_;obtain⟨y,H2,I2,r2,q2⟩:=z;exact O v u s2 x y H2 I2 Z r2 q2
theorem zbt{z:Operator}{r:R2}(J:OpR X (binaryOp z) r)(ha:PE X a ta)(O:PE X b tb):PE X (.BinOp a z b pos) (tOp r ta tb):=by
 intro pins s σ H Q I h;exact wpAny_BinOp (zfH ha O I h λv u s2 x y H2 S U Y q=>J pins s2 σ H2 x y v u Q S U Y q)
theorem opI{f:Value->Value->Sem Value}{C:Int->Int->Prop}{g:Int->Int->Int}
 (rule : ∀(i j:Int) (t u:Tok) (s:Shared) (Q:Value->Shared->Prop) (E:Value->Shared->Prop),C i j->Q (.int (g i j) s.toks) {s with toks:=s.toks+1}->wpAny (model X.prog X.w) X.A (f (.int i t) (.int j u)) Q E s) :
 OpR X f (rI C λi j=> .int (g i j)):=by
 intro pins s σ H x y v u Q I z J h;obtain⟨i,j,rfl,rfl,O,q⟩:=h;obtain⟨t,rfl⟩:=z;obtain⟨t',rfl⟩:=J;exact rule i j t t' s _ _ O ⟨.int (g i j),H,I.tok _,⟨_,rfl⟩,q⟩
theorem zf9{f:Value->Value->Sem Value}{g:Int->Int->Int}
 (rule : ∀(i j:Int) (t u:Tok) (s:Shared) (Q:Value->Shared->Prop) (E:Value->Shared->Prop),Q (.int (g i j) s.toks) {s with toks:=s.toks+1}->wpAny (model X.prog X.w) X.A (f (.int i t) (.int j u)) Q E s) :
 OpR X f (rI0 λi j=> .int (g i j)):=by
 intro pins s σ H x y v u Q I z J h;obtain⟨i,j,rfl,rfl,q⟩:=h;obtain⟨t,rfl⟩:=z;obtain⟨t',rfl⟩:=J;exact rule i j t t' s _ _ ⟨.int (g i j),H,I.tok _,⟨_,rfl⟩,q⟩
theorem zgI{f:Value->Value->Sem Value}{g:Int->Int->Bool}
 (rule : ∀(i j:Int) (t u:Tok) (s:Shared) (Q:Value->Shared->Prop) (E:Value->Shared->Prop),Q (.bool (g i j)) s->wpAny (model X.prog X.w) X.A (f (.int i t) (.int j u)) Q E s) :
 OpR X f (rI0 λi j=> .bl (g i j)):=by
 intro pins s σ H x y v u Q I z J h;obtain⟨i,j,rfl,rfl,q⟩:=h;obtain⟨t,rfl⟩:=z;obtain⟨t',rfl⟩:=J;exact rule i j t t' s _ _ ⟨.bl (g i j),H,I,rfl,q⟩
def zgv(i j:Int):Prop:=0<j/\j<1073741824
def zgu(i j:Int):Prop:=0<=j/\j<=1000000/\i.natAbs<2 ^ 64
def CMul(i j:Int):Prop:=(-(2 ^ 64)<i/\i<2 ^ 64)\/(-(2 ^ 64)<j/\j<2 ^ 64)
theorem CMul.ok{i j:Int}(h:CMul i j):IntMulOk i j:=by
 rcases h with⟨h1,h2⟩ | ⟨h1,h2⟩
 ·exact .of_left (intBits_le_64 h1 h2)
 ·exact .of_right (intBits_le_64 h1 h2)
theorem op_add:OpR X (binaryOp .Add) (rI0 λi j=> .int (i+j)):=zf9 λ_ _ _ _ _ _ _ q=>add_int q
theorem zdn:OpR X (binaryOp .Sub) (rI0 λi j=> .int (i - j)):=zf9 λ_ _ _ _ _ _ _ q=>sub_int q
theorem op_mul:OpR X (binaryOp .Mult) (rI CMul λi j=> .int (i*j)):=opI λ_ _ _ _ _ _ _ z q=>mul_int q z.ok
theorem zby:OpR X (binaryOp .FloorDiv) (rI zgv λi j=> .int (i/j)):=opI λi j _ _ _ _ _ z q=>by
 have h1:(0:Int)<j:=z.1;have h2:j<1073741824:=z.2;exact floordiv_int ⋯ (by rw [Int.fdiv_eq_ediv_of_nonneg i ⋯];exact q) (.inl (PyProof.noPylong_small ⋯))
theorem zdr:OpR X (binaryOp .Mod) (rI (λ_ j=>0<j) λi j=> .int (i%j)):=opI λi j _ _ _ _ _ z q=>by
 have h1:(0:Int)<j:=z;exact mod_int' ⋯ (by rw [Int.fmod_eq_emod_of_nonneg i ⋯];exact q)
theorem zdo:OpR X (binaryOp .Pow) (rI zgu λi j=> .int (i ^ j.toNat)):=opI λ_ _ _ _ _ _ _ z q=>pow_int_small z.1 z.2.1 z.2.2 q
end
def zgD:V->V->Bool
 | .non,.non=>true | .non,.int _=>true | .int _,.non=>true | .non,.bl _=>true | .bl _,.non=>true | .non,.str _=>true | .str _,.non=>true
 | .int _,.int _=>true | .bl _,.bl _=>true | .str _,.str _=>true | .byt _,.byt _=>true
 | .int _,.str _=>true | .str _,.int _=>true | .bl _,.str _=>true | .str _,.bl _=>true
 | _,_=>false
def rEq:R2:=λx y H Q=>zgD x y=true/\Q (.bl (decide (x=y))) H
theorem zbZ{i j:Int}:decide (V.int i=V.int j)=(i==j):=by
 rw [ziA];simp
theorem zdV{i j:Bool}:decide (V.bl i=V.bl j)=(i==j):=by
 rw [ziA];simp
theorem zbY{i j:Str}:decide (V.str i=V.str j)=(i==j):=by
 rw [ziA];simp
theorem zb0{i j:Array UInt8}:decide (V.byt i=V.byt j)=(i.toList==j.toList):=by
 rw [ziA];cases i;cases j;simp
section
variable{X:Cx}{a b c:Expr}{ta tb tc:TE}{pos:Pos}
theorem qw{pins:List (Addr×Obj)}{σ:St}{H:Hp}{s:Shared}{Q:VK}{k z:Bool}(I:Inv X pins σ H s)(q:Q (.bl k) H)(e:k=z):EP X pins σ Q (.bool z) s:=by
 subst e;exact⟨.bl k,H,I,rfl,q⟩
theorem zff:OpR X (compareOp .Eq) rEq:=by
 intro pins s σ H x y v u Q I O z h;obtain⟨J,q⟩:=h;cases x with
 | non=>
  cases O;cases y with
  | non=>cases z;exact PySem.EqNone.eq_none_none (qw I q ⋯)
  | bl j=>cases z;exact PySem.EqNone.eq_none_bool (qw I q ⋯)
  | int j=>obtain⟨t',rfl⟩:=z;exact PySem.EqNone.eq_none_int (qw I q ⋯)
  | str j=>obtain⟨t',rfl⟩:=z;exact PySem.EqNone.eq_none_str (qw I q ⋯)
  | _=>exact absurd (show false=true from J) zhf
 | bl i=>
  cases O;cases y with
  | non=>cases z;exact PySem.EqNone.eq_bool_none (qw I q ⋯)
  | bl j=>cases z;exact eq_bool (qw I q zdV)
  | str j=>obtain⟨t',rfl⟩:=z;exact PySem.EqMixed.eq_bool_str (qw I q ⋯)
  | _=>exact absurd (show false=true from J) zhf
 | int i=>
  obtain⟨t,rfl⟩:=O;cases y with
  | non=>cases z;exact PySem.EqNone.eq_int_none (qw I q ⋯)
  | int j=>obtain⟨t',rfl⟩:=z;exact eq_int (qw I q zbZ)
  | str j=>obtain⟨t',rfl⟩:=z;exact PySem.EqMixed.eq_int_str (qw I q ⋯)
  | _=>exact absurd (show false=true from J) zhf
 | str i=>
  obtain⟨t,rfl⟩:=O;cases y with
  | non=>cases z;exact PySem.EqNone.eq_str_none (qw I q ⋯)
  | bl j=>cases z;exact PySem.EqMixed.eq_str_bool (qw I q ⋯)
  | int j=>obtain⟨t',rfl⟩:=z;exact PySem.EqMixed.eq_str_int (qw I q ⋯)
  | str j=>obtain⟨t',rfl⟩:=z;exact eq_str (qw I q zbY)
  | _=>exact absurd (show false=true from J) zhf
 | byt i=>
  obtain⟨t,rfl⟩:=O;cases y with
  | byt j=>obtain⟨t',rfl⟩:=z;exact PySem.W.eq_bytes (qw I q zb0)
  | _=>exact absurd (show false=true from J) zhf
 | _=>cases y<;>exact absurd (show false=true from J) zhf
theorem zds:OpR X (compareOp .Gt) (rI0 λi j=> .bl (decide (j<i))):=zgI λ_ _ _ _ _ _ _ q=>gt_int q
theorem OpR.or{f:Value->Value->Sem Value}{r r':R2}(h:OpR X f r)(h':OpR X f r'):OpR X f (λx y H Q=>r x y H Q\/r' x y H Q):=by
 intro pins s σ H x y v u Q I z J q;rcases q with q | q
 ·exact h pins s σ H x y v u Q I z J q
 ·exact h' pins s σ H x y v u Q I z J q
theorem v9(b:Expr){z:CmpOp}(h:z ≠ .In:=by decide)(h2:z ≠ .NotIn:=by decide):behindInMarks z b=false:=by
 have e1:(z==CmpOp.In)=false:=by cases z<;>first | rfl | exact absurd rfl h
 have I:(z==CmpOp.NotIn)=false:=by cases z<;>first | rfl | exact absurd rfl h2
 cases b<;>simp [behindInMarks,e1,I]
theorem zbv{z:CmpOp}{r:R2}(J:OpR X (compareOp z) r)(ha:PE X a ta)(O:PE X b tb)(S:behindInMarks z b=false):PE X (.Compare a [z] [b] pos) (tOp r ta tb):=by
 intro pins s σ H Q I h;exact wpAny_Compare1 (zfH ha O I h λv u s2 x y H2 U Y Z q=>J pins s2 σ H2 x y v u Q U Y Z q) S
def zcD(t:TE):TT:=λσ H Q=>t σ H λx H'=>∃k,x = .bl k/\Q k H'
theorem KS{J:CmpOp}{r:R2}(O:OpR X (compareOp J) r)(ha:PE X a ta)(S:PE X b tb)(U:behindInMarks J b=false):PT X (.Compare a [J] [b] pos) (zcD (tOp r ta tb)):=by
 intro pins s σ H Q I h;refine wpAny_isTrue_Compare1 (thn (ha pins s σ H _ I h) λv s1 ⟨x,H1,Y,Z,q1⟩=>thn (S pins s1 σ H1 _ Y q1) λu s2 ⟨y,H2,I2,r2,q2⟩=>
  thn (O pins s2 σ H2 x y v u _ I2 Z r2 q2) λc s3 ⟨z,H3,I3,r3,k,e,q3⟩=>?_) U
 subst e;cases r3;exact zj6 ⟨H3,I3,q3⟩
def zgr(K:PySem.W.Frag)(x:V)(H:Hp)(k:Bool):Prop:=
 match x with
 | .non=>k=false
 | .bl b=>k=b
 | .int i=>k=(i != 0)
 | .str y=>y.length<=sizeLine/\k=((y.length:Int) != 0)
 | .byt y=>y.size<=sizeLine/\k=((y.size:Int) != 0)
 | .ref p=>(∃xs,SqL K H p xs/\k = !xs.isEmpty)\/(∃xs,SqT K H p xs/\k = !xs.isEmpty)\/∃kvs,H p=some (.dK kvs)/\k = !kvs.isEmpty
 | _=>False
theorem XQ{κ:Type}{kvs:List (κ×V)}{vs:List (κ×Value)}(r:KV kvs vs):(!vs.isEmpty) = !kvs.isEmpty:=by
 cases r<;>rfl
theorem wl{xs:List V}{z:List Value}(r:Vals xs z):(!z.toArray.isEmpty) = !xs.isEmpty:=by
 cases r<;>simp
theorem wb:(sizeLine:Nat)<2 ^ 63:=by rw [sizeLine_eq];decide
theorem zcA:zgT X (λx H Q=>∃k,zgr X.K x H k/\Q k H):=by
 intro pins s σ H x v Q I J h;obtain⟨k,e,q⟩:=h;have hl:=wb;have hs:sizeLine=16777216:=sizeLine_eq;cases x with
 | non=>
  cases J;have z:k=false:=e;subst z;exact truthy_none ⟨H,I,q⟩
 | bl b=>
  cases J;have z:k=b:=e;subst z;exact zj6 ⟨H,I,q⟩
 | int i=>
  obtain⟨t,rfl⟩:=J;have z:k=(i != 0):=e;subst z;exact PySem.P.truthy_int ⟨H,I,q⟩
 | str y=>
  obtain⟨t,rfl⟩:=J;obtain⟨U,z⟩:y.length<=sizeLine/\k=((y.length:Int) != 0):=e;subst z;exact PySem.P.truthy_str ⋯ ⟨H,I.tok _,q⟩
 | byt y=>
  obtain⟨t,rfl⟩:=J;obtain⟨U,z⟩:y.size<=sizeLine/\k=((y.size:Int) != 0):=e;subst z;exact PySem.W.truthy_bytes ⋯ ⟨H,I.tok _,q⟩
 | ref p=>
  cases J;have z:(∃xs,SqL X.K H p xs/\k = !xs.isEmpty)\/(∃xs,SqT X.K H p xs/\k = !xs.isEmpty)\/∃kvs,H p=some (.dK kvs)/\k = !kvs.isEmpty:=e;rcases z with⟨xs,hx,z⟩ | ⟨xs,hx,z⟩ | ⟨kvs,hx,z⟩
  ·subst z
   obtain⟨Y,r,pl,O⟩:=I.list hx;have S:=r.length;exact wpAny_truthy_list pl.isList (by simp only [zg9];omega) ⟨H,I.tok _,by rw [wl r];exact q⟩
  ·subst z
   obtain⟨Y,r,pl,O⟩:=I.tuple hx;have S:=r.length;exact truthy_tuple pl (by simp only [zg9];omega) ⟨H,I.tok _,by rw [wl r];exact q⟩
  ·subst z
   obtain⟨O,Z,vs,r,m⟩:kvs.length<=sizeLine/\(p==sysModules)=false/\∃vs,KV kvs vs/\s.heap.DictOf (JL X.prog X.w) p vs:=I.hok p _ hx;have S:kvs.length=vs.length:=Paired.length r;exact wpAny_truthy_dict Z m ⋯ ⟨H,I.tok _,by rw [XQ r];exact q⟩
 | _=>exact(show False from e).elim
theorem V0(ha:PE X a ta)(J : ∀z,isTrue a X.env z=(do let v <- z;standAt a.pos;holding [v] (truthy v))) :
 PT X a (λσ H Q=>ta σ H λx H'=>∃k,zgr X.K x H' k/\Q k H'):=by
 intro pins s σ H Q I h;exact isTrue_plain (thn (ha pins s σ H _ I h) λv s1 ⟨x,H1,O,S,U⟩=>zcA pins s1 σ H1 x v Q O S U) (J _)
theorem XD:OpR X (binaryOp .Add) (λx y H Q=>∃i j,x = .str i/\y = .str j/\i.length+j.length<=sizeLine/\Q (.str (i++j)) H):=by
 intro pins s σ H x y v u Q I z J h;obtain⟨i,j,rfl,rfl,O,q⟩:=h;obtain⟨t,rfl⟩:=z;obtain⟨t',rfl⟩:=J;exact add_str (λt' tk=>⟨.str (i++j),H,I.tok _,⟨_,rfl⟩,q⟩) O
theorem yJ{x:V}{us:List Value}(r:Vals [x] us) : ∃u,us=[u]/\RelV x u:=by
 cases r with
 | cons z r2=>cases r2;exact⟨_,rfl,z⟩
theorem zcp{x y:V}{us:List Value}(r:Vals [x,y] us) : ∃u w',us=[u,w']/\RelV x u/\RelV y w':=by
 cases r with
 | cons z r2=>
  cases r2 with
  | cons I J=>cases J;exact⟨_,_,rfl,z,I⟩
theorem Y5(J:X.calm=true):Zo X (.builtin "min") (λxs H Q=>∃i j,xs=[.int i,.int j]/\Q (.int (if j<i then j else i)) H):=by
 intro pins s σ H xs us Q I r h;obtain⟨i,j,rfl,q⟩:=h;obtain⟨u,w',rfl,⟨t,rfl⟩,⟨t',rfl⟩⟩:=zcp r;refine min_two_ints (I.ok.hd J) λh' tk k=>⟨_,H,I.kept k,?_,q⟩;by_cases z:j<i
 ·rw [if_pos z,if_pos z];exact⟨_,rfl⟩
 ·rw [if_neg z,if_neg z];exact⟨_,rfl⟩
theorem Y6:Zo X (.type "int") (λxs H Q=>(∃i,xs=[.int i]/\Q (.int i) H)\/∃k,xs=[.bl k]/\Q (.int (if k then 1 else 0)) H):=by
 intro pins s σ H xs us Q I r h;rcases h with⟨i,rfl,q⟩ | ⟨k,rfl,q⟩
 ·obtain⟨u,rfl,t,rfl⟩:=yJ r
  exact call_int_int ⟨.int i,H,I,⟨_,rfl⟩,q⟩
 ·obtain⟨u,rfl,z⟩:=yJ r
  cases z;exact call_int_bool ⟨.int (if k then 1 else 0),H,I.tok _,⟨_,rfl⟩,q⟩
end
structure ObjM(h:Heap)(x dx C:Addr)(mA:Str->Option Value):Prop where
 obj:h.get? x=some (PySem.W.instObj C dx)
 ns:h.Ns1 dx mA
 ne:dx≠x
theorem Yf{h:Heap}{dx:Addr}{mA:Str->Option Value}(n:h.Ns1 dx mA) : ∃od,h.get? dx=some od/\∀name,zj9 name od=some (mA name):=by
 obtain⟨o,es,ep,I,hd,J,_,O⟩:=n;refine⟨o,I,λname=>?_⟩;have e:=O name;unfold nsFind findBy at e;rw [<- Array.find?_toList]at e;unfold zj9;rw [hd];dsimp only;split
 ·rename_i y q
  rw [q]at e;exact congrArg some e
 ·rename_i q
  rw [q]at e;have a:es.toList.any (·.refKey)=false:=by
   rw [zjm];intro y Q;obtain⟨z,t,S⟩:=J y (Array.mem_toList_iff.mp Q);simp [DictEntry.refKey,S]
  have U : ¬es.toList.any (·.refKey)=true:=by rw [a];exact zhf
  rw [if_neg U];exact congrArg some e
theorem ObjM.look{h:Heap}{x dx C:Addr}{mA:Str->Option Value}(I:ObjM h x dx C mA) : ∃od,PySem.W.InstAt h x (PySem.W.instObj C dx) C (some od)/\∀name,zj9 name od=some (mA name):=
 let ⟨od,z,J⟩:=Yf I.ns
 ⟨od,⟨I.obj,rfl,rfl,z⟩,J⟩
section
variable{prog:Program}{w:World}{A:Around}{E:Value->Shared->Prop}{s:Shared}{K:PySem.W.Frag}{x dx C f:Addr}{mA:Str->Option Value}{name:Str}{v:Value}
theorem zbS{z:Bool}{Q:Value->Shared->Prop}(X:K.In s.heap)(I:ObjM s.heap x dx C mA)(O:PySem.W.plainGet K C name=true)(S:PySem.W.hasDictIn K C=true)
 (ha:PySem.W.findIn K (.ref C) name=some none) (U:mA name=some v) (Y:PySem.W.handedIn v=true) (h:Q v {s with toks:=s.toks+1}) :
 wpAny (model prog w) A (getAttr (.ref x) name z) Q E s:=by
 obtain⟨od,J,Z⟩:=I.look;exact PySem.W.get_value X J (zkf O).1 (PySem.W.findObj_own S ha rfl (by rw [Z,U])) Y h
theorem WE{pl:Sem Bool}{Q:Value×List Value->Shared->Prop}(X:K.In s.heap)(I:ObjM s.heap x dx C mA)(z:PySem.W.plainGet K C name=true)
 (O:PySem.W.findIn K (.ref C) name=some (some (.ref f))) (S:PySem.W.isFn K (.ref f)=true) (U:mA name=none) (h:Q (.ref f,[.ref x]) s) :
 wpAny (model prog w) A (getMethod (.ref x) name pl) Q E s:=by
 obtain⟨od,J,Y⟩:=I.look;exact PySem.W.method_fn X J (zkf z).1 (zkf z).2 O (beq_iff_eq.mp S) (by show(zj9 name od).map (·.isSome)=some false;rw [Y,U];rfl) h
theorem za3{ns:List Str}{Q:Unit->Shared->Prop}(X:K.In s.heap)(I:ObjM s.heap x dx C mA)
 (S:PySem.W.findIn K (.ref C) "__setattr__" = some (some (.builtin "object.__setattr__"))) (U:PySem.W.plainOver K C=true) (Y:PySem.W.takerIn K C name=some none) (Z:PySem.W.hasDictIn K C=true)
 (hw:zky mA ns) (hsz:ns.length<=sizeLine)
 (h : ∀h',ObjM h' x dx C (λy=>if y=name then some v else mA y)->ziD dx s.heap h'->Q () {s with heap:=h',toks:=s.toks+2}) :
 wpAny (model prog w) A (setAttr (.ref x) name v) Q E s:=by
 obtain⟨od,J,hl⟩:=I.look;refine PySem.W.set_plain X J S (PySem.W.osa_open (s:={s with toks:=s.toks+1}) (r:=none) X J U Y λb=>?_);obtain⟨cd,hc,a1⟩:=PySem.W.any_some Z;have hx:s.heap.get? x=some ⟨.ref C,some dx,.plain,#[]⟩:=I.obj;refine zgV (zg1 (zgV (zgV (wpAny_loadPart hx (zgV (PySem.W.Looks.here (s:={s with toks:=s.toks+1}) (PySem.W.looks_clsIn X hc) ?_))))));rw [a1];refine zg1 (a:=some dx) (zgV (zg1 (zgV ?_)));refine wpAny_nsSet1 (s:={s with toks:=s.toks+1}) I.ns λh' z O=>?_;obtain⟨oD,a7,a8,a2,a3,a4⟩:=z.count (zky.cons name v hw);refine zgV (wpAny_lookBehind a2 (by rw [a3];exact pastItsLine_dict (zh2 a4 (by rw [zhE];omega))) ?_);exact zg1 (h _ ⟨(O.2 _ (zhO I.ne)).trans I.obj,z,I.ne⟩ O)
theorem Ws{R:Result->Shared->Prop}{vs:List Value}{z:List (Str×Value)}(X:K.In s.heap)(I:PySem.W.makesIn K C=true)
 (hi:PySem.W.findIn K (.ref C) "__init__" = some (some (.ref f))) (J:zjC K (.ref f)=some (.type "function"))
 (h:codeAny (model prog w) (A.under (.builtin "type.__call__" ⟨.ref C::vs,z⟩)) (.call (.ref f) ⟨.ref (s.heap.objs.size+1)::vs,z⟩) (PySem.W.InitBack (s.heap.objs.size+1) R)
   {s with heap:=(s.heap.push zig).push (PySem.W.instObj C s.heap.objs.size)}) :
 codeAny (model prog w) A (.call (.ref C) ⟨vs,z⟩) R s:=by
 obtain⟨O,g,d,t,os⟩:=s;exact PySem.W.make_core (PySem.W.makes_of X I) (PySem.W.looks_findIn X hi) (λself=>PySem.W.bind_fn X self J) (.inl rfl) h
end
def wK(f:Str)(v:V):List (Str×V)->List (Str×V)
 | []=>[(f,v)]
 | (g,x)::r=>if g=f then (g,v)::r else (g,x)::wK f v r
theorem jU(f g:Str)(v:V) : ∀fs:List (Str×V),(wK f v fs).lookup g=if g=f then some v else fs.lookup g
 | []=>by
  show zi7 g [(f,v)]=_;by_cases h:g=f
  ·have z:(g==f)=true:=beq_iff_eq.mpr h
   simp only [zi7,z,if_pos h]
  ·have z:(g==f)=false:=beq_eq_false_iff_ne.mpr h
   simp only [zi7,z,if_neg h]
 | (k,x)::r=>by
  have J:=jU f g v r;rw [show wK f v ((k,x)::r)=(if k=f then (k,v)::r else (k,x)::wK f v r)from rfl];by_cases I:k=f
  ·rw [if_pos I]
   by_cases h:g=k
   ·have z:(g==k)=true:=beq_iff_eq.mpr h
    simp only [zi7,z,if_pos (h.trans I)]
   ·have z:(g==k)=false:=beq_eq_false_iff_ne.mpr h
    simp only [zi7,z,if_neg (λe:g=f=>h (e.trans I.symm))]
  ·rw [if_neg I]
   by_cases h:g=k
   ·have z:(g==k)=true:=beq_iff_eq.mpr h
    simp only [zi7,z,if_neg (λe:g=f=>I (h.symm.trans e))]
   ·have z:(g==k)=false:=beq_eq_false_iff_ne.mpr h
    simp only [zi7,z];exact J
theorem vf(f:Str)(v:V) : ∀fs:List (Str×V),f∈(wK f v fs).map (·.1)/\∀g,g∈fs.map (·.1)->g∈(wK f v fs).map (·.1)
 | []=>⟨by simp [wK],λg h=>by simp at h⟩
 | (k,x)::r=>by
  obtain⟨I,J⟩:=vf f v r;rw [show wK f v ((k,x)::r)=(if k=f then (k,v)::r else (k,x)::wK f v r)from rfl];by_cases z:k=f
  ·rw [if_pos z]
   subst z;exact⟨by simp,λg h=>by simpa using h⟩
  ·rw [if_neg z]
   refine⟨?_,λg h=>?_⟩
   ·rw [zhq]
    exact zhg _ I
   ·rw [zhq]at h ⊢
    rcases zhh.mp h with e | e
    ·exact zhh.mpr (.inl e)
    ·exact zhg _ (J g e)
theorem ve(f:Str)(v:V) : ∀fs:List (Str×V),(wK f v fs).length<=fs.length+1
 | []=>by simp [wK]
 | (k,x)::r=>by
  have I:=ve f v r;rw [show wK f v ((k,x)::r)=(if k=f then (k,v)::r else (k,x)::wK f v r)from rfl];by_cases z:k=f
  ·rw [if_pos z,zhE,zhE];omega
  ·rw [if_neg z,zhE,zhE];omega
theorem RelO.some_of{v:V}{o:Option Value}(r:RelO (some v) o) : ∃u,o=some u/\RelV v u:=by
 cases o with
 | none=>exact(show False from r).elim
 | some u=>exact⟨u,rfl,r⟩
theorem RelO.none_of{o:Option Value}(r:RelO none o):o=none:=by
 cases o with
 | none=>rfl
 | some u=>exact(show False from r).elim
theorem Yy{v:V}{u:Value}(r:RelV v u):PySem.W.handedIn u=true:=by
 cases v with
 | non=>cases (show u=zii from r);rfl
 | bl b=>cases (show u=Value.bool b from r);rfl
 | int i=>obtain⟨t,e⟩:=(show ∃t,u=Value.int i t from r);cases e;rfl
 | str x=>obtain⟨t,e⟩:=(show ∃t,u=Value.str x t from r);cases e;rfl
 | byt b=>obtain⟨t,e⟩:=(show ∃t,u=Value.bytes b t from r);cases e;rfl
 | flt b=>obtain⟨t,e⟩:=(show ∃t,u=Value.float b t from r);cases e;rfl
 | ref a=>cases (show u=zhv a from r);rfl
 | ty n=>cases (show u=zj8 n from r);rfl
section
variable{P:Program}{w:World}{H H':Hp}{h h':Heap}{a C dx:Addr}{fs fs':List (Str×V)}
theorem JS(hok:HOk P w H h)(e:H a=some (.ins C dx fs)) : ∃mA,ObjM h a dx C mA/\(∀f,RelO (fs.lookup f) (mA f))/\zky mA (fs.map (·.1))/\fs.length<=1000/\H dx=some (.own a):=by
 obtain⟨d,z,ne,ob,mA,n,r,q⟩:=(show ObjOk P w H h a (.ins C dx fs)from hok a _ e);exact⟨mA,⟨ob,n,ne⟩,r,q,z,d⟩
end
structure Cls(K:PySem.W.Frag)(C:Addr):Prop where
 pg:PySem.W.plainGet K C Str.empty=true
 hd:PySem.W.hasDictIn K C=true
 po:PySem.W.plainOver K C=true
 sa:PySem.W.findIn K (.ref C) "__setattr__" = some (some (.builtin "object.__setattr__"))
theorem Cls.get{K:PySem.W.Frag}{C:Addr}(c:Cls K C)(f:Str):PySem.W.plainGet K C f=true:=c.pg
def NoAttr(K:PySem.W.Frag)(C:Addr)(f:Str):Prop:=PySem.W.findIn K (.ref C) f=some none
theorem NoAttr.taker{K:PySem.W.Frag}{C:Addr}{f:Str}(n:NoAttr K C f):PySem.W.takerIn K C f=some none:=by
 unfold PySem.W.takerIn;rw [show PySem.W.findIn K (.ref C) f=some none from n];rfl
structure Meth(K:PySem.W.Frag)(C:Addr)(m:Str)(f:Addr):Prop where
 at_:PySem.W.findIn K (.ref C) m=some (some (.ref f))
 fn:PySem.W.isFn K (.ref f)=true
 kp:PySem.W.keepIn K (.ref f)=true
section
variable{X:Cx}{pins:List (Addr×Obj)}{σ:St}{H:Hp}{s:Shared}{a C dx:Addr}{fs:List (Str×V)}{f:Str}{v:V}{A:Around}{E:Value->Shared->Prop}
theorem XV{b:Bool}{Q:Value->Shared->Prop}(I:Inv X pins σ H s)(e:H a=some (.ins C dx fs))(c:Cls X.K C)(n:NoAttr X.K C f)(l:fs.lookup f=some v)
 (h : ∀u s',Inv X pins σ H s'->RelV v u->Q u s'):wpAny (model X.prog X.w) A (getAttr (.ref a) f b) Q E s:=by
 obtain⟨mA,O,r,_,_,_⟩:=JS I.hok e;obtain⟨u,J,z⟩:=RelO.some_of (v:=v) (o:=mA f) (by rw [<- l];exact r f);exact zbS I.kIn O (c.get f) c.hd n J (Yy z) (h u _ (I.tok _) z)
theorem XU{m:Str}{g:Addr}{pl:Sem Bool}{Q:Value×List Value->Shared->Prop}(I:Inv X pins σ H s)(e:H a=some (.ins C dx fs))(c:Cls X.K C)(k:Meth X.K C m g)(l:fs.lookup m=none)
 (h:Q (.ref g,[.ref a]) s):wpAny (model X.prog X.w) A (getMethod (.ref a) m pl) Q E s:=by
 obtain⟨mA,O,r,_,_,_⟩:=JS I.hok e;have z:mA m=none:=RelO.none_of (by rw [<- l];exact r m);exact WE I.kIn O (c.get m) k.at_ k.fn z h
theorem Xp{y:V}{u:Value}{Q:Unit->Shared->Prop}(I:Inv X pins σ H s)(e:H a=some (.ins C dx fs))(c:Cls X.K C)(n:NoAttr X.K C f)(hl:fs.length<1000)(U:RelV y u)
 (h : ∀s',Inv X pins σ (upd H a (.ins C dx (wK f y fs))) s'->Q () s'):wpAny (model X.prog X.w) A (setAttr (.ref a) f u) Q E s:=by
 obtain⟨mA,O,r,wi,_,S⟩:=JS I.hok e;have Y:(fs.map (·.1)).length<=sizeLine:=by rw [zhk,sizeLine_eq];omega
 refine za3 I.kIn O c.sa c.po n.taker c.hd wi Y λh' J Z=>h _ ?_;have hd : ∃o,h'.get? dx=some o:=let ⟨o,_,_,e',_⟩:=J.ns;⟨o,e'⟩;refine I.write (x:=a) (e:=dx) (by rw [e];exact True.intro) (.inr S) (λb q hb z=>(Z.2 b hb).trans z) hd ?_;refine⟨by rw [zH O.ne];exact S,?_,O.ne,J.obj,_,J.ns,λg=>?_,λg hg=>?_⟩
 ·have:=ve f y fs;omega
 ·show RelO ((wK f y fs).lookup g) (if g=f then some u else mA g)
  rw [jU];by_cases q:g=f
  ·rw [if_pos q,if_pos q];exact U
  ·rw [if_neg q,if_neg q];exact r g
 ·by_cases q:g=f
  ·rw [q];exact(vf f y fs).1
  ·refine(vf f y fs).2 g (wi g λz=>hg ?_)
   show(if g=f then some u else mA g)=none;rw [if_neg q];exact z
theorem Inv.made(I:Inv X pins σ H s):Inv X pins σ (upd (upd H s.heap.objs.size (.own (s.heap.objs.size+1))) (s.heap.objs.size+1) (.ins C s.heap.objs.size []))
 {s with heap:=(s.heap.push zig).push (PySem.W.instObj C s.heap.objs.size)}:=by
 have e1:(s.heap.push zig).get? s.heap.objs.size=some zig:=zg6 s.heap rfl;have z:((s.heap.push zig).push (PySem.W.instObj C s.heap.objs.size)).get? (s.heap.objs.size+1)=some (PySem.W.instObj C s.heap.objs.size):=by
  have:=zg6 (s.heap.push zig) (o:=PySem.W.instObj C s.heap.objs.size) rfl
  rwa [zhY]at this
 have J:(s.heap.push zig).Ns s.heap.objs.size (λ_=>none):=⟨zig,#[],_,e1,rfl,(λe O=>absurd O ⋯),λ_=>rfl⟩;have Q:=I.laid (a:=s.heap.objs.size) (o:= .own (s.heap.objs.size+1)) (h':=s.heap.push zig) (t':=s.toks) (λb u q=>zgY _ q) (zg3 _) ⟨_,e1⟩;refine Q.laid (a:=s.heap.objs.size+1) (o:= .ins C s.heap.objs.size []) (t':=s.toks) (λb u q=>zgY _ q) (Nat.le_of_eq (zhY _ _)) ?_;have ne:s.heap.objs.size≠s.heap.objs.size+1:=zhz (zif _);refine⟨by rw [zH ne,zE],zh7 _,ne,z,λ_=>none,(Heap.Ns1.of_empty J).at λo q=>zgY _ q,λ_=>True.intro,λy S=>absurd rfl S⟩
theorem zcb{prog:Program}{w:World}{env:Env}{e:Expr}{f:Str}{pos:Pos}{s:Shared}{Q:Value->Shared->Prop}(z:attributeBase e f env (eval e env)=eval e env)
 (h:wpAny (model prog w) A (eval e env) (λo I=>wpAny (model prog w) A (getAttr o f true) Q E I) E s):wpAny (model prog w) A (eval (.Attribute e f pos) env) Q E s:=
 Attribute_any_ h (by rw [arm_eval_Attribute,z])
end
def zeX(K:PySem.W.Frag)(ta:TE)(f:Str):TE:=λσ H Q=>ta σ H λx H1=>∃a C dx fs v,x = .ref a/\H1 a=some (.ins C dx fs)/\Cls K C/\NoAttr K C f/\fs.lookup f=some v/\Q v H1
def ze3(K:PySem.W.Frag)(ta tv:TE)(f:Str):TS:=λD σ H=>tv σ H λy H1=>ta σ H1 λx H2=>∃a C dx fs,x = .ref a/\H2 a=some (.ins C dx fs)/\Cls K C/\NoAttr K C f/\fs.length<1000/\
 D.nx σ (upd H2 a (.ins C dx (wK f y fs)))
section
variable{X:Cx}{o e value:Expr}{f:Str}{pos pos' tpos:Pos}{ta tv:TE}
theorem QB(z:PE X e ta)(J:attributeBase e f X.env (eval e X.env)=eval e X.env):PE X (.Attribute e f pos) (zeX X.K ta f):=by
 intro pins s σ H Q I h;refine zcb J (thn (z pins s σ H _ I h) λu s1 O=>?_);obtain⟨x,H1,S,U,a,C,dx,fs,v,ex,Y,c,n,l,q⟩:=O;subst ex;obtain rfl:u=zhv a:=U;exact XV S Y c n l λu' s2 Z ru=>⟨v,H1,Z,ru,q⟩
theorem zap(ha:PE X o ta)(z:PE X value tv)(J:swapsWith value (some (.Attribute o f pos')) pos.line X.env=pure false):PS X (.Assign [.Attribute o f pos'] value pos) (ze3 X.K ta tv f):=by
 intro pins s σ H D I h;refine plainObj_wpAny_Assign_Attribute (thn (z pins s σ H _ I h) λu s1 ⟨y,H1,O,Q,q⟩=>thn (ha pins s1 σ H1 _ O q) λS s2 ⟨x,H2,U,Y,a,C,dx,fs,ex,Z,c,n,l,q2⟩=>?_) J;subst ex;obtain rfl:S=zhv a:=Y;exact Xp U Z c n l Q λs3 I3=>⟨σ,_,I3,q2⟩
end
structure Room(k:Nat)(A:Around):Prop where
 hd:A.handled=none
 dp:A.depth+3*k+5<recursionLimit
 un:A.units+16*k+200<cLine
theorem Room.mono{j k:Nat}{A:Around}(r:Room k A)(h:j<=k):Room j A:=⟨r.hd,by have:=r.dp;omega,by have:=r.un;omega⟩
theorem Room.deeper{k:Nat}{A:Around}(r:Room (k+1) A)(env:Env):Room k (A.deeper env):=
 ⟨r.hd,by have:=r.dp;show A.depth+1+3*k+5<_;omega,by have:=r.un;show A.units+3+16*k+200<_;omega⟩
theorem XH{A:Around}{C:Addr}{us:List Value}{z:List (Str×Value)}:(A.under (.builtin "type.__call__" ⟨.ref C::us,z⟩)).depth=A.depth+1:=by
 first | rfl | simp [Around.under,Code.weight,Code.isCreation,Code.isGuard,Code.isCaller,Code.frames,Code.isFrame,guardIds]
theorem XG{A:Around}{C:Addr}{us:List Value}{z:List (Str×Value)}:(A.under (.builtin "type.__call__" ⟨.ref C::us,z⟩)).units=A.units+1:=by
 first | rfl | simp [Around.under,Code.cUnits,Code.frames,Code.isFrame]
theorem Room.make{k:Nat}{A:Around}(r:Room (k+1) A)(C:Addr)(us:List Value)(z:List (Str×Value)):Room k (A.under (.builtin "type.__call__" ⟨.ref C::us,z⟩)):=
 ⟨r.hd,by have:=r.dp;rw [XH];omega,by have:=r.un;rw [XG];omega⟩
theorem Room.depth{k:Nat}{A:Around}(r:Room k A):A.depth<recursionLimit:=by have:=r.dp;omega
def zch:TA:=λ_ H Q=>Q [] H
def yM(ta:TE)(z:TA):TA:=λσ H Q=>ta σ H λx H1=>z σ H1 λxs H2=>Q (x::xs) H2
section
variable{X:Cx}{e:Expr}{es:List Expr}{te:TE}{t:TA}{pos:Pos}
theorem jM:PA X [] zch:=λ_ _ _ _ H Q I h=>zjW ⟨[],H,I,.nil,h⟩
theorem zS(ha:PE X e te)(z:PA X es t)(J:starEach (e::es) X.env=(false,eval e X.env)::starEach es X.env:=by rfl):PA X (e::es) (yM te t):=by
 intro pos pins s σ H Q I h;rw [J];show wpAny _ _ (spliced ((false,eval e X.env)::backTo pos (starEach es X.env))) _ _ s;refine zi9 (thn (ha pins s σ H _ I h) λu s1 O=>?_);obtain⟨x,H1,S,U,Y⟩:=O;exact thn (z pos pins s1 σ H1 _ S Y) λus s2 ⟨xs,H2,Z,r2,q2⟩=>⟨x::xs,H2,Z,.cons U r2,q2⟩
def zgx(t:TA):TE:=λσ H Q=>t σ H λxs H1=>xs.length<=sizeLine/\∀p,H1 p=none->Q (.ref p) (upd H1 p (.tup xs))
def zgz(t:TA):TE:=λσ H Q=>t σ H λxs H1=>xs.length<=sizeLine/\∀p,H1 p=none->Q (.ref p) (upd H1 p (.lst xs))
theorem zdf{x1}(h:PA X es t):PE X (.Tuple es x1 pos) (zgx t):=by
 intro pins s σ H Q I O;refine wpAny_Tuple_spliced (thn (h pos pins s σ H _ I O) λus s1 ⟨xs,H1,J,r,z,q⟩=>⟨by rw [<- r.length];exact z,?_⟩);have S:H1 s1.heap.objs.size=none:=J.hok.fresh (zg3 _);refine⟨.ref s1.heap.objs.size,upd H1 s1.heap.objs.size (.tup xs),J.laid (t':=s1.toks) (λb u e=>zgY _ e) (zg3 _) ?_,rfl,q _ S⟩;exact⟨z,us,r,⟨_,zg6 _ rfl,rfl,_,rfl⟩⟩
theorem zdg(h:PA X es t):PE X (.List es pos) (zgz t):=by
 intro pins s σ H Q I O;refine wpAny_List_spliced (thn (h pos pins s σ H _ I O) λus s1 ⟨xs,H1,J,r,z,q⟩=>⟨by rw [<- r.length];exact z,?_⟩);have S:H1 s1.heap.objs.size=none:=J.hok.fresh (zg3 _);refine⟨.ref s1.heap.objs.size,upd H1 s1.heap.objs.size (.lst xs),J.laid (t':=s1.toks) (λb u e=>zgY _ e) (zg3 _) ?_,rfl,q _ S⟩;exact⟨z,us,0,r,zg6 _ rfl⟩
end
abbrev Sp:=List V->Hp->VK->XK->Prop
abbrev CXT:=List Env->Hp->Shared->XK->Value->Shared->Prop
structure Env0(P:Program)(w:World)(K:PySem.W.Frag)(mg:Str->Option Value)(base:Heap)(A:Around)(outer:List Env)(s:Shared)(H:Hp):Prop where
 frames:A.frames=some outer
 mod:Mod K mg base
 bs : ∀b o,base.get? b=some o->s.heap.get? b=some o/\H b=none
 bsz:base.objs.size<=s.heap.objs.size
 funs:s.heap.FunFrames base outer
 frf : ∀b∈frs outer,H b=none
 hok:HOk P w H s.heap
 bare:AllBare s.gens
def CE(outer:List Env)(P:Program)(w:World)(H:Hp)(s:Shared)(Q:VK)(u:Value)(s':Shared):Prop:=
 ∃v H',s'.os=s.os/\AllBare s'.gens/\Un (frs outer) [] H H' s.heap s'.heap/\HOk P w H' s'.heap/\RelV v u/\Q v H'
def CR(CX:CXT)(outer:List Env)(P:Program)(w:World)(H:Hp)(s:Shared)(Q:VK)(E:XK)(r:Result)(s':Shared):Prop:=
 match r with
 | .ok (.ret u)=>CE outer P w H s Q u s'
 | .ok _=>False
 | .error e=>CX outer H s E e s'
structure FnOk(P:Program)(w:World)(K:PySem.W.Frag)(mg:Str->Option Value)(base:Heap)(CX:CXT)(k:Nat)(f:Addr)(fd:FuncData)(ps:List Str)(sp:Sp):Prop where
 len : ∀vs H Q E,sp vs H Q E->vs.length=ps.length
 run : ∀(A:Around) (outer:List Env) (s:Shared) (H:Hp) (args:Args) (us:List Value) (vs:List V) (Q:VK) (E:XK),Room k A->Env0 P w K mg base A outer s H->BindsTo s fd args (ps.zip us)->Vals vs us->sp vs H Q E->
  codeAny (model P w) A (.call (.ref f) args) (CR CX outer P w H s Q E) s
theorem Env0.make{P:Program}{w:World}{K:PySem.W.Frag}{mg:Str->Option Value}{base:Heap}{A:Around}{outer:List Env}{s:Shared}{H:Hp}(e:Env0 P w K mg base A outer s H)(C:Addr)(us:List Value)(z:List (Str×Value)) :
 Env0 P w K mg base (A.under (.builtin "type.__call__" ⟨.ref C::us,z⟩)) outer s H:=⟨by first | exact e.frames | (simpa [Around.under,Code.envs,Code.isFrame,pushEnvs]using e.frames),e.mod,e.bs,e.bsz,e.funs,e.frf,e.hok,e.bare⟩
section
variable{X:Cx}{pins:List (Addr×Obj)}{σ:St}{H:Hp}{s s':Shared}
theorem Inv.env0(I:Inv X pins σ H s):Env0 X.prog X.w X.K X.mg X.base X.A X.stack s H:=
 ⟨I.ok.frames,I.ok.mod,I.bs,zh2 I.ok.bsz I.sz,I.stack,I.stkFree,I.hok,I.bare⟩
theorem Inv.after{Q:VK}{u:Value}(I:Inv X pins σ H s)(h:CE X.stack X.prog X.w H s Q u s'):EP X pins σ Q u s':=by
 obtain⟨v,H',os,bare,un,hok,r,q⟩:=h;obtain⟨J,g,d,t,O⟩:=s';obtain rfl:O=s.os:=os;exact⟨v,H',I.call (h':=J) (g':=g) (d':=d) (t':=t) (ch:=[]) un hok bare (λb z=>absurd z ⋯),r,q⟩
end
def VF(sp:Sp)(dvs:List V)(E:XK)(t:TA):TE:=λσ H Q=>t σ H λvs H1=>sp (vs++dvs) H1 Q E
def zeW(C:Addr)(m:Str)(sp:Sp)(dvs:List V)(E:XK)(ta:TE)(t:TA):TE:=λσ H Q=>ta σ H λx H1=>∃a dx fs,x = .ref a/\H1 a=some (.ins C dx fs)/\fs.lookup m=none/\
 t σ H1 λvs H2=>sp (x::(vs++dvs)) H2 Q E
def VD(C:Addr)(sp:Sp)(dvs:List V)(E:XK)(t:TA):TE:=λσ H Q=>t σ H λvs H1=>∀x dx,H1 x=none->H1 dx=none->dx≠x->
 sp (.ref x::(vs++dvs)) (upd (upd H1 dx (.own x)) x (.ins C dx [])) (λv H2=>v = .non/\Q (.ref x) H2) E
def Binds(K:PySem.W.Frag)(fd:FuncData)(ps:List Str)(ds:List Value):Prop:=
 ∀(s:Shared) (us:List Value),K.In s.heap->(us++ds).length=ps.length->BindsTo s fd ⟨us,[]⟩ (ps.zip (us++ds))
theorem Binds.all{K:PySem.W.Frag}{fd:FuncData}{ps:List Str}(h : ∀us:List Value,us.length=ps.length->bindArgs fd ⟨us,[]⟩=pure (ps.zip us)):Binds K fd ps []:=λs us _ z=>by
 rw [zkc]at z ⊢;exact .of_eq (h us z)
def wu(CX:CXT)(X:Cx)(E:XK):Prop:=∀(pins:List (Addr×Obj)) (σ:St) (H:Hp) (s:Shared) (e:Value) (s':Shared),Inv X pins σ H s->CX X.stack H s E e s'->X.xe e s'
section
variable{X:Cx}{CX:CXT}{k:Nat}{f C:Addr}{fd:FuncData}{ps:List Str}{sp:Sp}{dvs:List V}{ds:List Value}{E:XK}{x m:Str}{p pos apos:Pos}{e o:Expr}{es:List Expr}{ta:TE}{t:TA}
theorem zai{pins:List (Addr×Obj)}{σ:St}{H:Hp}{s:Shared}{Q:VK}{us:List Value}{vs:List V}(F:FnOk X.prog X.w X.K X.mg X.base CX k f fd ps sp)(J:Room k X.A)(O:Binds X.K fd ps ds)(hd:Vals dvs ds)(hx:wu CX X E)
 (I:Inv X pins σ H s) (r:Vals vs us) (h:sp (vs++dvs) H Q E):wpAny (model X.prog X.w) X.A (call (.ref f) us) (EP X pins σ Q) X.xe s:=by
 have r2:Vals (vs++dvs) (us++ds):=r.append hd;have S:(us++ds).length=ps.length:=by rw [<- r2.length];exact F.len _ _ _ _ h
 refine wpAny_call (zkr (F.run X.A X.stack s H ⟨us,[]⟩ (us++ds) (vs++dvs) Q E J I.env0 (O s us I.kIn S) r2 h) λr s' z=>?_);cases r with
 | error e=>exact hx pins σ H s e s' I z
 | ok U=>
  cases U with
  | ret u=>exact I.after z
  | next=>exact ziG z
  | brk=>exact ziG z
  | cont=>exact ziG z
theorem yW(F:FnOk X.prog X.w X.K X.mg X.base CX k f fd ps sp)(J:Room k X.A)(O:Gl X x)(S:X.mg x=some (.ref f))(U:PySem.W.keepIn X.K (.ref f)=true)(Y:Binds X.K fd ps ds)(hd:Vals dvs ds)(hx:wu CX X E)
 (ha:PA X (e::es) t) (Z:(x==("__debug__" : Str))=false:=by decide) (he:starEach (e::es) X.env=(false,eval e X.env)::starEach es X.env:=by rfl) (a1:(backTo pos (starEach es X.env)).any (·.1)=false:=by rfl) :
 PE X (.Call (.Name x p) (e::es) [] pos) (VF sp dvs E t):=by
 intro pins s σ H Q I h;refine zi0 (Yk I O S ?_ Z);refine zkk (h₀:=X.base) I.ok.mod.kin U (thn (ha pos pins s σ H _ I h) λus s1 ⟨vs,H1,z,r,q⟩=>⟨z.kIn,?_⟩) he a1;exact zai F J Y hd hx z r q
theorem zbu{pl:Sem Bool}(U:PE X o ta)(c:Cls X.K C)(z:Meth X.K C m f)(F:FnOk X.prog X.w X.K X.mg X.base CX k f fd ps sp)(Y:Room k X.A)(Z:Binds X.K fd ps ds)(hd:Vals dvs ds)(hx:wu CX X E)(ha:PA X (e::es) t)
 (a0:starEach (e::es) X.env=(false,eval e X.env)::starEach es X.env:=by rfl) (a1:(backTo pos (starEach es X.env)).any (·.1)=false:=by rfl)
 (ht:eval (.Call (.Attribute o m apos) (e::es) [] pos) X.env=(do
   let J <- eval o X.env
   standAt apos.atName
   let (f,first) <- holding [J] (getMethod J m pl)
   callWith pos f first (backTo pos (starEach (e::es) X.env)) (backToKw pos (keywordEach [] X.env))):=by rfl) :
 PE X (.Call (.Attribute o m apos) (e::es) [] pos) (zeW C m sp dvs E ta t):=by
 intro pins s σ H Q I h;refine PySem.W.methodCall_KW (pl:=pl) (thn (U pins s σ H _ I h) λu s1 hZ=>?_) ht;obtain⟨x,H1,O,rx,a,dx,fs,ex,ea,l,q⟩:=hZ;subst ex;obtain rfl:u=zhv a:=rx;refine XU O ea c z l ?_;refine zkk (first:=[.ref a]) (h₀:=X.base) I.ok.mod.kin z.kp (thn (ha pos pins s1 σ H1 _ O q) λus s2 ⟨vs,H2,S,r,q2⟩=>⟨S.kIn,?_⟩) a0 a1;exact zai (us:= .ref a::us) (vs:= .ref a::vs) F Y Z hd hx S (.cons rfl r) q2
structure Mk(K:PySem.W.Frag)(C f:Addr):Prop where
 makes:PySem.W.makesIn K C=true
 init:PySem.W.findIn K (.ref C) "__init__" = some (some (.ref f))
 fn:PySem.W.isFn K (.ref f)=true
 kp:PySem.W.keepIn K (.ref C)=true
theorem VT{pins:List (Addr×Obj)}{σ:St}{H:Hp}{s:Shared}{Q:VK}{us:List Value}{vs:List V}(M:Mk X.K C f)(F:FnOk X.prog X.w X.K X.mg X.base CX k f fd ps sp)(S:Room (k+1) X.A)(U:Binds X.K fd ps ds)(hd:Vals dvs ds)
 (hx:wu CX X E) (I:Inv X pins σ H s) (r:Vals vs us)
 (h : ∀x dx,H x=none->H dx=none->dx≠x->sp (.ref x::(vs++dvs)) (upd (upd H dx (.own x)) x (.ins C dx [])) (λv H2=>v = .non/\Q (.ref x) H2) E) :
 wpAny (model X.prog X.w) X.A (call (.ref C) us) (EP X pins σ Q) X.xe s:=by
 have O:=h (s.heap.objs.size+1) s.heap.objs.size (I.hok.fresh (Nat.le_succ _)) (I.hok.fresh (zg3 _)) (zhz (zif _));have J:=Inv.made (C:=C) I;have r2:Vals (V.ref (s.heap.objs.size+1)::(vs++dvs)) (zhv (s.heap.objs.size+1)::(us++ds)):= .cons rfl (r.append hd);have Y:(zhv (s.heap.objs.size+1)::us++ds).length=ps.length:=by
  have e:=r2.length;rw [F.len _ _ _ _ O]at e;exact e.symm
 refine wpAny_call (Ws (f:=f) I.kIn M.makes M.init (beq_iff_eq.mp M.fn) (zkr (F.run _ X.stack _ _ ⟨zhv (s.heap.objs.size+1)::us,[]⟩ (zhv (s.heap.objs.size+1)::(us++ds)) _ _ E (S.make C us [])
  (J.env0.make C us []) (U _ (zhv (s.heap.objs.size+1)::us) J.kIn Y) r2 O) λr s' z=>?_))
 cases r with
 | error e=>exact hx pins σ _ _ e s' J z
 | ok Z=>
  cases Z with
  | ret u=>
   obtain⟨v,H',I3,rv,ev,q3⟩:=J.after z;subst ev;exact⟨rv,⟨V.ref (s.heap.objs.size+1),H',I3,rfl,q3⟩⟩
  | next=>exact ziG z
  | brk=>exact ziG z
  | cont=>exact ziG z
theorem K6(M:Mk X.K C f)(F:FnOk X.prog X.w X.K X.mg X.base CX k f fd ps sp)(J:Room (k+1) X.A)(O:Gl X x)(S:X.mg x=some (.ref C))(U:Binds X.K fd ps ds)(hd:Vals dvs ds)(hx:wu CX X E)
 (ha:PA X (e::es) t) (Y:(x==("__debug__" : Str))=false:=by decide) (Z:starEach (e::es) X.env=(false,eval e X.env)::starEach es X.env:=by rfl) (a0:(backTo pos (starEach es X.env)).any (·.1)=false:=by rfl) :
 PE X (.Call (.Name x p) (e::es) [] pos) (VD C sp dvs E t):=by
 intro pins s σ H Q I h;refine zi0 (Yk I O S ?_ Y);refine zkk (h₀:=X.base) I.ok.mod.kin M.kp (thn (ha pos pins s σ H _ I h) λus s1 ⟨vs,H1,z,r,q⟩=>⟨z.kIn,?_⟩) Z a0;exact VT M F J U hd hx z r q
end
structure FnScope(N P:List Str)(sc:Scope):Prop where
 kind:sc.kind = .function
 co:sc.isCoroutine=false
 gen:sc.isGenerator=false
 nd:N.Nodup
 pre:N.take P.length=P
 par : ∀x∈P,sc.names.lookup x=some .local\/sc.names.lookup x=some .cell
 nofree : ∀y∈sc.names,y.2 ≠ .free
theorem Jb{kindOf:Str->Option NameKind}{x:Str} : ∀{binds:List (Str×Value)} {m:Str->Option Value},(∀v,(x,v)∉binds)->bindL kindOf binds m x=m x
 | [],_,_=>rfl
 | (n,v)::r,m,h=>by
  unfold bindL;rw [Jb λw hw=>h w (zhg _ hw)];split
  ·have:x≠n:=by rintro rfl;exact h v zhj
   simp [this]
  ·rfl
theorem Jd{kindOf:Str->Option NameKind}{x:Str} : ∀{binds:List (Str×Value)} {m:Str->Option Value},(∀v,(x,v)∉binds)->bindC kindOf binds m x=m x
 | [],_,_=>rfl
 | (n,v)::r,m,h=>by
  unfold bindC;rw [Jd λw hw=>h w (zhg _ hw)];split
  ·rfl
  ·have:x≠n:=by rintro rfl;exact h v zhj
   simp [this]
theorem Jc{kindOf:Str->Option NameKind}{x:Str}{v:Value} : ∀{P:List Str} {vs:List Value} {i:Nat} {m:Str->Option Value},P.Nodup->P[i]? = some x->vs[i]? = some v->kindOf x=some .local->
 bindL kindOf (P.zip vs) m x=some v
 | [],_,_,_,_,h,_,_=>by simp at h
 | _::_,[],_,_,_,_,h,_=>by simp at h
 | p::P,w::vs,0,m,nd,h1,h2,hk=>by
  simp at h1 h2;subst h1;subst h2;show bindL kindOf ((p,w)::P.zip vs) m p=_;unfold bindL;rw [Jb λv z=>(zjb.mp nd).1 (List.of_mem_zip z).1,if_pos hk];simp
 | p::P,w::vs,i+1,m,nd,h1,h2,hk=>by
  show bindL kindOf ((p,w)::P.zip vs) m x=_;unfold bindL;exact Jc (i:=i) (zjb.mp nd).2 (by simpa using h1) (by simpa using h2) hk
theorem Je{kindOf:Str->Option NameKind}{x:Str}{v:Value} : ∀{P:List Str} {vs:List Value} {i:Nat} {m:Str->Option Value},P.Nodup->P[i]? = some x->vs[i]? = some v->kindOf x≠some .local->
 bindC kindOf (P.zip vs) m x=some v
 | [],_,_,_,_,h,_,_=>by simp at h
 | _::_,[],_,_,_,_,h,_=>by simp at h
 | p::P,w::vs,0,m,nd,h1,h2,hk=>by
  simp at h1 h2;subst h1;subst h2;show bindC kindOf ((p,w)::P.zip vs) m p=_;unfold bindC;rw [Jd λv z=>(zjb.mp nd).1 (List.of_mem_zip z).1,if_neg hk];simp
 | p::P,w::vs,i+1,m,nd,h1,h2,hk=>by
  show bindC kindOf ((p,w)::P.zip vs) m x=_;unfold bindC;exact Je (i:=i) (zjb.mp nd).2 (by simpa using h1) (by simpa using h2) hk
def start(N:List Str)(vs:List V):St:=vs.map some++zg2 (N.length - vs.length) none
def zb2(CX:CXT)(P:Program)(w:World)(K:PySem.W.Frag)(mg:Str->Option Value)(base:Heap)(N:List Str)(qual:Str)(scope:Scope)(f:Addr)(z:Value)(A:Around)(outer:List Env)(s:Shared)(H:Hp)(E:XK):Cx where
 prog:=P
 w:=w
 K:=K
 mg:=mg
 base:=base
 A:=A.deeper (envOfC qual scope s.heap.objs.size f z)
 N:=N
 s₀:=s
 H₀:=H
 env:=envOfC qual scope s.heap.objs.size f z
 outer:=outer
 stack:=envOfC qual scope s.heap.objs.size f z::outer
 ex:=[]
 calm:=true
 fn:=λ_=>true
 pn:=[]
 xe:=λe s'=>wpAny (model P w) (A.deeper (envOfC qual scope s.heap.objs.size f z)) (leaving (envOfC qual scope s.heap.objs.size f z) e) (λ_ I=>CX outer H s E e I) (λJ I=>CX outer H s E J I) s'
theorem Q0{sc:Scope}{n:Nat}{x:Str}(h:sc.names.lookup x=some .cell) : ∃c,(cellsFrom n sc.names []).lookup x=some c:=by
 have q:=zja sc.names n [] (.inl h);exact zim.mp q
theorem Yt{CX:CXT}{P:Program}{w:World}{K:PySem.W.Frag}{mg:Str->Option Value}{base:Heap}{N ps:List Str}{qual:Str}{scope:Scope}{f:Addr}{Q:Value}{A:Around}{outer:List Env}{s s1:Shared}{H:Hp}{E:XK}{us:List Value}{vs:List V}
 (S:FnScope N ps scope) (hd:A.handled=none) (I:Env0 P w K mg base A outer s H) (hl:vs.length=ps.length) (r:Vals vs us)
 (x:InCallC s s.heap.objs.size (bindL (envOfC qual scope s.heap.objs.size f Q).kindOf (ps.zip us) λ_=>none) (cellsFrom (s.heap.objs.size+1) scope.names []) (bindC (envOfC qual scope s.heap.objs.size f Q).kindOf (ps.zip us) λ_=>none) s1) :
 Inv (zb2 CX P w K mg base N qual scope f Q A outer s H E) [] (start N vs) H s1:=by
 have a3:ps.length<=N.length:=by have:=congrArg List.length S.pre;rw [zi6]at this;omega
 obtain⟨h1,tk,rfl,Y⟩:=x.done;have U : ∀b:Addr,b∉(zb2 CX P w K mg base N qual scope f Q A outer s H E).ex:=λb z=>absurd (show b∈([]:List Addr)from z) ⋯;refine⟨⟨I.mod,S.kind,rfl,rfl,zg3 _,λy z c h1 h2=>?_,λy J=>?_,λy c _ h=>?_,λ_=>hd,Around.frames_deeper I.frames,.inr ⟨rfl,rfl⟩,λb z=>absurd z (U b),I.bs,I.bsz,λb _ _=>U b,λb z=>absurd z (U b),I.funs,I.frf⟩,
  rfl,I.bare,Un.kept Y,⟨_,x.toInCall.ns,λi y v h1 h2 h3=>?_⟩,λy c h=>⟨_,x.cell y c h⟩,I.hok.fresh (zg3 _),λy c h=>?_,λp O=>absurd (show p∈([]:List (Addr×Obj))from O) ⋯,I.hok.kept Y,?_⟩
 ·exact name_of_addr x.apart (zi5 h1) (zi5 h2)
 ·have J:scope.names.lookup y=some .cell\/scope.names.lookup y=some .free:=J
  rcases J with J | J
  ·exact Q0 J
  ·exact absurd rfl (S.nofree _ (zi5 J))
 ·exact zkh (x.above y c (zi5 h))
 ·have hi:i<vs.length:=by
   unfold start at h2;by_cases hi:i<vs.length
   ·exact hi
   ·rw [zhL (by simpa using hi)]at h2
    rw [zjd]at h2;split at h2<;>cases h2
  have ha:vs[i]? = some v:=by
   unfold start at h2;rw [zhX (by simpa using hi),zhD]at h2;cases e:vs[i]? with
   | none=>rw [e]at h2;cases h2
   | some a=>rw [e]at h2;cases h2;rfl
  obtain⟨u,Z,rv⟩:=r.get ha;have O:ps[i]? = some y:=by
   rw [<- S.pre,List.getElem?_take_of_lt ⋯];exact h1
  have a0:ps.Nodup:=by rw [<- S.pre];exact S.nd.sublist (List.take_sublist _ _)
  refine⟨u,rv,?_⟩;rcases S.par y (zit O)with k | k
  ·exact .inl ⟨k,Jc a0 O Z k⟩
  ·obtain⟨c,e⟩:=Q0 (n:=s.heap.objs.size+1) k
   refine .inr ⟨.inl k,c,e,?_⟩;have q:=x.cell y c e;rw [Je a0 O Z (by show scope.names.lookup y≠_;rw [k];decide)]at q;exact q
 ·exact I.hok.fresh (zkh (x.above y c (zi5 h)))
 ·unfold start
  show _=N.length;rw [zh3,zhk,List.length_replicate];omega
theorem zfv{CX:CXT}{P:Program}{w:World}{K:PySem.W.Frag}{mg:Str->Option Value}{base:Heap}{k:Nat}{f:Addr}{name qual:Str}{a0:Arguments}{body:List Stmt}{scope:Scope}{dV kV doc pm cdv ct oc:Value}{an od:Option Addr}
 {osl:Array (Option Value)} {N ps:List Str} {sp:Sp} (lk:K.lookup f=some ⟨oc,od,.func (PySem.W.fnOf name qual a0 body scope dV kV doc pm an cdv ct),osl⟩) (a5:PySem.W.codeIn K cdv qual=true) (S:FnScope N ps scope)
 (len : ∀vs H Q E,sp vs H Q E->vs.length=ps.length)
 (a6 : ∀(A:Around) (outer:List Env) (s:Shared) (H:Hp) (vs:List V) (Q:VK) (E:XK),Room k (A.deeper (envOfC qual scope s.heap.objs.size f cdv))->sp vs H Q E->
   ∃t,PSs (zb2 CX P w K mg base N qual scope f cdv A outer s H E) body t/\t {nx:=λ_ H'=>Q .non H',rt:=Q} (start N vs) H) :
 FnOk P w K mg base CX (k+1) f (PySem.W.fnOf name qual a0 body scope dV kV doc pm an cdv ct) ps sp:=by
 refine⟨len,λA outer s H args us vs Q E Y O hb r a2=>?_⟩;have hl:=len _ _ _ _ a2;have KX:K.In s.heap:=O.mod.kin.keeps λb o e=>(O.bs b o e).1;have lim:s.heap.NoLimit:=O.mod.nolimit.keeps λb o e=>(O.bs b o e).1;have a9 : ∀y∈ps.zip us,scope.names.lookup y.1=some .local\/(scope.names.lookup y.1=some .cell/\((cellsFrom (s.heap.objs.size+1) scope.names []).lookup y.1).isSome=true):=λ⟨n,v⟩ hy=>by
  rcases S.par n (List.of_mem_zip hy).1 with q | q
  ·exact .inl q
  ·exact .inr ⟨q,zja _ _ _ (.inl q)⟩
 refine codeAny_call_function Y.depth (KX _ _ lk) rfl S.co S.gen rfl (PySem.W.codeRec_of KX a5) (hb _ _ _ _ ?_);refine wpAny_newFunctionEnv_cells S.kind a9 λenv he s1 x=>?_;subst he;refine⟨lim.keeps x.toInCall.keep,codeAny_func ?_⟩;obtain⟨t,ht,hq⟩:=a6 A outer s H vs Q E (Y.deeper _) a2;have I:Inv (zb2 CX P w K mg base N qual scope f cdv A outer s H E) [] (start N vs) H s1:=Yt S Y.hd O hl r x;refine ziX (ht [] s1 (start N vs) H _ I hq) (λfl s' z=>?_) λe s' z=>z;have a4 : ∀{U:St} {H':Hp} {v:V} {u:Value},Inv (zb2 CX P w K mg base N qual scope f cdv A outer s H E) [] U H' s'->RelV v u->Q v H'->CE outer P w H s Q u s':=
  λ{U H' v u} J Z q=>⟨v,H',J.os,J.bare,J.base,J.hok,Z,q⟩
 cases fl with
 | ret u=>
  obtain⟨v,U,H',J,Z,q⟩:=z;exact a4 J Z q
 | next=>
  obtain⟨U,H',J,q⟩:=z;exact a4 (v:=V.non) (u:=zii) J rfl q
 | brk=>
  obtain⟨_,_,_,q⟩:=z;exact ziG q
 | cont=>
  obtain⟨_,_,_,q⟩:=z;exact ziG q
section
variable{X:Cx}{x:Str}{p pos:Pos}{e:Expr}{es:List Expr}{t:TA}{id T:String}{r:List V->Hp->VK->Prop}
def tCB(r:List V->Hp->VK->Prop)(t:TA):TE:=λσ H Q=>t σ H λvs H1=>r vs H1 Q
theorem kG(z:Zo X (.builtin id) r)(J:Gl X x)(O:X.mg x=none)(S:bootBuiltins x=some (.builtin id))(ha:PA X (e::es) t)(U:x ≠ "__name__":=by decide)(Y:(x==("__debug__" : Str))=false:=by decide)
 (Z:starEach (e::es) X.env=(false,eval e X.env)::starEach es X.env:=by rfl) (a0:(backTo pos (starEach es X.env)).any (·.1)=false:=by rfl):PE X (.Call (.Name x p) (e::es) [] pos) (tCB r t):=by
 intro pins s σ H Q I h;refine zi0 (xX I J O S ?_ U Y);exact PyProof.Rows.callWith_builtin1 (thn (ha pos pins s σ H _ I h) λus s1 ⟨vs,H1,I1,r1,q1⟩=>z pins s1 σ H1 vs us Q I1 r1 q1) Z a0
theorem ZN(z:Zo X (.type T) r)(J:Gl X x)(O:X.mg x=none)(S:bootBuiltins x=some (.type T))(ha:PA X (e::es) t)(U:x ≠ "__name__":=by decide)(Y:(x==("__debug__" : Str))=false:=by decide)
 (Z:starEach (e::es) X.env=(false,eval e X.env)::starEach es X.env:=by rfl) (a0:(backTo pos (starEach es X.env)).any (·.1)=false:=by rfl):PE X (.Call (.Name x p) (e::es) [] pos) (tCB r t):=by
 intro pins s σ H Q I h;refine zi0 (xX I J O S ?_ U Y);exact zhA (thn (ha pos pins s σ H _ I h) λus s1 ⟨vs,H1,I1,r1,q1⟩=>z pins s1 σ H1 vs us Q I1 r1 q1) Z a0
end
end L2
namespace HT
open PySem PyProof.Rows
section
variable{prog:Program}{w:World}{A:Around}{E:Value->Shared->Prop}{s:Shared}
theorem cat_tup{t b:Addr}{vs z:List Value}{Q:Value->Shared->Prop}(ht:IsTup s.heap t vs.toArray)(hb:IsTup s.heap b z.toArray)(O:vs ≠ [])
 (h1:z=[]->Q (.ref t) s) (h2:z ≠ []->Q (.ref s.heap.objs.size) {s with heap:=s.heap.push {cls:= .type "tuple",data:= .seq (vs++z).toArray}})
 (hsz:vs.length+z.length<=sizeLine):wpAny (model prog w) A (binaryOp .Add (.ref t) (.ref b)) Q E s:=by
 obtain⟨⟨cls,S,data,sl⟩,I,U,n,hd⟩:=id ht;obtain⟨⟨a5,Y,data2,Z⟩,J,a0,n2,a2⟩:=id hb;simp only at U hd a0 a2;subst U hd a0 a2;have e:vs.toArray++z.toArray=(vs++z).toArray:=by simp
 by_cases hw:z=[]
 ·exact zkR ⟨_,I,rfl⟩ ⟨_,J,rfl⟩ zkS seq_tuple_add zjY zjU (zjJ _ _)
   (tuple_addW1 t b vs.toArray z.toArray n n2 S Y sl Z (by simpa using O) (by simp [hw])) ⟨I,J,h1 hw⟩
 ·refine zkR ⟨_,I,rfl⟩ ⟨_,J,rfl⟩ zkS seq_tuple_add zjY zjU (zjJ _ _)
   (tuple_addW2 t b vs.toArray z.toArray n n2 S Y sl Z (by simpa using O) (by simpa using hw) (by rw [zg9,zg9];exact hsz)) ⟨I,J,?_⟩
  rw [e];exact h2 hw
def sIx(n d:Nat):Option Int->Nat
 | none=>d
 | some v=>if v<0 then (v+(n:Int)).toNat else min v.toNat n
theorem zcR(n d:Nat)(hd:d<=n)(o:Option Int):sIx n d o<=n:=by
 cases o with
 | none=>exact hd
 | some v=>
  show(if v<0 then (v+(n:Int)).toNat else min v.toNat n)<=n;by_cases z:v<0
  ·rw [if_pos z];omega
  ·rw [if_neg z];exact Nat.min_le_right _ _
theorem Y2(v:Int)(n d:Nat):(if v<0 then max (v+(n:Int)) 0 else min v (n:Int))=((sIx n d (some v):Nat):Int):=by
 show(if v<0 then max (v+(n:Int)) 0 else min v (n:Int))=(((if v<0 then (v+(n:Int)).toNat else min v.toNat n):Nat):Int);by_cases z:v<0
 ·simp only [if_pos z];omega
 ·simp only [if_neg z];omega
theorem X5(lo hi:Option Int)(n:Nat):zjv lo hi 1 (n:Int)=(((sIx n 0 lo:Nat):Int),((sIx n n hi:Nat):Int)):=by
 have h1 : ¬((1:Int)<0):=by omega
 unfold zjv;simp only [h1,if_false];refine Prod.ext ?_ ?_
 ·cases lo with
  | none=>rfl
  | some v=>exact Y2 v n 0
 ·cases hi with
  | none=>rfl
  | some v=>exact Y2 v n n
theorem Xz(i j:Nat):ziT (i:Int) (j:Int) 1=j - i:=by
 unfold ziT;have h1:(1:Int)>0:=by omega
 simp only [h1,if_true,Int.ediv_one];split<;>omega
theorem vV{v:Value}{o:Option Int}{Q:Option Int->Shared->Prop}(p:IsPart v o)(h:Q o s):wpAny (model prog w) A (Builtin.Slice.slicePartIndex v) Q E s:=by
 cases p with
 | none=>exact slicePart_none h
 | int i t=>exact slicePart_int h
theorem sliceApplied_gen{sl:Addr}{z I:Value}{lo hi:Option Int}{n:Nat}{Q:Int×Int×Nat->Shared->Prop}(S:s.heap.IsSliceOf sl z I .none)(pl:IsPart z lo)(U:IsPart I hi)
 (h:Q (((sIx n 0 lo:Nat):Int),1,sIx n n hi - sIx n 0 lo) s):wpAny (model prog w) A (Builtin.Slice.sliceApplied (.ref sl) (pure (n:Int))) Q E s:=by
 obtain⟨os,J,Y,O⟩:=id S;unfold Builtin.Slice.sliceApplied Builtin.Slice.sliceFields;refine zgV (zgV (zhR J O (x:=z) rfl (zgV (zhR J O (x:=I) rfl (zgV (zhR J O (x:= .none) rfl (zg1 ?_)))))));refine zgV (slicePart_none ?_);show wpAny _ _ (if ((1:Int)==0)=true then _ else _) _ _ s;rw [if_neg ⋯];refine zgV (vV pl (zgV (vV U (zgV (zg1 ?_)))));show wpAny _ _ (match zjv lo hi 1 (n:Int)with | (lo,hi)=>pure (lo,(1:Int),ziT lo hi 1)) _ _ s;rw [X5 lo hi n];show wpAny _ _ (pure (((sIx n 0 lo:Nat):Int),(1:Int),ziT ((sIx n 0 lo:Nat):Int) ((sIx n n hi:Nat):Int) 1)) _ _ s;rw [Xz];exact zg1 h
theorem V7(xs:Array Value)(i k:Nat):((zgX k).filterMap λ(m:Nat)=>xs[((i:Int)+(m:Int)*1).toNat]?).toArray=((xs.toList.drop i).take k).toArray:=by
 have e:(λ(m:Nat)=>xs[((i:Int)+(m:Int)*1).toNat]?)=λm=>xs[i+m]? :=by
  funext m;have:((i:Int)+(m:Int)*1).toNat=i+m:=by omega
  rw [this]
 rw [e];have:=pick_run xs i k;rw [List.filterMap_map]at this;have z:((λx=>xs[x]?)∘λx=>i+x)=λm=>xs[i+m]? :=rfl;rw [z]at this;rw [this]
theorem getItem_tuple_cut{t sl:Addr}{items:Array Value}{J O:Value}{lo hi:Option Int}{Q:Value->Shared->Prop}(z:IsTup s.heap t items)(S:s.heap.IsSliceOf sl J O .none)(pl:IsPart J lo)(U:IsPart O hi)
 (hw : ¬(sIx items.size 0 lo=0/\sIx items.size items.size hi=items.size))
 (h:Q (.ref s.heap.objs.size) {s with heap:=s.heap.push {cls:= .type "tuple",data:= .seq ((items.toList.drop (sIx items.size 0 lo)).take (sIx items.size items.size hi - sIx items.size 0 lo)).toArray}})
 (hsz:items.size<=sizeLine):wpAny (model prog w) A (getItem (.ref t) (.ref sl)) Q E s:=by
 have I:sizeOk (.seq ((items.toList.drop (sIx items.size 0 lo)).take (sIx items.size items.size hi - sIx items.size 0 lo)).toArray):=by
  show((items.toList.drop (sIx items.size 0 lo)).take (sIx items.size items.size hi - sIx items.size 0 lo)).toArray.size<=sizeLine;rw [zg9,zi6,List.length_drop,zib];omega
 have hj:sIx items.size items.size hi<=items.size:=zcR _ _ (zg3 _) hi;obtain⟨os,Y,Z,a3⟩:=id S;have a0:s.TypeIs (.ref sl) "slice":=⟨os,Y,Z⟩;unfold getItem
 try with_reducible refine zi3 ?_
 first | refine zgV (zg1 ?_) | skip
 refine zgV (wpAny_sequenceKey z.typeIs ⋯ ?_);refine zgV (zhN (name:=zhK "__getitem__") z.typeIs zh4
  (zhH zh4 z.typeIs entry_tuple_getitem ?_ (args_tuple_getitem _ _)))
 show wpAny _ _ (Builtin.Tuple.tupleItemsOf (.ref t) >>= _) _ _ s;refine zgV (zkd z ?_);refine zgV (zjh a0 ?_);rw [if_pos ⋯];refine zgV (sliceApplied_gen S pl U ?_);have a1 : ¬((((sIx items.size 0 lo:Nat):Int)==0 && (1:Int)==1 && (sIx items.size items.size hi - sIx items.size 0 lo)==items.size)=true):=by
  intro q;rw [Bool.and_eq_true,Bool.and_eq_true]at q;have q1:((sIx items.size 0 lo:Nat):Int)=0:=eq_of_beq q.1.1;have q2:sIx items.size items.size hi - sIx items.size 0 lo=items.size:=eq_of_beq q.2;exact hw ⟨by omega,by omega⟩
 show wpAny _ _ (if (((sIx items.size 0 lo:Nat):Int)==0 && (1:Int)==1 && (sIx items.size items.size hi - sIx items.size 0 lo)==items.size)=true then _ else _) _ _ s;rw [if_neg a1,V7]
 first
  | exact zgV (m:=zhW _) (zho (zg1 ⟨_,rfl,zg1 h⟩) I)
  | exact zgV (m:=zhW _) (zho (zgV (zg1 (zg1 ⟨_,rfl,zg1 h⟩))) I)
  | exact zgV (zgV (m:=zhW _) (zho (zg1 (zg1 ⟨_,rfl,zg1 h⟩)) I))
  | exact zgV (zgV (m:=zhW _) (zho (zg1 ⟨_,rfl,zg1 h⟩) I))
end
end HT
namespace L2
open PySem PySem.Spec PyProof.Rows
abbrev TO:=St->Hp->(Option Int->Hp->Prop)->Prop
def PO(X:Cx)(e:Option Expr)(t:TO):Prop:=
 ∀(pins:List (Addr×Obj)) (s:Shared) (σ:St) (H:Hp) (Q:Option Int->Hp->Prop),Inv X pins σ H s->t σ H Q->
  wpAny (model X.prog X.w) X.A (evalPart e X.env) (λu s'=>∃o H',Inv X pins σ H' s'/\IsPart u o/\Q o H') X.xe s
def zaP:TO:=λ_ H Q=>Q none H
def zeT(t:TE):TO:=λσ H Q=>t σ H λx H1=>∃i,x = .int i/\Q (some i) H1
section
variable{X:Cx}{e:Expr}{te:TE}{lo hi:Option Expr}{tl th:TO}{pos p2:Pos}
theorem zbo:PO X none zaP:=by
 intro pins s σ H Q I h;rw [evalPart_none];exact zg1 ⟨none,H,I,.none,h⟩
theorem zbn(h:PE X e te):PO X (some e) (zeT te):=by
 intro pins s σ H Q I hw;rw [evalPart_some];refine thn (h pins s σ H _ I hw) λu s1 z=>?_;obtain⟨x,H1,J,O,S⟩:=z;obtain⟨i,rfl,q⟩:=S;obtain⟨t,rfl⟩:=O;exact⟨some i,H1,J,.int i t,q⟩
def SlR(X:Cx)(r:V->Option Int->Option Int->Hp->VK->Prop):Prop:=
 ∀(pins:List (Addr×Obj)) (s:Shared) (σ:St) (H:Hp) (x:V) (v z I:Value) (lo hi:Option Int) (sl:Addr) (Q:VK),Inv X pins σ H s->RelV x v->s.heap.IsSliceOf sl z I .none->IsPart z lo->IsPart I hi->r x lo hi H Q->
  ∃T id,typeLookup (.type T) "__getitem__" = pure (some (.builtin id))/\s.TypeIs v T/\wpAny (model X.prog X.w) X.A (getItem v (.ref sl)) (EP X pins σ Q) X.xe s
def tSl(r:V->Option Int->Option Int->Hp->VK->Prop)(te:TE)(tl th:TO):TE:=λσ H Q=>te σ H λx H1=>tl σ H1 λl H2=>th σ H2 λu z=>r x l u z Q
theorem V9{r:V->Option Int->Option Int->Hp->VK->Prop}(U:SlR X r)(Y:PE X e te)(Z:PO X lo tl)(hu:PO X hi th):PE X (.Subscript e (.Slice lo hi none p2) pos) (tSl r te tl th):=by
 intro pins s σ H Q I h;refine Subscript_ (thn (Y pins s σ H _ I h) λv s1 hZ=>?_);obtain⟨x,H1,I1,r1,q1⟩:=hZ;refine wpAny_Slice (thn (Z pins s1 σ H1 _ I1 q1) λJ s2 ⟨l,H2,I2,pl,q2⟩=>thn (hu pins s2 σ H2 _ I2 q2) λO z ⟨u,S,I3,pu,q3⟩=>?_);rw [evalPart_none];refine zg1 ?_;have I4:Inv X pins σ S {z with heap:=z.heap.push {cls:= .type "slice",data:= .fields #[J,O,.none]}}:=I3.kept (t':=z.toks) λb ob q=>zgY _ q;obtain⟨T,id,hT,ht,hg⟩:=U pins {z with heap:=z.heap.push {cls:= .type "slice",data:= .fields #[J,O,.none]}} σ S x v J O l u z.heap.objs.size Q I4 r1 (Heap.IsSliceOf.new ..) pl pu q3;show wpAny (model X.prog X.w) X.A (subscriptTail e (.Slice lo hi none p2) v (.ref z.heap.objs.size)) (EP X pins σ Q) X.xe {z with heap:=z.heap.push {cls:= .type "slice",data:= .fields #[J,O,.none]}};exact tail_any (ops:=[.ref z.heap.objs.size,v]) ht hT hg (by with_unfolding_all rfl)
def zb3(xs:List V)(lo hi:Option Int):List V:=(xs.drop (HT.sIx xs.length 0 lo)).take (HT.sIx xs.length xs.length hi - HT.sIx xs.length 0 lo)
theorem J1(xs:List V)(lo hi:Option Int):(zb3 xs lo hi).length<=xs.length:=by
 unfold zb3;rw [zi6,List.length_drop];omega
def zgE(K:PySem.W.Frag):V->Option Int->Option Int->Hp->VK->Prop:=λx lo hi H Q=>∃a xs,x = .ref a/\SqT K H a xs/\
 ¬(HT.sIx xs.length 0 lo=0/\HT.sIx xs.length xs.length hi=xs.length)/\∀p,H p=none->Q (.ref p) (upd H p (.tup (zb3 xs lo hi)))
theorem zcL:SlR X (zgE X.K):=by
 intro pins s σ H x v vl vu lo hi sl Q I S U pl Y h;obtain⟨a,xs,rfl,hx,hw,q⟩:=h;cases S;obtain⟨Z,r,J,O⟩:=I.tuple hx;have z:Z.toArray.size=xs.length:=by rw [zg9];exact r.length.symm
 refine⟨"tuple",_,zh4.lookup,J.typeIs,?_⟩;refine HT.getItem_tuple_cut J U pl Y (by rw [z];exact hw) ?_ (by rw [z];exact O);rw [z];refine⟨.ref s.heap.objs.size,_,I.laid (t':=s.toks) (o:= .tup (zb3 xs lo hi)) (λb ob q=>zgY _ q) (zg3 _) ?_,rfl,q _ (I.hok.fresh (zg3 _))⟩;exact⟨zh2 (J1 xs lo hi) O,_,(r.drop (HT.sIx xs.length 0 lo)).take (HT.sIx xs.length xs.length hi - HT.sIx xs.length 0 lo),IsTupD.new _ _⟩
theorem Vals.nil_iff{xs:List V}{us:List Value}(r:Vals xs us):us=[]↔xs=[]:=by
 cases r with
 | nil=>simp
 | cons _ _=>simp
end
def ixN(n:Nat)(i:Int):Option Nat:=if 0<=i then (if i<n then some i.toNat else none)else if -(n:Int)<=i then some (i+n).toNat else none
def atI{α:Type}(xs:List α)(i:Int):Option α:=(ixN xs.length i).bind λj=>xs[j]?
theorem zbM{n:Nat}{i:Int}{j:Nat}(h:ixN n i=some j):seqIndex? i n=some j/\j<n/\ -(n:Int)<=i/\i<n:=by
 unfold ixN at h;by_cases z:0<=i
 ·rw [if_pos z]at h
  by_cases h1:i<n
  ·rw [if_pos h1]at h
   have e:i.toNat=j:=zhS h;exact⟨by rw [seqIndex_of z h1,e],by omega,by omega,h1⟩
  ·rw [if_neg h1]at h;cases h
 ·rw [if_neg z]at h
  by_cases h1 : -(n:Int)<=i
  ·rw [if_pos h1]at h
   have e:(i+n).toNat=j:=zhS h;exact⟨by rw [seqIndex_neg ⋯ h1,e],by omega,h1,by omega⟩
  ·rw [if_neg h1]at h;cases h
theorem J4{α:Type}{xs:List α}{i:Int}{v:α}(h:atI xs i=some v) : ∃j,seqIndex? i xs.length=some j/\xs[j]? = some v/\j<xs.length/\ -(xs.length:Int)<=i/\i<xs.length:=by
 unfold atI at h;cases e:ixN xs.length i with
 | none=>rw [e]at h;cases h
 | some j=>
  rw [e]at h;obtain⟨h1,h2,z,I⟩:=zbM e;exact⟨j,h1,h,h2,z,I⟩
def J8(b:Expr):Prop:=∀o i,subscripted b false o i=operate [o,i] (getItem o i)
def IxR(X:Cx)(r:R2):Prop:=
 ∀(value z:Expr) (pins:List (Addr×Obj)) (s:Shared) (σ:St) (H:Hp) (x y:V) (v u:Value) (Q:VK),Inv X pins σ H s->RelV x v->RelV y u->r x y H Q->
  subscripted z false v u=operate [v,u] (getItem v u)->wpAny (model X.prog X.w) X.A (subscriptTail value z v u) (EP X pins σ Q) X.xe s
def MtR(X:Cx)(id:String)(r:V->List V->Hp->VK->Prop):Prop:=
 ∀(pins:List (Addr×Obj)) (s:Shared) (σ:St) (H:Hp) (x:V) (xs:List V) (v:Value) (us:List Value) (Q:VK),Inv X pins σ H s->RelV x v->Vals xs us->r x xs H Q->
  wpAny (model X.prog X.w) X.A (call (.builtin id) (v::us)) (EP X pins σ Q) X.xe s
section
variable{X:Cx}{a b:Expr}{ta tb:TE}{pos:Pos}
theorem IxR.or{r r':R2}(h:IxR X r)(h':IxR X r'):IxR X (λx y H Q=>r x y H Q\/r' x y H Q):=by
 intro value z pins s σ H x y v u Q I J O q S;rcases q with q | q
 ·exact h value z pins s σ H x y v u Q I J O q S
 ·exact h' value z pins s σ H x y v u Q I J O q S
theorem zdh{r:R2}(z:IxR X r)(ha:PE X a ta)(J:PE X b tb)(O:J8 b):PE X (.Subscript a b pos) (tOp r ta tb):=by
 intro pins s σ H Q I h;exact Subscript_ (zfH ha J I h λv u s2 x y H2 S U Y q=>z a b pins s2 σ H2 x y v u Q S U Y q (O _ _))
def zgH(K:PySem.W.Frag):R2:=λx y H Q=>∃p xs i v,x = .ref p/\y = .int i/\SqL K H p xs/\atI xs i=some v/\Q v H
def zgF(K:PySem.W.Frag):R2:=λx y H Q=>∃p xs i v,x = .ref p/\y = .int i/\SqT K H p xs/\atI xs i=some v/\Q v H
def zgG:R2:=λx y H Q=>∃z i c,x = .str z/\y = .int i/\z.length<=sizeLine/\atI z.cps.toList i=some c/\Q (.str ⟨#[c]⟩) H
theorem ix_list:IxR X (zgH X.K):=by
 intro value a8 pins s σ H x y v u Q I Z ry h O;obtain⟨p,xs,i,z,rfl,rfl,hq,he,q⟩:=h;cases Z;obtain⟨t,rfl⟩:=ry;obtain⟨a3,r,pl,hz⟩:=I.list hq;obtain⟨j,h1,h2,h3,h4,h5⟩:=J4 he;obtain⟨w,S,a6⟩:=r.get h2;have hl:=r.length;have hn:=wb;have U:EP X pins σ Q w s:=⟨z,H,I,a6,q⟩;by_cases Y:0<=i
 ·have J:i.toNat=j:=by
   rw [seqIndex_of Y h5]at h1;exact zhS h1
  exact item_listR pl.isList Y ⋯ (by rw [J];simpa using S) U O
 ·have J:(i+(a3.toArray.size:Int)).toNat=j:=by
   rw [seqIndex_neg ⋯ h4]at h1;rw [zg9,<- hl];exact zhS h1
  exact subscriptTail_builtinR (x:=w) pl.isList.typeIs slot_list_getitem.lookup
   (wpAny_getItem_list_neg (Q:=λr s'=>r=w/\EP X pins σ Q r s') pl.isList ⋯ (by rw [zg9]<;>omega) ⋯ (by rw [J];simpa using S) ⟨rfl,U⟩) O
theorem zdH:IxR X (zgF X.K):=by
 intro value a3 pins s σ H x y v u Q I J O h S;obtain⟨p,xs,i,z,rfl,rfl,U,Y,q⟩:=h;cases J;obtain⟨t,rfl⟩:=O;obtain⟨a4,r,pl,hz⟩:=I.tuple U;obtain⟨j,h1,h2,h3,h4,h5⟩:=J4 Y;obtain⟨w,Z,a0⟩:=r.get h2;have hl:=r.length;have hn:=wb;have a2:EP X pins σ Q w s:=⟨z,H,I,a0,q⟩;exact subscriptTail_builtinR (x:=w) pl.typeIs slot_tuple_getitem.lookup
  (getItem_tuple (j:=j) (Q:=λr s'=>r=w/\EP X pins σ Q r s') pl ⋯ ⋯ (by rw [zg9,<- hl];exact h1) (by simpa using Z) ⟨rfl,a2⟩) S
theorem zdI:IxR X zgG:=by
 intro value a2 pins s σ H x y v u Q I J O h S;obtain⟨z,i,c,rfl,rfl,hz,U,q⟩:=h;obtain⟨t,rfl⟩:=J;obtain⟨t',rfl⟩:=O;obtain⟨j,h1,h2,h3,Y,Z⟩:=J4 U;have hl:z.cps.toList.length=z.length:=by simp [Str.length]
 rw [hl]at h1 Y Z;have hn:=wb;exact tail_any (typeIs_str s z t) slot_str_getitem.lookup (getItem_str (c:=c) (by
  have e1:decide (i < -(2 ^ 63:Int))=false:=decide_eq_false ⋯;have e2:decide (i>=2 ^ 63)=false:=decide_eq_false ⋯;rw [e1,e2,Bool.or_false]) (by rw [h1];simpa using h2) ⟨.str ⟨#[c]⟩,H,I.tok _,⟨_,rfl⟩,q⟩) S
theorem Z9:Zo X (.builtin "len") (λxs H Q=>∃p ys,xs=[.ref p]/\(SqL X.K H p ys\/SqT X.K H p ys)/\Q (.int ys.length) H):=by
 intro pins s σ H xs us Q I r h;obtain⟨p,ys,rfl,z,q⟩:=h;obtain⟨u,rfl,O⟩:=yJ r;cases O;have Y:=wb;rcases z with z | z
 ·obtain⟨S,r',pl,U⟩:=I.list z
  have J:=r'.length;exact Calls.call_len_list pl.isList (by simp only [zg9]<;>omega) ⟨.int ys.length,H,I.tok _,⟨s.toks+1,by rw [zg9,J]⟩,q⟩
 ·obtain⟨S,r',pl,U⟩:=I.tuple z
  have J:=r'.length;exact len_tuple pl (by simp only [zg9]<;>omega) ⟨.int ys.length,H,I.tok _,⟨s.toks+1,by rw [zg9,J]⟩,q⟩
theorem Z8:Zo X (.builtin "len") (λxs H Q=>∃z,xs=[.str z]/\z.length<=sizeLine/\Q (.int z.length) H):=by
 intro pins s σ H xs us Q I r h;obtain⟨z,rfl,J,q⟩:=h;obtain⟨u,rfl,t,rfl⟩:=yJ r;have O:=wb;exact len_str ⋯ ⟨.int z.length,H,I.tok _,⟨_,rfl⟩,q⟩
theorem Zf:Zo X (.type "tuple") (λxs H Q=>∃p ys,xs=[.ref p]/\((SqL X.K H p ys/\∀l,H l=none->Q (.ref l) (upd H l (.tup ys)))\/(SqT X.K H p ys/\Q (.ref p) H))):=by
 intro pins s σ H xs us Q I r h;obtain⟨p,ys,rfl,h⟩:=h;obtain⟨u,rfl,U⟩:=yJ r;cases U;rcases h with⟨z,q⟩ | ⟨z,q⟩
 ·obtain⟨J,r',pl,O⟩:=I.list z
  have Z:=r'.length;refine call_tuple_list pl.isList (λh' kp=>?_) (by simp only [zg9]<;>omega);have S:Inv X pins σ H {s with heap:=h'}:=I.kept (t':=s.toks) kp;have Y:Inv X pins σ (upd H h'.objs.size (.tup ys)) {s with heap:=h'.push {cls:= .type "tuple",data:= .seq J.toArray}}:=
   S.laid (t':=s.toks) (λb o e=>zgY _ e) (zg3 _) (show ObjOk X.prog X.w _ _ _ (.tup ys)from⟨O,J,r',IsTupD.new _ _⟩)
  exact⟨.ref h'.objs.size,_,Y,rfl,q _ (S.hok.fresh (zg3 _))⟩
 ·obtain⟨J,r',pl,O⟩:=I.tuple z
  exact call_tuple_same pl ⟨.ref p,H,I,rfl,q⟩
def tyV(K:PySem.W.Frag)(T:String)(x:V)(H:Hp):Prop:=match x with
 | .str _=>T = "str"
 | .int _=>T = "int"
 | .ref p=>(T = "list"/\∃xs,SqL K H p xs)\/(T = "tuple"/\∃o,K.lookup p=some o/\o.cls = .type "tuple"/\o.dict=none)\/
  (T = "dict"/\((∃kvs,H p=some (.dK kvs))\/∃kvs,H p=some (.dT kvs)))\/(T = "set"/\∃S n,H p=some (.set S n))
 | _=>False
theorem zcz{pins:List (Addr×Obj)}{σ:St}{H:Hp}{s:Shared}{T:String}{x:V}{v:Value}(I:Inv X pins σ H s)(r:RelV x v)(ty:tyV X.K T x H) :
 s.TypeIs v T/\∀a,v = .ref a->∃ob,s.heap.get? a=some ob/\ob.dict=none:=by
 cases x with
 | str z=>
  obtain⟨t,rfl⟩:=r;cases (show T = "str" from ty);exact⟨typeIs_str s z t,λ_ e=>nomatch e⟩
 | int i=>
  obtain⟨t,rfl⟩:=r;cases (show T = "int" from ty);exact⟨typeIs_int s i t,λ_ e=>nomatch e⟩
 | ref p=>
  cases r;rcases ty with⟨rfl,xs,Q⟩ | ⟨rfl,o,J,U,hd⟩ | ⟨rfl,J⟩ | ⟨rfl,S,n,J⟩
  ·obtain⟨Y,_,pl,_⟩:=I.list Q
   refine⟨pl.isList.typeIs,λa e=>?_⟩;cases e;obtain⟨o,n,e,c,hd,_⟩:=pl;exact⟨o,e,hd⟩
  ·refine⟨⟨o,I.kIn p o J,U⟩,λa e=>?_⟩
   cases e;exact⟨o,I.kIn _ o J,hd⟩
  ·have z : ∃o,s.heap.get? p=some o/\o.ExactDict:=by
    rcases J with⟨kvs,J⟩ | ⟨kvs,J⟩
    ·obtain⟨_,_,_,_,o,_,_,e,ex,_⟩:=I.hok p _ J
     exact⟨o,e,ex⟩
    ·obtain⟨_,_,_,_,o,_,_,e,ex,_⟩:=I.hok p _ J
     exact⟨o,e,ex⟩
   obtain⟨o,e,ex⟩:=z;refine⟨⟨o,e,ex.1⟩,λa O=>?_⟩;cases O;exact⟨o,e,ex.2.1⟩
  ·obtain⟨o,_,_,_,e,ex,_⟩:=I.hok p _ J
   refine⟨⟨o,e,ex.1⟩,λa O=>?_⟩;cases O;exact⟨o,e,ex.2.1⟩
 | _=>exact ziG ty
def tBM(K:PySem.W.Frag)(T:String)(r:V->List V->Hp->VK->Prop)(to:TE)(t:TA):TE:=λσ H Q=>to σ H λx H1=>tyV K T x H1/\t σ H1 λxs H2=>r x xs H2 Q
variable{o e:Expr}{es:List Expr}{to:TE}{t:TA}{name:Str}{apos cpos:Pos}{T id:String}{r:V->List V->Hp->VK->Prop}
theorem zdj(S:PlainAttrs T)(slot:Slot T name id)(U:typeOf (.builtin id)=pure (.type "method_descriptor"))(Y:MtR X id r)(Z:PE X o to)(ha:PA X (e::es) t)
 (a0:attributeBase o name X.env (eval o X.env)=eval o X.env:=by rfl)
 (a1:((backTo cpos (starEach (e::es) X.env)).all (λx=> !x.1) && (backToKw cpos (keywordEach [] X.env)).all (λx=>x.1.isSome)
   && decide ((e::es).length+([]:List Keyword).length+(if ([]:List Keyword).isEmpty then 0 else 1)<30))=true:=by rfl)
 (a2:(apos.endLine==cpos.line)=true:=by rfl) (hs:starEach (e::es) X.env=(false,eval e X.env)::starEach es X.env:=by rfl) (a4:(backTo cpos (starEach es X.env)).any (·.1)=false:=by rfl) :
 PE X (.Call (.Attribute o name apos) (e::es) [] cpos) (tBM X.K T r to t):=by
 intro pins s σ H Q I h;refine wpAny_Call_method_late a0 a1 a2 rfl (thn (Z pins s σ H _ I h) λv s1 hZ=>?_);obtain⟨x,H1,z,J,ty,q1⟩:=hZ;obtain⟨h1,h2⟩:=zcz z J ty;refine⟨T,id,S,slot,U,h1,h2,?_⟩;have O:=ha cpos pins s1 σ H1 _ z q1;rw [hs]at O ⊢;refine Calls.callWith_builtin (by show(false || (backTo cpos (starEach es X.env)).any (·.1))=false;rw [a4]<;>rfl) (Calls.evalArgs_plain ?_);exact thn O λus s2 ⟨vs,H2,I2,r2,q2⟩=>Y pins s2 σ H2 x vs v us Q I2 J r2 q2
end
def MtM(X:Cx)(id:String)(r:V->List V->Hp->VK->Prop):Prop:=
 ∀(pins:List (Addr×Obj)) (s:Shared) (σ:St) (H:Hp) (x:V) (xs:List V) (v:Value) (us:List Value) (Q:VK),Inv X pins σ H s->RelV x v->Vals xs us->r x xs H Q->
  wpAny (model X.prog X.w) X.A (call (.builtin id) (v::us)) (EP X pins σ Q) X.xe s
theorem Vals.one : ∀{x:V} {us:List Value},Vals [x] us->∃u,us=[u]/\RelV x u
 | _,_,.cons r .nil=>⟨_,rfl,r⟩
theorem Vals.dropLast{xs:List V}{us:List Value}(h:Vals xs us):Vals xs.dropLast us.dropLast:=by
 induction h with
 | nil=>exact .nil
 | cons r t z=>
  cases t with
  | nil=>exact .nil
  | cons q t'=>exact .cons r z
theorem Vals.reverse{xs:List V}{us:List Value}(h:Vals xs us):Vals xs.reverse us.reverse:=by
 induction h with
 | nil=>exact .nil
 | cons r t z=>rw [zjX,zjX];exact Vals.append z (.cons r .nil)
theorem Vals.rep{xs:List V}{us:List Value}(h:Vals xs us) : ∀k:Nat,Vals (zg2 k xs).flatten (zg2 k us).flatten
 | 0=> .nil
 | k+1=>by
  rw [zij,zij,ziK,ziK];exact Vals.append h (Vals.rep h k)
theorem Z4(z:List Value) : ∀(k:Nat) (acc:List Value),
 List.foldl (λx1 I=>x1++I) acc.toArray (zg2 k z.toArray)=(acc++(zg2 k z).flatten).toArray
 | 0,acc=>by simp
 | k+1,acc=>by
  have e:acc.toArray++z.toArray=(acc++z).toArray:=by simp
  have J:(acc++z)++(zg2 k z).flatten=acc++(zg2 (k+1) z).flatten:=by
   rw [zij,ziK,List.append_assoc]
  rw [<- J,<- Z4 z k (acc++z),<- e,zij,List.foldl_cons]
section
variable{X:Cx}{pins:List (Addr×Obj)}{σ:St}{H:Hp}{s:Shared}{l b:Addr}{xs ys zs:List V}
theorem Inv.lset{z its':List Value}{n:Nat}{f:Array Value->Array Value}{t':Nat}(I:Inv X pins σ H s)(J:H l=some (.lst xs))
 (e:s.heap.get? l=some {cls:= .type "list",data:= .seq z.toArray n}) (O:f z.toArray=its'.toArray) (Q:Vals ys its') (S:ys.length<=sizeLine) :
 Inv X pins σ (upd H l (.lst ys)) {s with heap:=s.heap.update l (zki f),toks:=t'}:=by
 have q:=PySem.IsL.update e f;rw [O]at q;refine I.write (x:=l) (e:=l) (by rw [J];exact trivial) (.inl rfl) (λZ u U Y=>(zjk s.heap (zki f) (zhO U)).trans Y) ⟨_,q⟩ ?_;exact⟨S,its',_,Q,q⟩
theorem Inv.lnew{z:List Value}{t':Nat}(I:Inv X pins σ H s)(J:Vals ys z)(O:ys.length<=sizeLine) :
 Inv X pins σ (upd H s.heap.objs.size (.lst ys)) {s with heap:=s.heap.push {cls:= .type "list",data:= .seq z.toArray},toks:=t'}:=
 I.laid (λ_ _ q=>zgY _ q) (zg3 _) ⟨O,z,0,J,zg6 _ rfl⟩
theorem Inv.fresh(I:Inv X pins σ H s):H s.heap.objs.size=none:=I.hok.fresh (zg3 _)
theorem Inv.lstM(I:Inv X pins σ H s)(O:H l=some (.lst xs)):xs.length<=sizeLine/\∃(J:List Value) (n:Nat),Vals xs J/\xs.length=J.length/\s.heap.get? l=some {cls:= .type "list",data:= .seq J.toArray n}:=by
 obtain⟨z,J,n,r,e⟩:=I.hok l _ O;exact⟨z,J,n,r,r.length,e⟩
theorem Wf{n:Nat}(h:n<=sizeLine):ziB n=false:=by
 unfold ziB;exact decide_eq_false ⋯
end
section
variable{X:Cx}
def KN:V->List V->Hp->VK->Prop:=λx vs H Q=>∃l xs y,x = .ref l/\vs=[y]/\H l=some (.lst xs)/\xs.length<sizeLine/\Q .non (upd H l (.lst (xs++[y])))
theorem Yc:MtM X "list.append" KN:=by
 intro pins s σ H x vs v us Q I S U h;obtain⟨l,xs,y,rfl,rfl,J,Z,q⟩:=h;cases S;obtain⟨u,rfl,Y⟩:=U.one;obtain⟨z,O,n,r,hl,e⟩:=I.lstM J;refine zj7 F.slot_list_append ⟨_,e,rfl⟩ F.entry_list_append (F.args_list_append_2 _ _) (PySem.list_append l O.toArray n u (by rw [zg9];omega)) ⟨e,?_⟩;refine⟨.non,_,I.lset (its':=O++[u]) J e ⋯ (r.append (.cons Y .nil)) ?_,rfl,q⟩;rw [zh3,zjt];omega
def zba:V->List V->Hp->VK->Prop:=λx vs H Q=>∃l b xs zs,x = .ref l/\vs=[.ref b]/\H l=some (.lst xs)/\H b=some (.lst zs)/\xs.length+zs.length<=sizeLine/\Q .non (upd H l (.lst (xs++zs)))
theorem Yb:MtM X "list.extend" zba:=by
 intro pins s σ H x vs v us Q I U Y h;obtain⟨l,b,xs,zs,rfl,rfl,S,Z,hz,q⟩:=h;cases U;obtain⟨u,rfl,ru⟩:=Y.one;cases ru;obtain⟨z,J,n,r,hl,e⟩:=I.lstM S;obtain⟨z2,O,n2,r2,a6,e2⟩:=I.lstM Z;have hsz:J.toArray.size+O.toArray.size<=sizeLine:=by rw [zg9,zg9];omega
 have a3 : ¬(!J.toArray.isEmpty && ziB (J.toArray.size+O.toArray.size))=true:=by
  rw [Wf hsz,Bool.and_false];exact zhf
 refine zj7 F.slot_list_extend ⟨_,e,rfl⟩ F.entry_list_extend (F.args_list_extend_2 _ _)
  (AutoSeq1.list_extend_list_list_0 l J.toArray n b O.toArray n2 a3 (by rw [zg9];omega) ⋯) ⟨e,e2,?_⟩
 refine⟨.non,_,I.lset (its':=J++O) S e ⋯ (r.append r2) ?_,rfl,q⟩;rw [zh3];omega
theorem Yj{α:Type}(xs:List α)(k:Nat):(zg2 k xs).flatten.length=k*xs.length:=by
 induction k with
 | zero=>simp
 | succ k z=>rw [zij,ziK,zh3,z,Nat.succ_mul,Nat.add_comm]
end
end L2
namespace Att
open PySem PySem.W PySem.Calls PyProof.Rows
theorem vg{P:Params}{h:Heap} : ∀(ns:List Int) (vs:List Value),WellAll P h vs (ns.map WData.int)->IntsAre vs ns:=by
 intro ns
 induction ns with
 | nil=>
  intro vs w;rw [List.map_nil]at w;cases w;exact .nil
 | cons n ns z=>
  intro vs w;rw [zhq]at w;cases w with
  | cons a b=>
   cases a;exact .cons _ _ (z _ b)
theorem Kv{l:OpenLaw}{n:Nat}(S:l.most=some n){P:Params}{h:Heap}{args:List WData}{J:List Value}
 (O:l.row.toRowW.claim.pre args=true) (U:WellAll P h J args) :
 ∃a vs ns,J=[zhv a]/\args=[WData.list (ns.map WData.int)]/\h.get? a=some {cls:= .type "list",data:= .seq vs.toArray}/\IntsAre vs ns/\ns.length<=n:=by
 have Y:WShape.hasAll [] args [.list .int]=true:=(pre_splitW O).1;have Q:l.pre.holds [] {args:=args}=true:=(pre_splitW O).2;obtain⟨d,r,rfl,h1,h2⟩:=hasAllW_cons Y;obtain rfl:=hasAllW_nil h2;obtain⟨xs,rfl,Z⟩:=hasW_list h1;obtain⟨ns,rfl⟩:=items_int Z;have a0:ns.length<=n:=by
  unfold OpenLaw.pre at Q;have z:(WTm.not (.lt (.lit (.int (n:Int))) (.len (.arg 0)))).holds [] {args:=[.list (ns.map .int)]}=true:=by
   have z:=(holds_andW Q).1;rw [S]at z;exact z
  have I:=condW_of z (w_not (w_lt w_lit (w_len_list (w_arg rfl))));rw [zhk]at I;refine Nat.le_of_not_lt λq=>?_;have q':(n:Int)<((ns.length:Nat):Int):=by omega
  first
   | (rw [decide_eq_true q']at I;exact absurd I ⋯)
   | (simp at I;omega)
 cases U with
 | cons w1 w2=>
  cases w2;cases w1 with
  | list ho a3=>exact⟨_,_,ns,rfl,rfl,ho,vg ns _ a3,a0⟩
theorem KY(l:OpenLaw)(args:List WData):l.row.toRowW.claim.post args (.bool true) args=true:=
 postW_of (r:=l.row.toRowW) (X:=(true==true))
  (show WShape.has [] (.bool true) .bool=true by first | rfl | decide | simp [WShape.has,WShape.arms,WShape.armsAll])
  (show(WTm.eq .res (.lit (.bool true))).value [] {args:=args,res:=some (.bool true),after:=args}=some (.bool (true==true))from w_eq_bool (w_res rfl) w_lit) rfl
theorem attach_call{l:OpenLaw}{n:Nat}{q:Program}{J:List Str}{O:(Str->Option Value)->Heap->Prop}{Q:World->Heap->Prop}{d:DefRec}
 (U:l.most=some n) (Z:d.params.defaults=[])
 (call : ∀(w:World) (s₀ z:Shared) (mg mb:Str->Option Value) (fa:Addr) (o:Obj) (pm I doc:Value) (a:Addr) (vs:List Value) (ns:List Int),
   Ground q J [] O w s₀ mg mb z.heap->Q w z.heap->
   z.heap.get? fa=some o->o.data = .func (docDef d.name d.params d.body d.scope pm I doc)->z.heap.CodeRec I d.name->mg d.name=some (.ref fa)->
   z.heap.get? a=some {cls:= .type "list",data:= .seq vs.toArray}->IntsAre vs ns->ns.length<=n->z.gens = #[]->
   codeAny (model l.prog w) callerA (.call (.ref fa) ⟨[.ref a],[]⟩) (λr s'=>r = .ok (.ret (.bool true))/\OldK z.heap s'.heap/\s'.os=z.os/\AllBare s'.gens) z) :
 WalkO q J O Q l.row.toRowW d [] (λf vs=>PySem.call f vs):=by
 intro w s₀ z mg mb G Y fa o pm I doc dV kV ho hd a2 S a3 hg args ae as a5 ag ah a6 ai;obtain rfl:dV = .none:=Dflts.none S Z;obtain rfl:kV = .none:=Dflts.noKw S;obtain⟨a,vs,ns,rfl,rfl,a7,a8,a9⟩:=Kv U a5 a6;refine enter_call (zkr (call w s₀ z mg mb fa o pm I doc a vs ns G Y ho (fd_plain hd) a2 a3 a7 a8 a9 hg) λr s' hq=>?_);obtain⟨rfl,h2,h3,h4⟩:=hq;exact⟨.inl ⟨.bool true,.bool true,[],rfl,λ_=>rfl,.bool true,KY l _,λ_=>⟨zi2.nil,λ_ hm=>(nomatch hm)⟩⟩,h2,h3,h4⟩
end Att
namespace L2
open PySem PySem.Spec PyProof.Rows
theorem kr : ∀{vs:List Value} {ns:List Int},IntsAre vs ns->Vals (ns.map V.int) vs
 | _,_,.nil=> .nil
 | _,_,.cons n t h=> .cons ⟨t,rfl⟩ (kr h)
def zeM(H:Hp):Prop:=∀b,H b=none\/∃o xs,H b=some (.frz o (.lst xs))
theorem Wv{P:Program}{w:World}{K:PySem.W.Frag}{mg mb:Str->Option Value}{CX:CXT}{k:Nat}{fa a:Addr}{fd:FuncData}{x:Str}{sp:Sp}{I:Shared}{vs:List Value}{ns:List Int}
 (U:K.In I.heap) (Y:I.heap.Ns mainGlobals mg) (J:I.heap.Ns builtinsNs mb) (a6 : ∀x:Str,x ≠ "__name__"->mb x=bootBuiltins x) (a7:I.heap.NoLimit) (hg:I.gens = #[])
 (ha:I.heap.get? a=some {cls:= .type "list",data:= .seq vs.toArray}) (hi:IntsAre vs ns) (Z:ns.length<=sizeLine) (hr:Room k callerA)
 (F : ∀base:Heap,K.In base->base.Ns mainGlobals mg->FnOk P w K mg base CX k fa fd [x] sp) (aa : ∀(s:Shared) (u:Value),BindsTo s fd ⟨[u],[]⟩ [(x,u)])
 (ab : ∀H:Hp,zeM H->SqL K H a (ns.map V.int)->sp [.ref a] H (λv _=>v = .bl true) λ_ _ _=>False)
 (ac : ∀H e s',CX [] H I (λ_ _ _=>False) e s'->False) :
 codeAny (model P w) callerA (.call (.ref fa) ⟨[.ref a],[]⟩) (λr s'=>r = .ok (.ret (.bool true))/\OldK I.heap s'.heap/\s'.os=I.os/\AllBare s'.gens) I:=by
 have rv:=kr hi;have ad:=hi.length;have a1 : ∀H:Hp,zeM H->SqL K H a (ns.map V.int)->HOk P w H I.heap->(∀b,H b≠none->b=a)->(H a≠none->K.lookup a=none)->
  codeAny (model P w) callerA (.call (.ref fa) ⟨[.ref a],[]⟩) (λr s'=>r = .ok (.ret (.bool true))/\OldK I.heap s'.heap/\s'.os=I.os/\AllBare s'.gens) I:=by
  intro H hO hS hok hA hK;have a4 : ∀{b:Addr} {o:Obj},I.heap.get? b=some o->H b=none->(WC I.heap H).get? b=some o:=λe n=>WB e n;have ag : ∀{b:Addr} {o:Obj} {es:Array DictEntry} {ep:Nat},I.heap.get? b=some o->o.data = .dict es ep->H b=none:=λ{b o es ep} e d=>by
   cases q:H b with
   | none=>rfl
   | some u=>
    have S:b=a:=hA b (by rw [q];simp);subst S;rw [ha]at e;cases e;have d':Data.seq vs.toArray _=Data.dict es ep:=d;cases d'
  have Q : ∀{b:Addr} {m:Str->Option Value},I.heap.Ns b m->(WC I.heap H).Ns b m:=λ{b m} ⟨o,es,ep,e,d,r⟩=>⟨o,es,ep,a4 e (ag e d),d,r⟩;have a5:K.In (WC I.heap H):=λb o e=>a4 (U b o e) (by
   cases q:H b with
   | none=>rfl
   | some u=>
    have S:b=a:=hA b (by rw [q];simp);subst S;rw [hK (by rw [q];simp)]at e;cases e)
  have hM:Mod K mg (WC I.heap H):=⟨a5,Q Y,⟨mb,Q J,a6⟩,let ⟨mc,h1,h2⟩:=a7;⟨mc,Q h1,h2⟩⟩;have e0:Env0 P w K mg (WC I.heap H) callerA [] I H:=⟨rfl,hM,λb o e=>zbE e,Nat.le_of_eq (Yw _ _),trivial,λb J=>absurd (show b∈([]:List Addr)from J) ⋯,hok,.of_eq hg⟩;refine zkr ((F _ a5 (Q Y)).run callerA [] I H ⟨[.ref a],[]⟩ [.ref a] [.ref a] _ _ hr e0 (aa I (.ref a)) (.cons rfl .nil) (ab H hO hS)) λr s' h=>?_;cases r with
  | error e=>exact(ac H e s' h).elim
  | ok fl=>
   cases fl with
   | next=>exact ziG h
   | brk=>exact ziG h
   | cont=>exact ziG h
   | ret u=>
    obtain⟨v,H',os,bare,un,al,r',q⟩:=h;have q':v = .bl true:=q;subst q';obtain rfl:u=Value.bool true:=r';refine⟨rfl,OldK.of_keep λb o e=>?_,os,bare⟩;cases q:H b with
    | none=>exact un.keep b o e q (by intro z;exact absurd (show b∈([]:List Addr)from z) ⋯) ⋯
    | some u=>
     rcases hO b with z | ⟨ob,xs,z⟩
     ·rw [q]at z;cases z
     ·have z2:=un.frzs b ob _ z
      obtain⟨e1,_⟩:=hok b _ z;obtain⟨e2,_⟩:=al b _ z2;rw [e]at e1;cases e1;exact e2
 cases hk:K.lookup a with
 | some o=>
  have e:=U a o hk;rw [ha]at e;cases e;refine a1 (λ_=>none) (λ_=> .inl rfl) (.inr ⟨_,vs.toArray,_,hk,rfl,rfl,rfl,by rw [zg9,ad];exact Z,by simpa using rv⟩) (λb u z=>by have O:(none:Option HO)=some u:=z;cases O) (λb z=>absurd rfl z) λz=>absurd rfl z
 | none=>
  refine a1 (λb=>if b=a then some (.frz {cls:= .type "list",data:= .seq vs.toArray} (.lst (ns.map V.int)))else none) (λb=>?_) (.inl (.inr ⟨{cls:= .type "list",data:= .seq vs.toArray},if_pos rfl⟩)) (λb u z=>?_) (λb z=>?_) λ_=>hk
  ·by_cases J:b=a
   ·exact .inr ⟨_,_,if_pos J⟩
   ·exact .inl (if_neg J)
  ·by_cases J:b=a
   ·have O:=(if_pos J).symm.trans z
    cases O;subst J;exact⟨ha,by rw [zhk];exact Z,vs,_,rv,ha⟩
   ·have O:=(if_neg J).symm.trans z
    cases O
  ·by_cases J:b=a
   ·exact J
   ·exact absurd (if_neg J) z
abbrev KOf{K:PySem.W.Frag}{h:Heap}(_:K.In h):PySem.W.Frag:=K
theorem zaM{l:PySem.W.OpenLaw}{n k:Nat}{q:Program}{O:List Str}{Q:(Str->Option Value)->Heap->Prop}{z:World->Heap->Prop}{d:DefRec}{K:Params->PySem.W.Frag}{CX:World->CXT}{sp:World->Sp}{x:Str}
 (S:l.most=some n) (U:n<=sizeLine) (Z:d.params.defaults=[]) (hr:Room k callerA)
 (hY : ∀(w:World) (h:Heap),z w h->(K w.params).In h)
 (F : ∀(w:World) (mg:Str->Option Value) (fa:Addr) (h:Heap),(K w.params).In h->h.Ns mainGlobals mg->mg d.name=some (.ref fa)->
   ∃fd:FuncData,(∀(s:Shared) (u:Value),BindsTo s fd ⟨[u],[]⟩ [(x,u)])/\
    ∀base:Heap,(K w.params).In base->base.Ns mainGlobals mg->FnOk l.prog w (K w.params) mg base (CX w) k fa fd [x] (sp w))
 (a2 : ∀(w:World) (H:Hp) (a:Addr) (ns:List Int),ns.length<=n->zeM H->SqL (K w.params) H a (ns.map V.int)->sp w [.ref a] H (λv _=>v = .bl true) λ_ _ _=>False)
 (a3 : ∀(w:World) (H:Hp) (s:Shared) (e:Value) (s':Shared),CX w [] H s (λ_ _ _=>False) e s'->False) :
 PySem.W.WalkO q O Q z l.row.toRowW d [] (λf vs=>PySem.call f vs):=by
 refine Att.attach_call S Z λw s₀ s₁ mg mb fa o pm cd doc a vs ns G Y ho hd af a5 a6 a7 I hg=>?_;have J:=hY w _ Y;obtain⟨fd,hb,hF⟩:=F w mg fa _ J G.T.g a5;exact Wv J G.T.g G.T.b G.T.builtins G.T.nolimit hg a6 a7 (zh2 I U) hr hF hb (λH hO hS=>a2 w H a ns I hO hS) λH e s'=>a3 w H s₁ e s'
theorem walk_ofK{l:PySem.W.OpenLaw}{n k:Nat}{q:Program}{I:List Str}{J:(Str->Option Value)->Heap->Prop}{z:World->Heap->Prop}{d:DefRec}{K:Params->PySem.W.Frag}{CX:CXT}{sp:PySem.W.Frag->Sp}{x:Str}
 (O:l.most=some n) (Q:n<=sizeLine) (S:d.params.defaults=[]) (U:Room k callerA)
 (Y : ∀(w:World) (h:Heap),z w h->(K w.params).In h)
 (F : ∀(w:World) (mg:Str->Option Value) (fa:Addr) (h:Heap),(K w.params).In h->h.Ns mainGlobals mg->mg d.name=some (.ref fa)->
   ∃fd:FuncData,(∀(s:Shared) (u:Value),BindsTo s fd ⟨[u],[]⟩ [(x,u)])/\
    ∀base:Heap,(K w.params).In base->base.Ns mainGlobals mg->FnOk l.prog w (K w.params) mg base CX k fa fd [x] (sp (K w.params)))
 (Z : ∀(K:PySem.W.Frag) (H:Hp) (a:Addr) (ns:List Int),ns.length<=n->zeM H->SqL K H a (ns.map V.int)->sp K [.ref a] H (λv _=>v = .bl true) λ_ _ _=>False)
 (a0 : ∀(H:Hp) (s:Shared) (e:Value) (s':Shared),CX [] H s (λ_ _ _=>False) e s'->False) :
 PySem.W.WalkO q I J z l.row.toRowW d [] (λf vs=>PySem.call f vs):=
 zaM (K:=K) (CX:=λ_=>CX) (sp:=λw=>sp (K w.params)) O Q S U Y F (λw H a ns h1 h2 h3=>Z (K w.params) H a ns h1 h2 h3) λ_ H s e s'=>a0 H s e s'
def defArgs(s:Stmt):Arguments:=match s with
 | .FunctionDef _ a _ _ _ _ _ _ _ _=>a
 | _=>{posonlyargs:=[],args:=[],vararg:=none,kwonlyargs:=[],kw_defaults:=[],kwarg:=none,defaults:=[]}
def defBody(s:Stmt):List Stmt:=match s with
 | .FunctionDef _ _ b _ _ _ _ _ _ _=>b
 | _=>[]
def defScope(s:Stmt):Scope:=match s with
 | .FunctionDef _ _ _ _ _ _ sc _ _ _=>sc
 | _=>{kind:= .function,names:=[],isGenerator:=false,isCoroutine:=false}
abbrev CX0:CXT:=λ_ _ _ _ _ _=>False
abbrev E0:XK:=λ_ _ _=>False
theorem ZO{X:Cx}:wu CX0 X E0:=λ_ _ _ _ _ _ _ h=>h.elim
structure Fun(K:PySem.W.Frag)(x qual:Str)(st:Stmt)(f:Addr)(fd:FuncData):Prop where
 ex : ∃(oc:Value) (od:Option Addr) (kV doc pm:Value) (an:Option Addr) (cdv ct:Value) (osl:Array (Option Value)),
  fd=PySem.W.fnOf x qual (defArgs st) (defBody st) (defScope st) .none kV doc pm an cdv ct/\K.lookup f=some ⟨oc,od,.func fd,osl⟩/\PySem.W.codeIn K cdv qual=true
 kp:PySem.W.keepIn K (.ref f)=true
section
variable{P:Program}{w:World}{K:PySem.W.Frag}{mg:Str->Option Value}{base:Heap}
theorem Fun.ok{x qual:Str}{st:Stmt}{f:Addr}{fd:FuncData}{N ps:List Str}{k:Nat}{sp:Sp}(F:Fun K x qual st f fd)(S:FnScope N ps (defScope st))(len : ∀vs H Q E,sp vs H Q E->vs.length=ps.length)
 (z : ∀(cdv:Value) (A:Around) (outer:List Env) (s:Shared) (H:Hp) (vs:List V) (Q:VK) (E:XK),Room k (A.deeper (envOfC qual (defScope st) s.heap.objs.size f cdv))->sp vs H Q E->
   ∃t,PSs (zb2 CX0 P w K mg base N qual (defScope st) f cdv A outer s H E).nox (defBody st) t/\t {nx:=λ_ H'=>Q .non H',rt:=Q} (start N vs) H):FnOk P w K mg base CX0 (k+1) f fd ps sp:=by
 obtain⟨oc,od,kV,doc,pm,an,cdv,ct,osl,rfl,lk,I⟩:=F.ex;refine zfv lk I S len λA outer s H vs Q E J O=>?_;obtain⟨t,h,q⟩:=z cdv A outer s H vs Q E J O;exact⟨t,h.nox,q⟩
theorem Fun.binds{x qual:Str}{st:Stmt}{f:Addr}{fd:FuncData}{ps:List Str}(F:Fun K x qual st f fd)
 (h : ∀(kV doc pm:Value) (an:Option Addr) (cdv ct:Value) (us:List Value),us.length=ps.length->bindArgs (PySem.W.fnOf x qual (defArgs st) (defBody st) (defScope st) .none kV doc pm an cdv ct) ⟨us,[]⟩=pure (ps.zip us)):Binds K fd ps []:=by
 obtain⟨oc,od,kV,doc,pm,an,cdv,ct,osl,rfl,lk,z⟩:=F.ex;exact .all (h kV doc pm an cdv ct)
theorem QP{x qual:Str}{st:Stmt}{f:Addr}{oc:Value}{od an:Option Addr}{osl:Array (Option Value)}{kV doc pm cdv ct:Value}(l:K.lookup f=some ⟨oc,od,.func (PySem.W.fnOf x qual (defArgs st) (defBody st) (defScope st) .none kV doc pm an cdv ct),osl⟩)
 (c:PySem.W.codeIn K cdv qual=true) (k:PySem.W.keepIn K (.ref f)=true):Fun K x qual st f (PySem.W.fnOf x qual (defArgs st) (defBody st) (defScope st) .none kV doc pm an cdv ct):=⟨⟨oc,od,kV,doc,pm,an,cdv,ct,osl,rfl,l,c⟩,k⟩
end
def Same(H H':Hp):Prop:=∀b o,H b=some o->H' b=some o
theorem Same.refl(H:Hp):Same H H:=λ_ _ h=>h
theorem Same.trans{H H1 H2:Hp}(a:Same H H1)(b:Same H1 H2):Same H H2:=λc o h=>b c o (a c o h)
theorem Same.free{H H':Hp}(e:Same H H'){l:Addr}(h:H' l=Option.none):H l=Option.none:=by
 cases q:H l with
 | none=>rfl
 | some o=>
  rw [e l o q]at h;cases h
theorem Same.seq{K:PySem.W.Frag}{H H':Hp}{a:Addr}{xs:List V}(e:Same H H')(h:SqL K H a xs):SqL K H' a xs:=by
 rcases h with(h | ⟨o,h⟩) | h
 ·exact .inl (.inl (e _ _ h))
 ·exact .inl (.inr ⟨o,e _ _ h⟩)
 ·exact .inr h
def Zq(cells:List (Str×Addr)):List (Str×NameKind)->List (Str×Addr)->List (Str×Addr)
 | [],acc=>acc
 | (n,k)::r,acc=>Zq cells r (if k==NameKind.free then (match cells.lookup n with | some c=>(n,c)::acc | none=>acc)else acc)
theorem xz{env:Env}(f:Str×NameKind->List (Str×Addr)->Sem (ForInStep (List (Str×Addr))))
 (I : ∀name kind J,f (name,kind) J=if kind==NameKind.free then (do let a <- cellOf env name;pure (.yield ((name,a)::J)))else pure (.yield J)) :
 ∀(names:List (Str×NameKind)) (acc:List (Str×Addr)),(∀n,(n,NameKind.free)∈names->∃c,env.cells.lookup n=some c)->
  forIn names acc f=(pure (Zq env.cells names acc):Sem _)
 | [],acc,_=>by rw [List.forIn_nil];rfl
 | (n,k)::r,acc,h=>by
  rw [List.forIn_cons,I];have O : ∀n,(n,NameKind.free)∈r->∃c,env.cells.lookup n=some c:=λm S=>h m (zhg _ S);unfold Zq;by_cases z:(k==NameKind.free)=true
  ·rw [if_pos z,if_pos z]
   have U:k=NameKind.free:=by simpa using z
   subst U;obtain⟨c,Q⟩:=h n zhj;have e:cellOf env n=pure c:=by unfold cellOf;rw [Q]
   rw [e,Q];exact xz f I r _ O
  ·rw [if_neg z,if_neg z]
   exact xz f I r acc O
theorem Zc{scope:Scope}{env:Env}(h : ∀n,(n,NameKind.free)∈scope.names->∃c,env.cells.lookup n=some c) :
 closureFor scope env=pure (Zq env.cells scope.names []):=by
 simp only [closureFor];rw [xz (env:=env) _ (λname kind z=>by cases hk:kind==NameKind.free<;>simp [hk]) scope.names [] h];rfl
theorem qK{M:Model}{A:Around}{E:Value->Shared->Prop}{s:Shared}{scope:Scope}{globals:Addr}{z:List (Str×Addr)}{qual:Str}{env:Env}{Q:Env->Shared->Prop}
 (I:Q {scope:=scope,locals:=s.heap.objs.size,globals:=globals,cells:=cellsFrom (s.heap.objs.size+1) scope.names z,qual:=qual,func:=none,code:=env.code,frame:=env.frame,builtins:=env.builtins}
   {s with heap:=pushCells (s.heap.push {cls:= .type "dict",data:= .dict #[]}) scope.names}) :
 wpAny M A (newFunctionEnv scope globals z [] qual none .none (some env)) Q E s:=by
 simp only [newFunctionEnv,Option.isSome_some,if_true];refine zgV (wpAny_alloc ?_);refine zgV (wpAny_layCells _ (λname kind cells=>by cases hkc:kind==ziH<;>simp [hkc]) _ _ _ _ ?_);rw [show({s with heap:=s.heap.push {cls:= .type "dict",data:= .dict #[]}}:Shared).heap.objs.size=s.heap.objs.size+1 from zhY ..];exact zgV (zg1 (zg1 I))
theorem QF{cells:List (Str×Addr)}{n:Str}{c:Addr} : ∀{names:List (Str×NameKind)} {acc:List (Str×Addr)},(n,c)∈Zq cells names acc->(n,c)∈acc\/((n,NameKind.free)∈names/\cells.lookup n=some c)
 | [],acc,h=> .inl h
 | (m,k)::r,acc,h=>by
  unfold Zq at h;rcases QF h with g | ⟨h1,h2⟩
  ·clear h
   by_cases z:(k==NameKind.free)=true
   ·rw [if_pos z]at g
    have I:k=NameKind.free:=by simpa using z
    subst I;cases e:cells.lookup m with
    | none=>rw [e]at g;exact .inl g
    | some J=>
     rw [e]at g;rcases zhh.mp g with g | g
     ·cases g;exact .inr ⟨zhj,e⟩
     ·exact .inl g
   ·rw [if_neg z]at g;exact .inl g
  ·exact .inr ⟨zhg _ h1,h2⟩
theorem y9{cells:List (Str×Addr)}{n:Str} : ∀{names:List (Str×NameKind)} {acc:List (Str×Addr)},((acc.lookup n).isSome=true\/((n,NameKind.free)∈names/\(cells.lookup n).isSome=true))->((Zq cells names acc).lookup n).isSome=true
 | [],acc,h=>by
  rcases h with h | ⟨h,_⟩
  ·exact h
  ·cases h
 | (m,k)::r,acc,h=>by
  unfold Zq;apply y9;by_cases z:(k==NameKind.free)=true
  ·rw [if_pos z]
   have J:k=NameKind.free:=by simpa using z
   subst J;cases e:cells.lookup m with
   | none=>
    rcases h with h | ⟨h1,h2⟩
    ·exact .inl h
    ·rcases zhh.mp h1 with h1 | h1
     ·cases h1;rw [e]at h2;cases h2
     ·exact .inr ⟨h1,h2⟩
   | some O=>
    dsimp only;by_cases I:n=m
    ·subst I;left;simp
    ·rcases h with h | ⟨h1,h2⟩
     ·left;rw [zhQ];split<;>simp_all
     ·rcases zhh.mp h1 with h1 | h1
      ·cases h1;exact absurd rfl I
      ·exact .inr ⟨h1,h2⟩
  ·rw [if_neg z]
   rcases h with h | ⟨h1,h2⟩
   ·exact .inl h
   ·rcases zhh.mp h1 with h1 | h1
    ·cases h1;exact absurd rfl z
    ·exact .inr ⟨h1,h2⟩
theorem qq{n:Str}{c:Addr} : ∀{names:List (Str×NameKind)} {k:Nat} {acc:List (Str×Addr)},(n,c)∈cellsFrom k names acc->(n,c)∈acc\/(k<=c/\(n,ziH)∈names)
 | [],_,_,h=> .inl h
 | (m,kd)::r,k,acc,h=>by
  unfold cellsFrom at h;split at h
  ·rename_i z
   have I:kd=ziH:=by simpa using z
   subst I;rcases qq h with h | ⟨h1,h2⟩
   ·rcases zhh.mp h with h | h
    ·cases h;exact .inr ⟨zg3 _,zhj⟩
    ·exact .inl h
   ·exact .inr ⟨by omega,zhg _ h2⟩
  ·rcases qq h with h | ⟨h1,h2⟩
   ·exact .inl h
   ·exact .inr ⟨h1,zhg _ h2⟩
theorem qY : ∀{names:List (Str×NameKind)} {k:Nat} {acc:List (Str×Addr)},(∀p∈acc,∀q∈acc,p.2=q.2->p.1=q.1)->(∀p∈acc,p.2<k)->
 ∀p∈cellsFrom k names acc,∀q∈cellsFrom k names acc,p.2=q.2->p.1=q.1
 | [],_,_,h,_=>h
 | (m,kd)::r,k,acc,h,hl=>by
  unfold cellsFrom;split
  ·refine qY (λp z q I e=>?_) (λp z=>?_)
   ·rcases zhh.mp z with rfl | z<;>rcases zhh.mp I with rfl | I
    ·rfl
    ·have J:k=q.2:=e
     exact absurd (J ▸ hl q I) (zhC _)
    ·have J:p.2=k:=e
     exact absurd (J ▸ hl p z) (zhC _)
    ·exact h p z q I e
   ·rcases zhh.mp z with rfl | z
    ·exact zif _
    ·exact zh0 (hl p z)
  ·exact qY h hl
theorem vi : ∀{names:List (Str×NameKind)} {h:Heap} {acc:List (Str×Addr)} {n:Str} {c:Addr},(n,c)∈cellsFrom h.objs.size names acc->(n,c)∈acc\/(pushCells h names).IsCell c none
 | [],_,_,_,_,z=> .inl z
 | (m,kd)::r,h,acc,n,c,z=>by
  unfold cellsFrom at z;unfold pushCells;split at z
  ·rename_i I
   rw [if_pos I];have e:h.objs.size+1=(h.push {cls:= .type "cell",data:= .cell none}).objs.size:=(zhY ..).symm;rw [e]at z;rcases vi z with z | z
   ·rcases zhh.mp z with z | z
    ·cases z
     have J:(h.push {cls:= .type "cell",data:= .cell none}).IsCell h.objs.size none:=⟨{cls:= .type "cell",data:= .cell none},zg6 _ rfl,rfl⟩;exact .inr (J.keeps λb o q=>zjT _ _ b o q)
    ·exact .inl z
   ·exact .inr z
  ·rename_i I
   rw [if_neg I];exact vi z
theorem xM{α:Type}{l:List (Str×α)}(nd:(l.map (·.1)).Nodup) : ∀{n:Str} {a:α},(n,a)∈l->l.lookup n=some a:=by
 induction l with
 | nil=>intro n a h;cases h
 | cons p r z=>
  intro n a h;obtain⟨m,b⟩:=p;rw [zhq,zjb]at nd;rw [zhQ];rcases zhh.mp h with h | h
  ·cases h;simp
  ·have I:(n==m)=false:=by
    have:n≠m:=λe=>nd.1 (by rw [<- e];exact zhr.mpr ⟨(n,a),h,rfl⟩);simpa using this
   rw [I];exact z nd.2 h
theorem xW(scope:Scope)(env:Env)(x:Str):(relabel scope env).names.lookup x =
 (scope.names.lookup x).map λk=>if (k==NameKind.free && env.scope.kind == .function && env.kindOf x==some .cell)then ziH else k:=by
 unfold relabel;dsimp only;generalize scope.names=l
 induction l with
 | nil=>rfl
 | cons p r I=>
  obtain⟨n,k⟩:=p;rw [zhq];cases hx:x==n with
  | true=>
   have e:x=n:=by simpa using hx
   subst e;rw [zhQ,zhQ];dsimp only;by_cases z:(k==NameKind.free && env.scope.kind == .function && env.kindOf x==some .cell)=true
   ·rw [if_pos z,beq_self_eq_true];dsimp only [zku];rw [if_pos z]
   ·rw [if_neg z,beq_self_eq_true];dsimp only [zku];rw [if_neg z]
  | false=>
   have : ∀J,zi7 x ((n,J)::(r.map λx=>match x with | (n,k)=>if (k==NameKind.free && env.scope.kind == .function && env.kindOf n==some .cell)=true then (n,ziH)else (n,k)))=zi7 x (r.map λx=>match x with | (n,k)=>if (k==NameKind.free && env.scope.kind == .function && env.kindOf n==some .cell)=true then (n,ziH)else (n,k)):=λJ=>by
    rw [zhQ,hx]
   rw [zhQ (k:=n),hx];dsimp only;split
   ·rw [this];exact I
   ·rw [this];exact I
def kS(scope:Scope)(env:Env)(L:Addr):Env:=
 {scope:=relabel scope env,locals:=L,globals:=env.globals,cells:=cellsFrom (L+1) scope.names (Zq env.cells scope.names []),qual:=env.qual,func:=none,code:=env.code,frame:=env.frame,builtins:=env.builtins}
def jg(X:Cx)(scope:Scope)(N':List Str)(fp:List Addr)(s2:Shared)(H2:Hp):Cx:=
 {X with N:=N',s₀:=s2,H₀:=H2,env:=kS scope X.env (s2.heap.objs.size+1),outer:=X.stack,stack:=X.stack,ex:=fp,fn:=λx=>scope.names.lookup x==some .cell,pn:=[],xe:=λ_ _=>False}
structure CompOk(X:Cx)(scope:Scope)(fr:List (Str×Nat)):Prop where
 kind:scope.kind = .function
 nd:(scope.names.map (·.1)).Nodup
 free : ∀p∈scope.names,p.2=NameKind.free->X.env.kindOf p.1=some .cell\/X.env.kindOf p.1=some .free
 fr : ∀p∈fr,scope.names.lookup p.1=some .free/\X.N[p.2]? = some p.1
def pull(own:List Str)(fr:List (Str×Nat))(σ:St):St:=own.map (λ_=>none)++fr.map λp=>(σ[p.2]?).join
abbrev JM:Obj:={cls:= .type "list",data:= .seq #[]}
abbrev zaD:Obj:={cls:= .type "dict",data:= .dict #[]}
theorem Wz{X:Cx}{pins:List (Addr×Obj)}{σ:St}{H2:Hp}{s2:Shared}{scope:Scope}{own:List Str}{fr:List (Str×Nat)}{fp:List Addr}(I:Inv X pins σ H2 s2)(ok:CompOk X scope fr)
 (a0 : ∀b∈fp,FpOk X pins H2 b) (ad : ∀b∈fp,∃o,s2.heap.get? b=some o) :
 Inv (jg X scope (own++fr.map (·.1)) fp s2 H2) [] (pull own fr σ) (upd H2 s2.heap.objs.size (.lst [])) {s2 with heap:=pushCells ((s2.heap.push JM).push zaD) scope.names}:=by
 have z1:(s2.heap.push JM).objs.size=s2.heap.objs.size+1:=zhY ..;have z2:((s2.heap.push JM).push zaD).objs.size=s2.heap.objs.size+2:=by rw [zhY,z1]
 have S : ∀n c,(n,c)∈Zq X.env.cells scope.names []->(n,NameKind.free)∈scope.names/\X.env.cells.lookup n=some c:=λn c h=>(QF h).resolve_left ⋯;have a6 : ∀n c,X.env.cells.lookup n=some c->c<s2.heap.objs.size:=λn c h=>by obtain⟨v,q⟩:=I.cell n c h;exact q.lt
 have ae : ∀p∈Zq X.env.cells scope.names [],p.2<s2.heap.objs.size+1+1:=λp O=>by
  exact zh0 (zh0 (a6 p.1 p.2 (S p.1 p.2 O).2))
 have hC:(kS scope X.env (s2.heap.objs.size+1)).cells=cellsFrom (s2.heap.objs.size+2) scope.names (Zq X.env.cells scope.names []):=rfl;have cells : ∀x c,(kS scope X.env (s2.heap.objs.size+1)).cells.lookup x=some c->((x,NameKind.free)∈scope.names/\X.env.cells.lookup x=some c)\/(s2.heap.objs.size+2<=c/\(x,ziH)∈scope.names):=λx c h=>by
  rcases qq (mem_of_lookup h)with h | h
  ·exact .inl (S x c h)
  ·exact .inr h
 have a7 : ∀x,(x,NameKind.free)∈scope.names->∃c,X.env.cells.lookup x=some c/\(kS scope X.env (s2.heap.objs.size+1)).cells.lookup x=some c:=λx hx=>by
  obtain⟨c,U⟩:=I.ok.has x (ok.free (x,.free) hx rfl);have h1:((Zq X.env.cells scope.names []).lookup x).isSome=true:=y9 (.inr ⟨hx,by rw [U];rfl⟩);have h2:=zja scope.names (s2.heap.objs.size+2) (Zq X.env.cells scope.names []) (.inr h1);obtain⟨c',a9⟩:=zim.mp h2;refine⟨c,U,?_⟩;rcases cells x c' a9 with⟨_,q⟩ | ⟨_,q⟩
  ·rw [U]at q;cases q;exact a9
  ·exact absurd ((xM ok.nd q).symm.trans (xM ok.nd hx)) ⋯
 have keep : ∀b o,s2.heap.get? b=some o->(pushCells ((s2.heap.push JM).push zaD) scope.names).get? b=some o:=λb o e=>
  zjT _ _ b o (zgY _ (zgY _ e))
 have aa : ∀b∈fp,b<s2.heap.objs.size:=λb J=>by obtain⟨o,e⟩:=ad b J;exact zhc e
 have fresh:H2 s2.heap.objs.size=none:=I.hok.fresh (zg3 _);have ab : ∀c,s2.heap.objs.size<c->(upd H2 s2.heap.objs.size (.lst [])) c=none:=λc U=>by
  rw [zH (zin U)];exact I.hok.fresh (zkh U)
 obtain⟨m0,ag⟩ : ∃m,(pushCells ((s2.heap.push JM).push zaD) scope.names).Ns (s2.heap.objs.size+1) m:=by
  have q:=(Heap.Ns.new (s2.heap.push JM) (.type "dict")).keeps (λb o e=>zjT scope.names _ b o e);rw [z1]at q;exact⟨_,q⟩
 refine⟨⟨I.ok.mod,ok.kind,I.ok.glob,I.ok.blt,Nat.le_succ _,λx y c h1 h2=>?_,λx hx=>?_,λx c hf h=>?_,I.ok.hd,I.ok.frames,.inl rfl,λb J=>⟨?_,λx c h z=>?_⟩,λb o e=>I.bs b o e,?_,λb o e J=>?_,λb J hs=>?_,I.stack,I.stkFree⟩,
  rfl,I.bare,Un.laid keep (zg3 _) fresh,⟨m0,ag,λi x v e1 Q e3=>?_⟩,λx c h=>?_,?_,λx c h=>?_,λp O=>?_,?_,?_⟩
 ·have q:=qY (names:=scope.names) (k:=s2.heap.objs.size+2) (acc:=Zq X.env.cells scope.names []) (λp O q hq e=>I.ok.inj p.1 q.1 p.2 (S _ _ O).2 (by rw [e];exact(S _ _ hq).2)) ae
  exact q (x,c) (mem_of_lookup h1) (y,c) (mem_of_lookup h2) rfl
 ·have Y:(relabel scope X.env).names.lookup x=some .cell\/(relabel scope X.env).names.lookup x=some .free:=hx
  have:scope.names.lookup x=some .cell\/scope.names.lookup x=some .free:=by
   rw [xW]at Y;cases e:scope.names.lookup x with
   | none=>rw [e]at Y;simp at Y
   | some k=>
    rw [e]at Y;cases k<;>simp at Y ⊢
  rcases this with h | h
  ·exact zim.mp (zja scope.names _ _ (.inl h))
  ·obtain⟨c,_,h2⟩:=a7 x (mem_of_lookup h);exact⟨c,h2⟩
 ·have ak:(scope.names.lookup x==some .cell)=true:=hf
  have al:scope.names.lookup x=some .cell:=by simpa using ak
  rcases cells x c h with⟨q,_⟩ | ⟨q,_⟩
  ·exact absurd ((xM ok.nd q).symm.trans al) ⋯
  ·exact zh2 (zh8 _ 2) q
 ·exact zhz (zh0 (aa b J))
 ·rcases cells x c h with⟨_,q⟩ | ⟨q,_⟩
  ·exact(a0 b J).2.2.2.2.1 x c q z
  ·exact absurd (zhl (aa b J) (zh2 (zh8 _ 2) (z ▸ q))) (zhC _)
 ·exact zh2 I.ok.bsz I.sz
 ·rcases (a0 b J).2.2.2.1 with q | q
  ·exact I.ok.noex b o e q
  ·exact absurd (zhl (zhc e) (zh2 I.ok.bsz q)) (zhC _)
 ·rcases zhh.mp (I.stkSub b hs)with q | q
  ·exact(a0 b J).2.1 q
  ·exact(a0 b J).2.2.1 q
 ·have hi:i<(own++fr.map (·.1)).length:=(zhe.mp e1).1
  by_cases a3:i<own.length
  ·unfold pull at Q
   rw [zhX (by simpa using a3)]at Q;simp [zhD,a3]at Q
  ·have hj : ∃p,fr[i - own.length]? = some p/\p.1=x/\(σ[p.2]?).join=some v:=by
    unfold pull at Q;have Z:(own++fr.map (·.1))[i]? = some x:=e1;rw [zhL ⋯,zhD]at Z;rw [zhL (by simpa using a3),zhD,zhk]at Q;cases q:fr[i - own.length]? with
    | none=>rw [q]at Z;cases Z
    | some p=>
     rw [q]at Z Q;exact⟨p,rfl,by simpa using Z,by simpa using Q⟩
   obtain⟨p,O,an,a1⟩:=hj;obtain⟨g1,g2⟩:=ok.fr p (zit O);rw [an]at g1 g2;have hσ:σ[p.2]? = some (some v):=by
    cases q:σ[p.2]? with
    | none=>rw [q]at a1;cases a1
    | some o=>rw [q]at a1;simpa using a1
   have ac:=ok.free (x,.free) (mem_of_lookup g1) rfl;obtain⟨m,hn,hl⟩:=I.loc;obtain⟨u,ru,lk⟩:=hl p.2 x v g2 hσ (by rcases ac with k | k;exact .inr (.inl k);exact .inr (.inr k));refine⟨u,ru,.inr ?_⟩;obtain⟨c,ar,as⟩:=a7 x (mem_of_lookup g1);have au:s2.heap.IsCell c (some u):=by
    rcases lk with⟨k,_⟩ | ⟨_,c',e,z⟩
    ·rcases ac with k' | k'<;>rw [k]at k'<;>cases k'
    ·rw [ar]at e;cases e;exact z
   refine⟨?_,c,as,au.keeps keep⟩;show(relabel scope X.env).names.lookup x=some .cell\/(relabel scope X.env).names.lookup x=some .free;rw [xW,g1];dsimp only [zku];split
   ·exact .inl rfl
   ·exact .inr rfl
 ·rcases qq (mem_of_lookup h)with q | q
  ·obtain⟨v,w'⟩:=I.cell x c (S x c q).2
   exact⟨v,w'.keeps keep⟩
  ·have q2:=mem_of_lookup h
   have q3:(x,c)∈cellsFrom ((s2.heap.push JM).push zaD).objs.size scope.names (Zq X.env.cells scope.names []):=by rw [z2];exact q2
   rcases vi q3 with q4 | q4
   ·obtain⟨v,w'⟩:=I.cell x c (S x c q4).2
    exact⟨v,w'.keeps keep⟩
   ·exact⟨none,q4⟩
 ·exact ab _ (zif _)
 ·rcases cells x c h with⟨_,q⟩ | ⟨q,_⟩
  ·rw [zH (zhz (a6 x c q))];exact I.freeC x c q
  ·exact ab c (zhl (zh0 (zif _)) q)
 ·exact absurd (show p∈([]:List (Addr×Obj))from O) ⋯
 ·refine I.hok.laid keep (zg3 _) ⟨zh7 _,[],0,.nil,?_⟩
  exact zjT _ _ _ _ (zgY _ (zg6 _ rfl))
 ·show(pull own fr σ).length=(own++fr.map (·.1)).length
  simp [pull]
theorem xT{prog:Program}{w:World}{A:Around}{R:Result->Shared->Prop}{s:Shared}{elt J iter:Expr}{ifs:List Expr}{scope:Scope}{pos:Pos}{it acc:Value}{env:Env}(I:Nat->Shared->Prop)
 (a0 : ∀n s,I n s->wpAny (model prog w) A (pyNext it) (λr z=>match r with
   | none=>R (.ok .next) z
   | some v=>wpAny (model prog w) A (letOwnedTupleGo J it v) (λ_ z=>wpAny (model prog w) A (assign J env v) (λ_ Q=>
    wpAny (model prog w) A (forIn ifs true λc r=>if r=true then do let ok <- isTrue c env (eval c env);pure (zj0 ok)else pure (zj0 r)) (λok O=>
     if ok=true then wpAny (model prog w) A (eval elt env) (λx S=>
      wpAny (model prog w) A (call (.builtin "list.append") [acc,x]) (λ_ U=>∃m,m<n/\I m U) (λ_ _=>False) S) (λ_ _=>False) O
     else ∃m,m<n/\I m O) (λ_ _=>False) Q) (λ_ _=>False) z) (λ_ _=>False) z) (λ_ _=>False) s)
 (n:Nat) (h:I n s) :
 codeAny (model prog w) A (.compLoop (.ListComp elt [⟨J,iter,ifs,0⟩] scope pos) 0 it acc env) R s:=by
 refine codeAny_loop rfl I (λn s hI=>?_) n h;show wpAny _ A ((compTurn (.ListComp elt [⟨J,iter,ifs,0⟩] scope pos) 0 it acc env).onRaise (λx=>do noteFrame x env;theTreesLotGoes x)) _ _ s;refine wpAny_noted ?_;rw [compTurn_list];refine zgV (wpAny_standAt (zgV (ziX (a0 n s hI) (λr z Y=>?_) λ_ _ h'=>h'.elim)));cases r with
 | none=>exact zg1 Y
 | some v=>
  refine zgV (ziX Y (λ_ a6 a2=>?_) λ_ _ h'=>h'.elim);refine zgV (ziX a2 (λ_ Q h₂=>zgV (ziX h₂ (λok O Z=>?_) λ_ _ h'=>h'.elim)) λ_ _ h'=>h'.elim);cases ok with
  | false=>exact zg1 ⟨rfl,Z⟩
  | true=>
   exact zgV (zgV (ziX Z (λx S h₄=>zgV (ziX h₄ (λ_ U h₅=>zg1 (zg1 ⟨rfl,h₅⟩)) λ_ _ h'=>h'.elim)) λ_ _ h'=>h'.elim))
def zcn(X:Cx)(ifs:List Expr)(t:TT):Prop:=
 ∀(pins:List (Addr×Obj)) (s:Shared) (σ:St) (H:Hp) (Q:Bool->Hp->Prop),Inv X pins σ H s->t σ H Q->
  wpAny (model X.prog X.w) X.A (forIn ifs true λc r=>if r=true then do let ok <- isTrue c X.env (eval c X.env);pure (zj0 ok)else pure (zj0 r)) (TP X pins σ Q) X.xe s
def zeU:TT:=λ_ H Q=>Q true H
theorem Qy{X:Cx}:zcn X [] zeU:=λ_ _ _ H _ I h=>wpAny_tests_nil ⟨H,I,h⟩
theorem Qx{X:Cx}{c:Expr}{t:TT}(h:PT X c t):zcn X [c] t:=λpins s σ H Q I z=>wpAny_tests_one (h pins s σ H Q I z)
def CW(J:It)(g:TG)(tt:TT)(te:TE)(D:Addr)(Q:VK)(W:Nat->Nat->List V->St->Hp->Prop):Prop:=
 ∀i m ys σ H,W i m ys σ H->H D=some (.lst ys)/\((J.stop i H/\Q (.ref D) H)\/(J.go i H/\ys.length<sizeLine/\∀x H',J.yld i H x H'->g x σ H' λz H2=>tt z H2 λb I=>
  if b=true then te z I λv O=>O D=some (.lst ys)/\∃m',m'<m/\W (i+1) m' (ys++[v]) z (upd O D (.lst (ys++[v])))else ∃m',m'<m/\W (i+1) m' ys z I))
def W4(X:Cx)(pins:List (Addr×Obj))(H:Hp)(L:Addr):Prop:=
 H L=none/\L≠X.env.locals/\X.s₀.heap.objs.size<=L/\(∀x c,X.env.cells.lookup x=some c->c≠L)/\∀p∈X.pn++pins,p.1≠L
theorem WW{X:Cx}{pins:List (Addr×Obj)}{σ:St}{H2:Hp}{s2:Shared}{scope:Scope}{own:List Str}{fr:List (Str×Nat)}{fp:List Addr}{it:Addr}{tn:Nat->Heap->Prop}{J:It}{elt tg iter:Expr}{ifs:List Expr}{pos:Pos}{g:TG}{tt:TT}{te:TE}{Q:VK}{E:Value->Shared->Prop}
 (hc:X.calm=true) (I:Inv X pins σ H2 s2) (ok:CompOk X scope fr) (T:Turn X.prog X.w X.K tg J fp it tn) (st:tn 0 s2.heap) (U : ∀b∈fp,FpOk X pins H2 b)
 (hg:PG (jg X scope (own++fr.map (·.1)) fp s2 H2) tg g) (ht:zcn (jg X scope (own++fr.map (·.1)) fp s2 H2) ifs tt) (he:PE (jg X scope (own++fr.map (·.1)) fp s2 H2) elt te)
 (hW : ∀D,H2 D=none->∃W:Nat->Nat->List V->St->Hp->Prop,(∃m,W 0 m [] (pull own fr σ) (upd H2 D (.lst [])))/\CW J g tt te D Q W) :
 wpAny (model X.prog X.w) X.A (newList []) (λacc s₃=>wpAny (model X.prog X.w) X.A (newFunctionEnv scope X.env.globals (Zq X.env.cells scope.names []) [] X.env.qual none .none (some X.env)) (λa8 s₄=>
  codeAny (model X.prog X.w) X.A (.compStart (.ListComp elt [⟨tg,iter,ifs,0⟩] scope pos) 0 (.ref it) acc {a8 with scope:=relabel scope X.env})
   (λr s'=>(∃f,r = .ok f)/\∃D H',acc = .ref D/\Inv X pins σ H' s'/\Q (.ref D) H'/\(∃m,s'.heap.Ns a8.locals m)/\W4 X pins H' a8.locals) s₄) E s₃) E s2:=by
 have aj : ∀b∈fp,∃o,s2.heap.get? b=some o:=λb O=>by obtain⟨o,e,_⟩:=T.obj 0 _ st b O;exact⟨o,e⟩
 have I0:=Wz (own:=own) I ok U aj;obtain⟨W,⟨m0,w0⟩,cw⟩:=hW _ I.fresh;refine zho (qK ?_);have z1:(s2.heap.push JM).objs.size=s2.heap.objs.size+1:=zhY ..;show codeAny _ _ (.compStart _ 0 (.ref it) (.ref s2.heap.objs.size) {scope:=relabel scope X.env,locals:=(s2.heap.push JM).objs.size,globals:=X.env.globals,cells:=cellsFrom ((s2.heap.push JM).objs.size+1) scope.names (Zq X.env.cells scope.names []),qual:=X.env.qual,func:=none,code:=X.env.code,frame:=X.env.frame,builtins:=X.env.builtins})
  (λr s'=>(∃f,r = .ok f)/\∃D H',zhv s2.heap.objs.size = .ref D/\Inv X pins σ H' s'/\Q (.ref D) H'/\(∃m,s'.heap.Ns (s2.heap.push JM).objs.size m)/\W4 X pins H' (s2.heap.push JM).objs.size) {s2 with heap:=pushCells ((s2.heap.push JM).push zaD) scope.names}
 rw [z1];have ak:tn 0 (pushCells ((s2.heap.push JM).push zaD) scope.names):=T.keep 0 _ _ st λb _ o e=>zjT _ _ b o (zgY _ (zgY _ e));have bf : ∀b∈fp,b<s2.heap.objs.size:=λb O=>by obtain⟨o,e⟩:=aj b O;exact zhc e
 have a9 : ∀{H':Hp},(∀b∈fp,H' b=none)->∀b∈fp,FpOk (jg X scope (own++fr.map (·.1)) fp s2 H2) [] H' b:=λhn b O=>
  ⟨hn b O,(I0.ok.exf b O).1,I0.ok.exfs b O,.inl O,(I0.ok.exf b O).2,λp hp=>absurd (show p∈([]:List (Addr×Obj))from hp) ⋯⟩
 have al:codeAny (model X.prog X.w) X.A (.compLoop (.ListComp elt [⟨tg,iter,ifs,0⟩] scope pos) 0 (.ref it) (.ref s2.heap.objs.size) (kS scope X.env (s2.heap.objs.size+1)))
  (λr s'=>(∃f,r = .ok f)/\∃D H',zhv s2.heap.objs.size = .ref D/\Inv X pins σ H' s'/\Q (.ref D) H'/\(∃m,s'.heap.Ns (s2.heap.objs.size+1) m)/\W4 X pins H' (s2.heap.objs.size+1)) {s2 with heap:=pushCells ((s2.heap.push JM).push zaD) scope.names}:=by
  refine xT (λn s'=>∃i ys σ' H',Inv (jg X scope (own++fr.map (·.1)) fp s2 H2) [] σ' H' s'/\tn i s'.heap/\(∀b∈fp,H' b=none)/\W i n ys σ' H') ?_ m0
   ⟨0,[],_,_,I0,ak,λb O=>by rw [zH (zhz (bf b O))];exact(U b O).1,w0⟩
  rintro n s3 ⟨i,ys,σ3,H3,I3,ap,aq,w3⟩;obtain⟨hD,bg⟩:=cw i n ys σ3 H3 w3;rcases bg with⟨stop,qn⟩ | ⟨go,hz,step⟩
  ·refine thn (T.done (jg X scope (own++fr.map (·.1)) fp s2 H2) rfl rfl rfl hc i [] s3 σ3 H3 _ I3 (a9 aq) ap stop) λr s4 S=>?_
   obtain⟨hr,Y⟩:=S;subst hr;refine⟨⟨_,rfl⟩,_,H3,rfl,I.call' (ch:=fp) Y.os Y.base Y.hok Y.bare (λb O=>⟨(U b O).2.2.2.1,(U b O).2.1,(U b O).2.2.2.2.1,(U b O).2.2.2.2.2⟩),qn,?_,Y.free,?_,?_,?_,?_⟩
   ·obtain⟨m,hn,_⟩:=Y.loc
    exact⟨m,hn⟩
   ·exact zin (zh0 I.lt)
   ·exact Nat.le_succ_of_le I.sz
   ·intro x c e z
    obtain⟨v,q⟩:=I.cell x c e;exact absurd (zh0 q.lt) (by rw [z];exact zhC _)
   ·intro p hp z
    exact absurd (zh0 (zhc (I.pin p hp).1)) (by rw [z];exact zhC _)
  ·refine thn (T.item (jg X scope (own++fr.map (·.1)) fp s2 H2) rfl rfl rfl hc i [] s3 σ3 H3 _ I3 (a9 aq) ap go) λr s4 S=>?_
   obtain⟨u,hr,h4⟩:=S;subst hr;refine thn h4 λ_ s5 S=>?_;obtain⟨x,H5,I5,r5,y5,ad,bo⟩:=S;have bp:=I5.pinned (a9 bo) (T.obj _ _ ad);refine thn (hg _ s5 σ3 H5 x u _ bp r5 (step x H5 y5)) λ_ s6 S=>?_;obtain⟨σ6,H6,I6,q6⟩:=S;refine thn (ht _ s6 σ6 H6 _ I6 q6) λb s7 S=>?_;obtain⟨H7,I7,q7⟩:=S;have after : ∀{σ8:St} {H8:Hp} {Z:Shared},Inv (jg X scope (own++fr.map (·.1)) fp s2 H2) ([]++ZL fp s5.heap) σ8 H8 Z->tn (i+1) Z.heap/\∀b∈fp,H8 b=none:=λ{σ8 H8 Z} I8=>by
    refine⟨T.keep _ _ _ ad λb O o e=>(I8.pin (b,o) (zhT _ (zhT _ (xL O e)))).1,λb O=>?_⟩;obtain⟨o,e,d⟩:=T.obj _ _ ad b O;exact(I8.pin (b,o) (zhT _ (zhT _ (xL O e)))).2.1
   cases b with
   | false=>
    rw [if_neg zhf]at q7 ⊢;obtain⟨m',hm,w7⟩:=q7;exact⟨m',hm,i+1,ys,σ6,H7,I7.unpinned,(after I7).1,(after I7).2,w7⟩
   | true=>
    rw [if_pos rfl]at q7 ⊢;refine thn (he _ s7 σ6 H7 _ I7 q7) λv8 Z S=>?_;obtain⟨x8,H8,I8,r8,aw,m',hm,w8⟩:=S;obtain⟨z8,ax,n8,rv,c6,e8⟩:=I8.lstM aw;refine zj7 F.slot_list_append ⟨_,e8,rfl⟩ F.entry_list_append (F.args_list_append_2 _ _) (PySem.list_append _ ax.toArray n8 v8 (by rw [zg9];omega)) ⟨e8,?_⟩;have I9:=I8.lset (its':=ax++[v8]) (f:=(·.push v8)) (t':=Z.toks) aw e8 ⋯ (rv.append (.cons r8 .nil)) (by rw [zh3,zjt];omega);exact⟨m',hm,i+1,ys++[x8],σ6,_,I9.unpinned,(after I9).1,(after I9).2,w8⟩
 exact codeAny_compStart_list al (T.self _ 0 _ _ _ ak al)
def VE(wi:TI)(own:List Str)(fr:List (Str×Nat))(g:TG)(tt:TT)(te:TE):TE:=λσ H Q=>wi σ H λJ H1=>∀D,H1 D=none->
 ∃W:Nat->Nat->List V->St->Hp->Prop,(∃m,W 0 m [] (pull own fr σ) (upd H1 D (.lst [])))/\CW J g tt te D Q W
section
variable{X:Cx}{scope:Scope}{own:List Str}{fr:List (Str×Nat)}{elt tg iter:Expr}{ifs:List Expr}{pos:Pos}{wi:TI}{g:TG}{tt:TT}{te:TE}
theorem QY{use:Option (Value->Sem Unit)}{R:Value->Shared->Prop}{pins:List (Addr×Obj)}{s:Shared}{σ:St}{H:Hp}{Q:VK}
 (O:X.calm=true) (ok:CompOk X scope fr) (hi:PI X tg iter wi) (S : ∀fp s2 H2,PG (jg X scope (own++fr.map (·.1)) fp s2 H2) tg g)
 (U : ∀fp s2 H2,zcn (jg X scope (own++fr.map (·.1)) fp s2 H2) ifs tt) (Y : ∀fp s2 H2,PE (jg X scope (own++fr.map (·.1)) fp s2 H2) elt te)
 (I:Inv X pins σ H s) (h:VE wi own fr g tt te σ H Q)
 (Z : ∀D H' s' L,Inv X pins σ H' s'->Q (.ref D) H'->(∃m,s'.heap.Ns L m)->W4 X pins H' L->
   compPost (model X.prog X.w) X.A X.xe use R (.ref D) L (.ok .next) s')
 (hs : ∀x,foldedSetIterable iter X.env x=pure x:=by intro _;rfl) :
 wpAny (model X.prog X.w) X.A (comprehension (.ListComp elt [⟨tg,iter,ifs,0⟩] scope pos) scope X.env (firstIterPos [⟨tg,iter,ifs,0⟩] pos) (newList []) false (eval iter X.env) use) R X.xe s:=by
 refine wpAny_comprehension_free rfl hs (Zc λn z=>I.ok.has n (ok.free (n,.free) z rfl)) ok.kind (λx hx e=>by rw [<- e];exact xM ok.nd (show(x.1,x.2)∈scope.names from hx)) ?_;refine thn (hi pins s σ H _ I h) λv s1 h1=>thn h1 λad s2 h2=>?_;obtain⟨it,fp,tn,J,H2,e,I2,T,a2,f2,hW⟩:=h2;subst e;refine thn (WW (own:=own) (Q:=Q) (E:=X.xe) O I2 ok T a2 f2 (S fp s2 H2) (U fp s2 H2) (Y fp s2 H2) hW) λacc s3 h3=>thn h3 λa6 s4 h4=>zkr h4 λr s' h5=>?_;obtain⟨⟨f,hr⟩,D,H',ea,I',q,z,y⟩:=h5;subst hr;subst ea;have q2:=Z D H' s' a6.locals I' q z y;cases use<;>exact q2
theorem JH(z:X.calm=true)(ok:CompOk X scope fr)(hi:PI X tg iter wi)(J : ∀fp s2 H2,PG (jg X scope (own++fr.map (·.1)) fp s2 H2) tg g)
 (O : ∀fp s2 H2,zcn (jg X scope (own++fr.map (·.1)) fp s2 H2) ifs tt) (S : ∀fp s2 H2,PE (jg X scope (own++fr.map (·.1)) fp s2 H2) elt te)
 (U : ∀x,foldedSetIterable iter X.env x=pure x:=by intro _;rfl) :
 PE X (.ListComp elt [⟨tg,iter,ifs,0⟩] scope pos) (VE wi own fr g tt te):=by
 intro pins s σ H Q I h;rw [eval_ListComp];refine QY (use:=none) z ok hi J O S I h (λD H' s' L Y q Z y=>?_) U;obtain⟨m,hm⟩:=Z;obtain⟨y1,y2,y3,y4,y5⟩:=y;refine⟨m,hm,λh' sb=>⟨.ref D,H',Y.turned (t':=s'.toks) (it:=L) (λb o hb e=>sb.extBut b o hb e) y1 y2 (.inr y3) y4 y5,rfl,q⟩⟩
theorem v6{y:Str}{z O:Pos}{i:Nat}(Q:X.N.Nodup)(S:X.N[i]? = some y)(U:Loc X.env.scope y)(Y:X.fn y=true\/X.env.scope.names.lookup y=some .local)
 (Z:X.calm=true) (ok:CompOk X scope fr) (hi:PI X tg iter wi) (hg : ∀fp s2 H2,PG (jg X scope (own++fr.map (·.1)) fp s2 H2) tg g)
 (ht : ∀fp s2 H2,zcn (jg X scope (own++fr.map (·.1)) fp s2 H2) ifs tt) (he : ∀fp s2 H2,PE (jg X scope (own++fr.map (·.1)) fp s2 H2) elt te)
 (hs : ∀x,foldedSetIterable iter X.env x=pure x:=by intro _;rfl) :
 PS X (.Assign [.Name y z] (.ListComp elt [⟨tg,iter,ifs,0⟩] scope pos) O) (X8 (VE wi own fr g tt te) (xR i)):=by
 have J : ∃b:Bool,swapsWith (.ListComp elt [⟨tg,iter,ifs,0⟩] scope pos) (some (.Name y z)) O.line X.env=pure b:=⟨_,rfl⟩;obtain⟨b,J⟩:=J;cases b with
 | false=>
  have e1:swapsWithSole [.Name y z] (.ListComp elt [⟨tg,iter,ifs,0⟩] scope pos) O.line X.env=swapsWith (.ListComp elt [⟨tg,iter,ifs,0⟩] scope pos) (some (.Name y z)) O.line X.env:=rfl;exact zaq (JH Z ok hi hg ht he hs) (K4 Q S U Y) (by rw [e1];exact J)
 | true=>
  intro pins s σ H D I h;rw [exec_Assign_Name_used _ _ _ _ J];refine zgV (wpAny_standAt (zgV ?_));show wpAny _ X.A (do let _ <- comprehension (.ListComp elt [⟨tg,iter,ifs,0⟩] scope pos) scope X.env _ (newList []) false (eval iter X.env) (some (assign (.Name y z) X.env))) _ _ s;refine zgV (thn (QY (R:=λ_ s'=>SP X pins D .next s') (use:=some (assign (.Name y z) X.env)) Z ok hi hg ht he I h (λDa H' s' L I' q hn yg=>?_) hs) λ_ s' q=>zg1 (zg1 q));obtain⟨y1,y2,y3,y4,y5⟩:=yg;obtain⟨m,hm⟩:=hn;show wpAny _ _ (assign (.Name y z) X.env (.ref Da)) _ _ _;refine wpAny_assign_Name (Zw I' Q S U (v:= .ref Da) rfl (λae af ag=>?_) Y);obtain⟨a,sb,ha⟩:=ag;have ai:L≠a:=by
   rcases ha with e | e
   ·rw [e];exact y2
   ·exact zhO (y4 _ _ e)
  refine⟨m,hm.sameBut sb ai,λh' aj=>⟨_,_,af.turned (t':=ae.toks) (it:=L) (λb o J e=>aj.extBut b o J e) y1 y2 (.inr y3) y4 y5,q⟩⟩
end
inductive Sk where
 | L | T
 deriving DecidableEq
end L2
namespace DL
open PySem L2
inductive D where
 | non | bl (b:Bool) | int (i:Int) | str (x:Str) | tup (xs:List D) | lst (xs:List D)
 | exc (c:Str) (n:Option Int)
 | dic (ks vs:List D)
 | dct (ks:List (List Int)) (vs:List D)
inductive Cell where
 | no | val (d:D) | own (ds:List D) | nest (rows:List (List D))
abbrev Ctx:=List Cell
abbrev CO (a : Type) := Ctx -> Option a
def lim:Nat:=2500
def jw:D->Option (Sk×List D)
 | .tup ds=>some (.T,ds)
 | .lst ds=>some (.L,ds)
 | _=>none
def zA(f:CO D):CO (Sk×List D):=λγ=>(f γ).bind jw
def jk(f:CO (List D)):CO D:=λγ=>(f γ).map D.lst
def jz(f:CO (List D)):CO (Sk×List D):=λγ=>(f γ).map λds=>(Sk.L,ds)
def J3:Option Cell->Option D
 | some (.val d)=>some d
 | _=>none
def xA:Option Cell->Option (Sk×List D)
 | some (.val d)=>jw d
 | some (.own ds)=>some (.L,ds)
 | _=>none
def zc(i:Nat):CO D:=λγ=>J3 γ[i]?
def zf(i:Nat):CO (Sk×List D):=λγ=>xA γ[i]?
def zg(d:D):CO D:=λ_=>some d
def zu(F:D->D->Option D)(fa fb:CO D):CO D:=λγ=>(fa γ).bind λx=>(fb γ).bind λy=>F x y
def asB:D->Option Bool
 | .bl b=>some b
 | _=>none
def asI:D->Option Int
 | .int i=>some i
 | _=>none
def sB(f:CO D):CO Bool:=λγ=>(f γ).bind asB
def za8(f g:CO Bool):CO Bool:=λγ=>(f γ).bind λb=>if b=true then g γ else some false
def za6(f g:CO Bool):CO Bool:=λγ=>(f γ).bind λb=>if b=true then some true else g γ
def xl(f:CO Bool):CO Bool:=λγ=>(f γ).map λb=> !b
def zeg(f g:CO D):CO D:=λγ=>((f γ).bind asB).bind λb=>if b=true then g γ else some (.bl false)
def zf4(f:CO D):CO D:=λγ=>((f γ).bind asB).map λb=> .bl (!b)
def Zp(c:CO Bool)(f g:CO D):CO D:=λγ=>(c γ).bind λb=>if b=true then f γ else g γ
def zo:CO (List D):=λ_=>some []
def za(f:CO D)(g:CO (List D)):CO (List D):=λγ=>(f γ).bind λx=>(g γ).map λr=>x::r
def jp(f:CO (List D)):CO D:=λγ=>(f γ).bind λds=>if ds.length<=lim then some (.tup ds)else none
def qj(f:CO (List D)):CO (List D):=λγ=>(f γ).bind λds=>if ds.length<=lim then some ds else none
inductive Res where
 | val (d:D) | own (ds:List D)
inductive Fl where
 | next (γ:Ctx) | brk (γ:Ctx) | cont (γ:Ctx) | ret (r:Res)
def j4:CO Fl:=λγ=>some (.next γ)
def zI(F G:CO Fl):CO Fl:=λγ=>(F γ).bind λz=>match z with
 | .next γ'=>G γ'
 | f=>some f
def jR(f:CO D):CO Fl:=λγ=>(f γ).map λd=> .ret (.val d)
def qW(f:CO (List D)):CO Fl:=λγ=>(f γ).map λd=> .ret (.own d)
def Ze:Option Cell->Option Fl
 | some (.val d)=>some (.ret (.val d))
 | some (.own ds)=>some (.ret (.own ds))
 | _=>none
def kz(i:Nat):CO Fl:=λγ=>Ze γ[i]?
def VO:CO Fl:=λγ=>some (.cont γ)
def ZA:CO Fl:=λ_=>none
def sIf(k:CO Bool)(F G:CO Fl):CO Fl:=λγ=>(k γ).bind λb=>if b=true then F γ else G γ
def zQ(i:Nat)(f:CO D):CO Fl:=λγ=>(f γ).map λd=> .next (γ.set i (.val d))
def qL(i:Nat)(f:CO (List D)):CO Fl:=λγ=>(f γ).map λds=> .next (γ.set i (.own ds))
def qz:Option Cell->Option (List D)
 | some (.own ds)=>some ds
 | _=>none
def qs(i:Nat)(f:CO D):CO Fl:=λγ=>(qz γ[i]?).bind λds=>(f γ).bind λd=>if ds.length<lim then some (.next (γ.set i (.own (ds++[d]))))else none
def zV(n:Nat)(ds:List D):Ctx:=ds.map Cell.val++zg2 (n - ds.length) Cell.no
def z5(n:Nat)(F:CO Fl)(ds:List D):Option Res:=(F (zV n ds)).bind λz=>match z with
 | .ret r=>some r
 | .next _=>some (.val .non)
 | _=>none
def zej:Res->D
 | .val d=>d
 | .own ds=> .lst ds
def zq(F:List D->Option Res)(g:CO (List D)):CO D:=λγ=>(g γ).bind λds=>(F ds).map zej
def zck:Res->Option (List D)
 | .own ds=>some ds
 | _=>none
def zX(F:List D->Option Res)(g:CO (List D)):CO (List D):=λγ=>(g γ).bind λds=>(F ds).bind zck
def qE(lo:Int)(n:Nat):List D:=(zgX n).map λ(i:Nat)=>D.int (lo+(i:Int))
def vD(ds es:List D):List D:=(ds.zip es).map λp=>D.tup [p.1,p.2]
def zD(f:CO (Sk×List D)):CO (List D):=λγ=>(f γ).map (·.2)
def inR(i:Int):Bool:=decide (i.natAbs<2 ^ 62)
def ji(f:CO D):CO (List D):=λγ=>((f γ).bind asI).bind λn=>if inR n=true then some (qE 0 n.toNat)else none
def kg(f g:CO D):CO (List D):=λγ=>((f γ).bind asI).bind λm=>((g γ).bind asI).bind λn=>if inR m=true/\inR n=true then some (qE m (n - m).toNat)else none
def Qn(f g:CO D):CO (List D):=λγ=>((f γ).bind jw).bind λm=>((g γ).bind jw).map λn=>vD m.2 n.2
inductive Tg where
 | nm (i:Nat) | tp (is:List Nat)
def j1:List Nat->List D->Ctx->Ctx
 | i::is,d::ds,γ=>j1 is ds (γ.set i (.val d))
 | _,_,γ=>γ
def jQ:Tg->D->CO Ctx
 | .nm i,d,γ=>some (γ.set i (.val d))
 | .tp is,.tup ds,γ=>if ds.length=is.length then some (j1 is ds γ)else none
 | _,_,_=>none
def qh(T:Tg)(F:CO Fl):List D->CO Fl
 | [],γ=>some (.next γ)
 | d::ds,γ=>(jQ T d γ).bind λγ1=>(F γ1).bind λI=>match I with
  | .next z=>qh T F ds z
  | .cont z=>qh T F ds z
  | .brk z=>some (.next z)
  | .ret r=>some (.ret r)
def yk(src:CO (List D))(T:Tg)(F:CO Fl):CO Fl:=λγ=>(src γ).bind λds=>qh T F ds γ
def qb:Cell->Cell
 | .own _=> .no
 | .nest _=> .no
 | c=>c
def z6(n:Nat)(fr:List Nat)(γ:Ctx):Ctx:=zg2 n Cell.no++fr.map λj=>qb (γ[j]?.getD .no)
def zL(T:Tg)(k:CO Bool)(f:CO D)(γ:Ctx):List D->Option (List D)
 | []=>some []
 | d::ds=>(jQ T d γ).bind λγ1=>(k γ1).bind λb=>if b=true then (f γ1).bind λe=>(zL T k f γ ds).map λr=>e::r else zL T k f γ ds
def zF(src:CO (List D))(T:Tg)(n:Nat)(fr:List Nat)(k:CO Bool)(f:CO D):CO (List D):=λγ=>(src γ).bind λds=>if ds.length<=lim then zL T k f (z6 n fr γ) ds else none
def ja:CO Bool:=λ_=>some true
def Tg.idx:Tg->List Nat
 | .nm i=>[i]
 | .tp is=>is
def dI(g:Int->Int->D):D->D->Option D
 | .int i,.int j=>some (g i j)
 | _,_=>none
def dIc(c:Int->Int->Bool)(g:Int->Int->D):D->D->Option D
 | .int i,.int j=>if c i j=true then some (g i j)else none
 | _,_=>none
def qP:D->D->Option D:=dI λi j=> .int (i - j)
def Zg(i j:Int):Bool:=decide (i.natAbs<2 ^ 64) || decide (j.natAbs<2 ^ 64)
def zd1(_ j:Int):Bool:=decide (0<j) && decide (j.natAbs<1073741824)
def Z7:D->D->Option D:=dIc zd1 λi j=> .int (i/j)
def zeC(_ j:Int):Bool:=decide (0<j)
def qx:D->D->Option D:=dIc zeC λi j=> .int (i%j)
def zd0(i j:Int):Bool:=decide (0<=j) && decide (j.natAbs<=1000000) && decide (i.natAbs<2 ^ 64)
def zb1:D->D->Option D:=dIc zd0 λi j=> .int (i ^ j.toNat)
def dLt:D->D->Option D:=dI λi j=> .bl (decide (i<j))
def dLe:D->D->Option D:=dI λi j=> .bl (decide (i<=j))
def dGt:D->D->Option D:=dI λi j=> .bl (decide (j<i))
def dGe:D->D->Option D:=dI λi j=> .bl (decide (j<=i))
def jq:D->D->Option D
 | .int i,.int j=>some (.int (i+j))
 | .tup xs,.tup ys=>if xs.length+ys.length<=lim then some (.tup (xs++ys))else none
 | _,_=>none
def qI:D->D->Option D
 | .int i,.int j=>if Zg i j=true then some (.int (i*j))else none
 | .tup xs,.int j=>if xs.length*j.toNat<=lim/\inR j=true then some (.tup (zg2 j.toNat xs).flatten)else none
 | _,_=>none
def kA(f g:CO (Sk×List D)):CO (List D):=λγ=>(f γ).bind λa=>(g γ).bind λb=>
 match a.1,b.1 with
 | .L,.L=>if a.2.length+b.2.length<=lim then some (a.2++b.2)else none
 | _,_=>none
def za5(f:CO (Sk×List D))(g:CO D):CO (List D):=λγ=>(f γ).bind λa=>((g γ).bind asI).bind λj=>
 match a.1 with
 | .L=>if a.2.length*j.toNat<=lim/\inR j=true then some (zg2 j.toNat a.2).flatten else none
 | _=>none
def ixD(n:Nat)(i:Int):Option Nat:=if 0<=i/\i<n then some i.toNat else if i<0/\0<=i+n then some (i+n).toNat else none
def sIx(f:CO (Sk×List D))(g:CO D):CO D:=λγ=>(f γ).bind λa=>((g γ).bind asI).bind λi=>(ixD a.2.length i).bind λk=>a.2[k]?
def Kz(i:Nat)(g f:CO D):CO Fl:=λγ=>(f γ).bind λd=>(qz γ[i]?).bind λds=>((g γ).bind asI).bind λk=>(ixD ds.length k).map λj=> .next (γ.set i (.own (ds.set j d)))
def J2(n dflt:Nat):Option Int->Nat
 | none=>dflt
 | some i=>if i<0 then (i+n).toNat else min i.toNat n
def QX(xs:List D)(lo hi:Option Int):List D:=(xs.drop (J2 xs.length 0 lo)).take (J2 xs.length xs.length hi - J2 xs.length 0 lo)
def X9:CO (Option Int):=λ_=>some none
def sBd(f:CO D):CO (Option Int):=λγ=>((f γ).bind asI).map some
def Qo(f:CO D)(l h:CO (Option Int)):CO D:=λγ=>(f γ).bind λd=>(l γ).bind λlo=>(h γ).bind λhi=>match d with
 | .tup xs=>some (.tup (QX xs lo hi))
 | _=>none
def k4(f:CO (Sk×List D)):CO D:=λγ=>(f γ).map λa=> .int a.2.length
inductive Ty where
 | int | bool | str | tuple | list
 deriving DecidableEq
@[simp] def zdM:D->Bool
 | .int _=>true
 | .bl _=>true
 | _=>false
@[simp] def zfp:D->Bool
 | .bl _=>true
 | _=>false
@[simp] def zdK:D->Bool
 | .str _=>true
 | _=>false
@[simp] def zdJ:D->Bool
 | .tup _=>true
 | _=>false
@[simp] def zdL:D->Bool
 | .lst _=>true
 | _=>false
def zey:Ty->D->Bool
 | .int=>zdM
 | .bool=>zfp
 | .str=>zdK
 | .tuple=>zdJ
 | .list=>zdL
def sIs(T:Ty)(f:CO D):CO D:=λγ=>(f γ).map λd=> .bl (zey T d)
@[simp] def eqN:D->Bool
 | .non=>true
 | _=>false
@[simp] def eqB(a:Bool):D->Bool
 | .bl b=>a==b
 | .int b=>(if a then 1 else 0)==b
 | _=>false
@[simp] def eqI(a:Int):D->Bool
 | .bl b=>a==(if b then 1 else 0)
 | .int b=>a==b
 | _=>false
@[simp] def eqS(a:Str):D->Bool
 | .str b=>a==b
 | _=>false
@[simp] def eqX(a:Str)(i:Option Int):D->Bool
 | .exc b j=>a==b && i==j
 | _=>false
mutual
def eqD:D->D->Bool
 | .non,y=>eqN y
 | .bl a,y=>eqB a y
 | .int a,y=>eqI a y
 | .str a,y=>eqS a y
 | .tup xs,y=>match y with
  | .tup ys=>eqDs xs ys
  | _=>false
 | .lst xs,y=>match y with
  | .lst ys=>eqDs xs ys
  | _=>false
 | .exc a i,y=>eqX a i y
 | .dic a b,y=>match y with
  | .dic c d=>eqDs a c && eqDs b d
  | _=>false
 | .dct a b,y=>match y with
  | .dct c d=>a==c && eqDs b d
  | _=>false
def eqDs:List D->List D->Bool
 | [],[]=>true
 | x::xs,y::ys=>eqD x y && eqDs xs ys
 | _,_=>false
end
mutual
def deep:D->Nat
 | .tup xs=>deeps xs+1
 | .lst xs=>deeps xs+1
 | _=>0
def deeps:List D->Nat
 | []=>0
 | x::xs=>max (deep x) (deeps xs)
end
mutual
def okS:D->Bool
 | .str x=>x.cps.all (· < 0x110000)
 | .exc _ _=>false
 | .dic _ _=>false
 | .dct _ _=>false
 | .tup xs=>okSs xs
 | .lst xs=>okSs xs
 | _=>true
def okSs:List D->Bool
 | []=>true
 | x::xs=>okS x && okSs xs
end
def okD(d:D):Bool:=decide (deep d<=20) && okS d
def dEq(x y:D):Option D:=if okD x=true/\okD y=true then some (.bl (eqD x y))else none
def dNe(x y:D):Option D:=if okD x=true/\okD y=true then some (.bl (!eqD x y))else none
def zeB:D->D->Option D
 | x,.non=>some (.bl (match x with | .non=>true | _=>false))
 | _,_=>none
def zN(f:CO (Sk×List D)):CO D:=λγ=>(f γ).map λa=> .tup a.2
def Jw(f:CO (Sk×List D)):CO (List D):=λγ=>(f γ).map λa=>a.2
def Vo:List D->Option Int
 | []=>some 0
 | .int i::r=>(Vo r).map λs=>i+s
 | _::_=>none
def zcP(f:CO (Sk×List D)):CO D:=λγ=>(f γ).bind λa=>(Vo a.2).map D.int
def zeR:D->Option Bool
 | .non=>some false
 | .bl b=>some b
 | .int i=>some (i != 0)
 | _=>none
def yL:List D->Option (List Bool)
 | []=>some []
 | d::r=>(zeR d).bind λb=>(yL r).map λs=>b::s
def zeh(f:CO (Sk×List D)):CO D:=λγ=>(f γ).bind λa=>(yL a.2).map λs=> .bl (s.all id)
def zag(f:CO (Sk×List D)):CO D:=λγ=>(f γ).bind λa=>(yL a.2).map λs=> .bl (s.any id)
def KA(f:CO D):CO D:=λγ=>(f γ).bind λd=>match d with
 | .int i=>some (.int i)
 | .bl b=>some (.int (if b then 1 else 0))
 | _=>none
def VM(f:CO (Sk×List D)):CO Bool:=λγ=>(f γ).map λa=> !a.2.isEmpty
def zed(f:CO D):CO D:=λγ=>((f γ).bind asI).map λi=> .int (-i)
def Qq(F G:D->D->Option D)(fa fb fc:CO D):CO D:=λγ=>(fa γ).bind λx=>(fb γ).bind λy=>((F x y).bind asB).bind λb=>if b=true then (fc γ).bind λz=>G y z else some (.bl false)
def Jv(T:Tg)(f:CO D):CO Fl:=λγ=>(f γ).bind λd=>(jQ T d γ).map .next
def zex:D->Option Int
 | .tup (.int k::_)=>some k
 | _=>none
def vK:List D->Option (List Int)
 | []=>some []
 | d::r=>(zex d).bind λk=>(vK r).map λl=>k::l
def zd3:List Int->Bool
 | a::b::r=>decide (a<b) && zd3 (b::r)
 | _=>true
def zfb(ks:List Int):Nat:=(ks.dropLast.filter λk=>decide (k<ks.getLast?.getD 0)).length
def zga(q:Nat)(ds:List D):List D:=ds.dropLast.take q++(ds.drop (ds.length - 1)++ds.dropLast.drop q)
def VH(ds:List D):Option (List D):=(vK ds).bind λks=>if (1<=ds.length/\ds.length<=8)/\zd3 ks.dropLast=true/\decide (ks.getLast?.getD 0∈ks.dropLast)=false then some (zga (zfb ks) ds)else none
def Ju(f:CO (Sk×List D)):CO (List D):=λγ=>(f γ).bind λa=>match a.1 with
 | .L=>VH a.2
 | _=>none
end DL
namespace L2
open PySem PySem.Spec PyProof.Rows
def ItAt(k:Sk)(h:Heap)(i l:Addr)(n:Nat):Prop:=match k with
 | .L=>h.IsListIter i l n
 | .T=>h.IsTupleIter i l n
def SqAt(k:Sk)(h:Heap)(l:Addr)(xs:Array Value):Prop:=match k with
 | .L=>h.IsList l xs
 | .T=>h.IsTuple l xs
def itO(k:Sk)(l:Addr):Obj:=match k with
 | .L=>{cls:= .type "list_iterator",data:= .fields #[.ref l,.int 0 0]}
 | .T=>{cls:= .type "tuple_iterator",data:= .fields #[.ref l,.int 0 0]}
theorem ItAt.at{k:Sk}{h h':Heap}{i l:Addr}{n:Nat}(x:ItAt k h i l n)(e : ∀o,h.get? i=some o->h'.get? i=some o):ItAt k h' i l n:=by
 cases k<;>exact let ⟨o,z,r⟩:=x;⟨o,e _ z,r⟩
theorem SqAt.at{k:Sk}{h h':Heap}{l:Addr}{xs:Array Value}(x:SqAt k h l xs)(e : ∀o,h.get? l=some o->h'.get? l=some o):SqAt k h' l xs:=by
 cases k<;>exact let ⟨o,z,r⟩:=x;⟨o,e _ z,r⟩
theorem ItAt.obj{k:Sk}{h:Heap}{i l:Addr}{n:Nat}(x:ItAt k h i l n) : ∃o,h.get? i=some o/\∀v,o.data ≠ .cell v:=by
 cases k<;>exact let ⟨o,I,_,d⟩:=x;⟨o,I,λv z=>by rw [d]at z;cases z⟩
theorem SqAt.lt{k:Sk}{h:Heap}{l:Addr}{xs:Array Value}(x:SqAt k h l xs):l<h.objs.size:=by
 cases k<;>exact let ⟨o,z,_⟩:=x;zhc z
theorem QL(k:Sk)(h:Heap)(l:Addr):ItAt k (h.push (itO k l)) h.objs.size l 0:=by
 cases k<;>exact⟨_,zg6 _ rfl,rfl,rfl⟩
section
variable{prog:Program}{w:World}{A:Around}{E:Value->Shared->Prop}{s:Shared}
theorem QK{k:Sk}{l:Addr}{xs:Array Value}{Q:Value->Shared->Prop}(z:SqAt k s.heap l xs)(I:Q (.ref s.heap.objs.size) {s with heap:=s.heap.push (itO k l)}):wpAny (model prog w) A (pyIter (.ref l)) Q E s:=by
 cases k
 ·exact zkP z I
 ·exact wpAny_pyIter_tuple z I
theorem yZ{k:Sk}{it l:Addr}{i:Nat}{items:Array Value}{x:Value}{Q:Value->Shared->Prop}(J:ItAt k s.heap it l i)(O:SqAt k s.heap l items)(hx:items[i]? = some x)
 (S : ∀h',ItAt k h' it l (i+1)->ziD it s.heap h'->Q x {s with heap:=h'}):wpAny (model prog w) A (zhJ (.ref it)) Q E s:=by
 cases k with
 | L=>exact wpAny_nextOf_list_item J O hx S
 | T=>
  have I:s.heap.IsTupleIter it l i:=J;obtain⟨o,z,U,hd⟩:=id I;obtain⟨ol,Y,_,nl,Z⟩:=(show s.heap.IsTuple l items from O);unfold zhJ;refine zgV (zhN (name:=zhK "__next__") I.typeIs zjS (zhH zjS I.typeIs entry_tupleiter_next ?_ (args_tupleiter_next _)));refine zgV (m:=field (.ref it) 0) (zhR z hd (x:= .ref l) rfl ?_);show wpAny _ _ (if (zhv l==zii)=true then _ else _) _ _ s;rw [if_neg (show ¬((zhv l==zii)=true)from zhf)];refine zgV (m:=field (.ref it) 1) (zhR z hd (x:= .int i 0) rfl ?_);refine zgV (m:=seqItems? (.ref l)) (ziM Y Z ?_);simp only [zh1,hx];refine zgV (zkx z hd ⋯ (zg1 ⟨x,rfl,zg1 (S _ ?_ (zjn ..))⟩));show Heap.IsTupleIter _ it l (i+1);exact⟨_,ziZ _ z (zkg (zjg hd _)),(zkB ..).trans U,by rw [zjg hd];simp [rawInt]⟩
theorem QD{k:Sk}{it l:Addr}{i:Nat}{items:Array Value}{Q:Value->Shared->Prop}(z:A.handled=none)(O:ItAt k s.heap it l i)(S:SqAt k s.heap l items)(hx:items[i]? = none)
 (U : ∀h' e,Heap.ExtBut it s.heap h'->(∃o,h'.get? e=some o/\o.cls = .type "StopIteration")->E (.ref e) {s with heap:=h'}):wpAny (model prog w) A (zhJ (.ref it)) Q E s:=by
 cases k with
 | L=>exact wpAny_nextOf_list_end z O S hx U
 | T=>
  have I:s.heap.IsTupleIter it l i:=O;obtain⟨o,J,hc,hd⟩:=id I;obtain⟨ol,Y,_,nl,Z⟩:=(show s.heap.IsTuple l items from S);unfold zhJ;refine zgV (zhN (name:=zhK "__next__") I.typeIs zjS (zhH zjS I.typeIs entry_tupleiter_next ?_ (args_tupleiter_next _)));refine zgV (m:=field (.ref it) 0) (zhR J hd (x:= .ref l) rfl ?_);show wpAny _ _ (if (zhv l==zii)=true then _ else _) _ _ s;rw [if_neg (show ¬((zhv l==zii)=true)from zhf)];refine zgV (m:=field (.ref it) 1) (zhR J hd (x:= .int i 0) rfl ?_);refine zgV (m:=seqItems? (.ref l)) (ziM Y Z ?_);simp only [zh1,hx];refine zgV (zji (zgV (zkx J hd ⋯ ?_)));refine zgV (m:=newExc (.type "StopIteration") []) ?_;simp only [newExc,newTuple];refine zgV (zho ?_ (by size_fits));refine zgV (m:=firstArgMember _ _) (ziC (a:=zii) (by first | rfl | (simp only [firstArgMember];rfl)) ?_);refine zho ?_ (by size_fits);simp only [raiseNew];refine zgV (wpAny_handled ?_)
  first | rw [show A.in1.handled=none from z] | rw [z]
  exact zgV (zg1 (wpAny_throw (U _ _ (((zjn ..).extBut.push _).push _) ⟨_,zg6 _ rfl,rfl⟩)))
theorem Kc{k1 k2:Sk}{z TI TO J O l1 l2:Addr}{n1 n2:Nat}{xs ys:Array Value}{x y a b:Value}{Q:Value->Shared->Prop}(D:ZipApart z TI TO J O l1 l2)
 (hz:IsZip s.heap z TI TO .none) (ap:IsPair s.heap TI (.ref J) (.ref O)) (aq:IsPair s.heap TO a b)
 (h1:ItAt k1 s.heap J l1 n1) (h2:ItAt k2 s.heap O l2 n2) (ar:SqAt k1 s.heap l1 xs) (as:SqAt k2 s.heap l2 ys) (hx:xs[n1]? = some x) (hy:ys[n2]? = some y)
 (hQ : ∀h',IsZip h' z TI TO (rawInt s.heap.objs.size)->IsPair h' TO x y->ItAt k1 h' J l1 (n1+1)->ItAt k2 h' O l2 (n2+1)->IsPair h' s.heap.objs.size x y->h'.objs.size=s.heap.objs.size+1->
   (∀c o,c≠z->c≠TO->c≠J->c≠O->s.heap.get? c=some o->h'.get? c=some o)->Q (.ref s.heap.objs.size) {s with heap:=h'}) :
 wpAny (model prog w) A (Builtin.«zip.__next__» ⟨[.ref z],[]⟩) (λaw s'=>∃v,aw = .done (.ret v)/\Q v s') E s:=by
 refine zgV (m:=field (.ref z) 2) (zhR hz rfl (x:= .bool false) rfl ?_);refine zgV (m:=field (.ref z) 3) (zhR hz rfl (x:= .ref TI) rfl ?_);refine zgV (ziM ap rfl ?_);refine zgV (m:=zil (.ref z)) ?_;unfold zil;refine zgV (zhR hz rfl (x:= .none) rfl (zg1 ?_));simp only [if_true];refine zgV (zji (zgV (zhR hz rfl (x:= .ref TO) rfl ?_)));refine zgV (ziv hz ⋯ λg1 ac S=>?_);replace ac:IsZip g1 z TI TO .ellipsis:=ac;refine zgV ?_;simp only [List.zipIdx_cons,List.zipIdx_nil,List.forIn_cons,List.forIn_nil];refine zgV (zgV (zkK ?_));refine zgV (m:=zhJ (.ref J)) (yZ (h1.at λo e=>S.extBut _ _ D.i1z e) (ar.at λo e=>S.extBut _ _ D.l1z e) hx λg2 ay Y=>zg1 ?_);have aj:IsPair g2 TO a b:=Y.extBut _ _ D.TOi1 (S.extBut _ _ D.TOz aq);refine zgV (ziM aj rfl (zgV (zkv aj λg3 ad Z=>?_)));replace ad:IsPair g3 TO x b:=ad;refine zgV (wpAny_letGo (zg1 (zgV (zgV (zkK ?_)))));refine zgV (m:=zhJ (.ref O)) (yZ (h2.at λo e=>Z.extBut _ _ D.TOi2.symm (Y.extBut _ _ D.i12.symm (S.extBut _ _ D.i2z e))) (as.at λo e=>Z.extBut _ _ D.l2TO (Y.extBut _ _ D.l2i1 (S.extBut _ _ D.l2z e))) hy λg4 b9 a2=>zg1 ?_);have ak:IsPair g4 TO x b:=a2.extBut _ _ D.TOi2 ad;refine zgV (ziM ak rfl (zgV (zkv ak λI a8 a3=>?_)));replace a8:IsPair I TO x y:=a8;refine zgV (wpAny_letGo (zg1 (zg1 (zgV (ziM a8 rfl (zgV (wpAny_newTuple ?_)))))));have hsz:I.objs.size=s.heap.objs.size:=by rw [a3.1,a2.1,Z.1,Y.1,S.1]
 have al:IsZip I z TI TO .ellipsis:=a3.extBut _ _ D.TOz.symm (a2.extBut _ _ D.i2z.symm (Z.extBut _ _ D.TOz.symm (Y.extBut _ _ D.i1z.symm ac)));have ba : ∀c o,c≠z->c≠TO->c≠J->c≠O->s.heap.get? c=some o->I.get? c=some o:=λc o U c2 c3 c4 e=>a3.extBut _ _ c2 (a2.extBut _ _ c4 (Z.extBut _ _ c2 (Y.extBut _ _ c3 (S.extBut _ _ U e))));have bb:ItAt k1 I J l1 (n1+1):=ay.at λo e=>a3.extBut _ _ D.TOi1.symm (a2.extBut _ _ D.i12 (Z.extBut _ _ D.TOi1.symm e));have bc:ItAt k2 I O l2 (n2+1):=b9.at λo e=>a3.extBut _ _ D.TOi2.symm e;have am:z<I.objs.size:=zhc al;refine zgV (m:=zjE (.ref z) (.ref I.objs.size)) ?_;unfold zjE;have bd:IsZip (I.push {cls:= .type "tuple",data:= .seq #[x,y]}) z TI TO .ellipsis:=zgY _ al;refine zgV (ziv bd ⋯ λg7 ag ah=>?_);replace ag:IsZip g7 z TI TO (rawInt I.objs.size):=ag;refine ziv ag ⋯ λg8 aa ai=>?_;replace aa:IsZip g8 z TI TO (rawInt I.objs.size):=aa;have up : ∀c o,c≠z->I.get? c=some o->g8.get? c=some o:=λc o U e=>ai.extBut _ _ U (ah.extBut _ _ U (zgY _ e));have an:IsPair g8 I.objs.size x y:=ai.extBut _ _ (zin am) (ah.extBut _ _ (zin am) (zg6 _ rfl));have ao:g8.objs.size=I.objs.size+1:=by rw [ai.1,ah.1,zhY]
 rw [hsz]at aa an ao;refine zg1 ⟨_,rfl,?_⟩;show Q (.ref I.objs.size) _;rw [hsz];exact hQ g8 aa (up _ _ D.TOz a8) (bb.at λo e=>up _ o D.i1z e) (bc.at λo e=>up _ o D.i2z e) an ao λc o U c2 c3 c4 e=>up c o U (ba c o U c2 c3 c4 e)
theorem Vt{k1 k2:Sk}{z TI TO O Y l1 l2:Addr}{n1 n2:Nat}{xs ys:Array Value}{a b:Value}{Q:Fin->Shared->Prop}(hh:A.handled=none)(D:ZipApart z TI TO O Y l1 l2)
 (hz:IsZip s.heap z TI TO .none) (aj:IsPair s.heap TI (.ref O) (.ref Y)) (ak:IsPair s.heap TO a b)
 (h1:ItAt k1 s.heap O l1 n1) (h2:ItAt k2 s.heap Y l2 n2) (ad:SqAt k1 s.heap l1 xs) (al:SqAt k2 s.heap l2 ys) (am:xs[n1]? = none\/ys[n2]? = none)
 (hE : ∀h' e,(∀c o,c≠z->c≠TO->c≠O->c≠Y->s.heap.get? c=some o->h'.get? c=some o)->(∃o,h'.get? e=some o/\o.cls = .type "StopIteration")->E (.ref e) {s with heap:=h'}) :
 wpAny (model prog w) A (Builtin.«zip.__next__» ⟨[.ref z],[]⟩) Q E s:=by
 refine zgV (m:=field (.ref z) 2) (zhR hz rfl (x:= .bool false) rfl ?_);refine zgV (m:=field (.ref z) 3) (zhR hz rfl (x:= .ref TI) rfl ?_);refine zgV (ziM aj rfl ?_);refine zgV (m:=zil (.ref z)) ?_;unfold zil;refine zgV (zhR hz rfl (x:= .none) rfl (zg1 ?_));simp only [if_true];refine zgV (zji (zgV (zhR hz rfl (x:= .ref TO) rfl ?_)));refine zgV (ziv hz ⋯ λg1 a4 I=>?_);replace a4:IsZip g1 z TI TO .ellipsis:=a4;refine zgV ?_;simp only [List.zipIdx_cons,List.zipIdx_nil,List.forIn_cons,List.forIn_nil];refine zgV (zgV (zkK ?_));have ae : ∀{g e:_} {Z:Obj},IsZip g z TI TO .ellipsis->(∀c o,c≠z->c≠TO->c≠O->c≠Y->s.heap.get? c=some o->g.get? c=some o)->g.get? e=some Z->Z.cls = .type "StopIteration"->
  wpAny (model prog w) A (setField (.ref z) 0 .none) (λ_ s'=>E (.ref e) s') E {s with heap:=g}:=λ{g e Z} af hk S a0=>by
  have aq:e≠z:=λq=>by subst q;rw [af]at S;cases S;simp at a0
  exact ziv af ⋯ λg3 _ U=>hE g3 e (λc o c1 c2 c3 c4 q=>U.extBut _ _ c1 (hk c o c1 c2 c3 c4 q)) ⟨Z,U.extBut _ _ aq S,a0⟩
 cases hx:xs[n1]? with
 | none=>
  refine zgV (m:=zhJ (.ref O)) (QD hh (h1.at λo e=>I.extBut _ _ D.i1z e) (ad.at λo e=>I.extBut _ _ D.l1z e) hx λg2 e J he=>?_);obtain⟨Z,S,a0⟩:=he;exact ae (J _ _ D.i1z.symm a4) (λc o c1 _ c3 _ q=>J _ _ c3 (I.extBut _ _ c1 q)) S a0
 | some x=>
  have hy:ys[n2]? = none:=by rcases am with h | h;rw [hx]at h;cases h;exact h
  refine zgV (m:=zhJ (.ref O)) (yZ (h1.at λo e=>I.extBut _ _ D.i1z e) (ad.at λo e=>I.extBut _ _ D.l1z e) hx λg2 as J=>zg1 ?_);have ah:IsPair g2 TO a b:=J.extBut _ _ D.TOi1 (I.extBut _ _ D.TOz ak);refine zgV (ziM ah rfl (zgV (zkv ah λg3 au U=>?_)));refine zgV (wpAny_letGo (zg1 (zgV (zgV (zkK ?_)))));refine zgV (m:=zhJ (.ref Y)) (QD hh (h2.at λo e=>U.extBut _ _ D.TOi2.symm (J.extBut _ _ D.i12.symm (I.extBut _ _ D.i2z e))) (al.at λo e=>U.extBut _ _ D.l2TO (J.extBut _ _ D.l2i1 (I.extBut _ _ D.l2z e))) hy λg4 e ai he=>?_);obtain⟨Z,S,a0⟩:=he;exact ae (ai _ _ D.i2z.symm (U.extBut _ _ D.TOz.symm (J.extBut _ _ D.i1z.symm a4))) (λc o c1 c2 c3 c4 q=>ai _ _ c4 (U.extBut _ _ c2 (J.extBut _ _ c3 (I.extBut _ _ c1 q)))) S a0
end
def yc(a b:Value):Obj:={cls:= .type "tuple",data:= .seq #[a,b]}
def zeN(TI TO:Addr):Obj:={cls:= .type "zip",data:= .fields #[.none,.bool false,.bool false,.ref TI,.ref TO]}
def vC(z I:Sk)(h:Heap)(J l2:Addr):Heap:=
 zh6 (zh6 (zh6 (zh6 (zh6 h (itO z J)) (itO I l2)) (yc (.ref h.objs.size) (.ref (h.objs.size+1)))) (yc .none .none)) (zeN (h.objs.size+2) (h.objs.size+3))
theorem Vs(I J:Sk)(z l2:Addr)(xs ys:Array Value) :
 Meets (Builtin.«zip.__new__» ⟨[.type "zip",.ref z,.ref l2],[]⟩) (λ_ R s=>SqAt I s.heap z xs/\SqAt J s.heap l2 ys/\
  R (.ok (.ret (.ref (s.heap.objs.size+4)))) {s with heap:=vC I J s.heap z l2}):=
 .of_wp λprog w A R s h=>by
  obtain⟨O,g,d,tk,os⟩:=s;obtain⟨Q,S,h⟩:=h;have Z:=sub_zip;have U:SqAt I (Shared.heap ⟨O,g,d,tk,os⟩) z xs:=Q;have Y:SqAt J (Shared.heap ⟨O.push (itO I z),g,d,tk,os⟩) l2 ys:=S.at λo e=>zgY _ e
  wp_walk using QK U,QK Y
  refine⟨_,rfl,?_⟩;simp only [vC,yc,zeN,zhY]at h ⊢;exact h
section
variable{X:Cx}{pins:List (Addr×Obj)}{σ:St}{H:Hp}{s:Shared}{h':Heap}
theorem Inv.turnLaid{t':Nat}{fp:List Addr}{a:Addr}{o:HO}(I:Inv X pins σ H s)(k : ∀b u,b∉fp->s.heap.get? b=some u->h'.get? b=some u)(Q : ∀b∈fp,FpOk X pins H b)
 (S:s.heap.objs.size<=a) (new:ObjOk X.prog X.w (upd H a o) h' a o):Inv X pins σ (upd H a o) {s with heap:=h',toks:=t'}:=by
 have ha:H a=none:=I.hok.fresh S;have U : ∀b u,H b=some u->b∉fp:=λb u e z=>by rw [(Q b z).1]at e;cases e
 have Y : ∀b u,s.heap.get? b=some u->b≠a:=λb u e=>zhz (zhl (zhc e) S);refine I.step (g':=s.gens) (d':=s.drawn) (ch:=fp) (λb J=>⟨(Q b J).2.2.2.1,(Q b J).2.1,(Q b J).2.2.2.2.1,(Q b J).2.2.2.2.2⟩) (λb u _ _ O e _=>k b u O e) (λb u _ _ O e _=>⟨u.slots,k b u O e⟩)
  (λb u _ e n=>by rw [zH (Y b u e)];exact n) (λb u O e=>⟨u,k b u O e⟩) (λb xs e=>by rw [zH (jy e ha)];exact e) (λb ob xs e=>by rw [zH (jy e ha)];exact e)
  (λb ps e=>⟨#[],by rw [zH (jy e ha),e];simp⟩) (λm Z=>?_) (λb u e=>?_) I.bare
 ·obtain⟨ob,es,ep,ho,r⟩:=Z
  refine⟨ob,es,ep,k _ ob (λz=>(Q _ z).2.1 rfl) ho,r⟩
 ·by_cases J:b=a
  ·subst J;rw [zE]at e;cases e;exact new
  ·rw [zH J]at e
   refine(I.hok b u e).stay (λc v O q=>k c v ?_ q) (λc q=>by rw [zH (jy q ha)];exact q) λc xs q=>by rw [zH (jy q ha)];exact q
   rcases O with z | z
   ·rw [z];exact U b u e
   ·exact U c _ z
theorem Inv.turnedL{t':Nat}{fp:List Addr}(I:Inv X pins σ H s)(k : ∀b u,b∉fp->s.heap.get? b=some u->h'.get? b=some u)(O : ∀b∈fp,FpOk X pins H b):Inv X pins σ H {s with heap:=h',toks:=t'}:=by
 have S : ∀b u,H b=some u->b∉fp:=λb u e z=>by rw [(O b z).1]at e;cases e
 refine I.step (g':=s.gens) (d':=s.drawn) (ch:=fp) (λb Q=>⟨(O b Q).2.2.2.1,(O b Q).2.1,(O b Q).2.2.2.2.1,(O b Q).2.2.2.2.2⟩) (λb u _ _ J e _=>k b u J e) (λb u _ _ J e _=>⟨u.slots,k b u J e⟩)
  (λb u _ e n=>n) (λb u J e=>⟨u,k b u J e⟩) (λb xs e=>e) (λb ob xs e=>e)
  (λb ps e=>⟨#[],by rw [e];simp⟩) (λm U=>?_) (λb u e=>?_) I.bare
 ·obtain⟨ob,es,ep,Y,r⟩:=U
  refine⟨ob,es,ep,k _ ob (λz=>(O _ z).2.1 rfl) Y,r⟩
 ·refine(I.hok b u e).stay (λc v J q=>k c v ?_ q) (λc q=>q) λc xs q=>q
  rcases J with z | z
  ·rw [z];exact S b u e
  ·exact S c _ z
end
def SqK(k:Sk)(K:PySem.W.Frag)(H:Hp)(a:Addr)(xs:List V):Prop:=match k with
 | .L=>SqL K H a xs
 | .T=>SqT K H a xs
theorem Inv.sq{X:Cx}{pins:List (Addr×Obj)}{σ:St}{H:Hp}{s:Shared}{k:Sk}{a:Addr}{xs:List V}(I:Inv X pins σ H s)(h:SqK k X.K H a xs) :
 ∃J:List Value,Vals xs J/\SqAt k s.heap a J.toArray/\xs.length<=sizeLine:=by
 cases k with
 | L=>obtain⟨J,r,p,z⟩:=I.list h;exact⟨J,r,p.isList,z⟩
 | T=>obtain⟨J,r,p,z⟩:=I.tuple h;exact⟨J,r,p,z⟩
theorem Inv.sq_inj{X:Cx}{pins:List (Addr×Obj)}{σ:St}{H:Hp}{s:Shared}{k:Sk}{a:Addr}{xs ys:List V}(I:Inv X pins σ H s)(h:SqK k X.K H a xs)(h':SqK k X.K H a ys):xs=ys:=by
 cases k with
 | L=>exact I.list_inj h h'
 | T=>exact I.tuple_inj h h'
def Itz(z I:Sk)(K:PySem.W.Frag)(a b:Addr):It:=
 ⟨λi H=>∃xs ys,SqK z K H a xs/\SqK I K H b ys/\i<xs.length/\i<ys.length,
  λi H x H'=>∃p u v,x = .ref p/\H p=none/\H'=upd H p (.tup [u,v])/\(∀xs,SqK z K H a xs->xs[i]? = some u)/\(∀ys,SqK I K H b ys->ys[i]? = some v),
  λi H=>∃xs ys,SqK z K H a xs/\SqK I K H b ys/\(xs.length<=i\/ys.length<=i)⟩
theorem Vz{P:Program}{w:World}{K:PySem.W.Frag}{elts:List Expr}{x1:Nat}{tpos:Pos}(k1 k2:Sk){z TI TO U Y a b:Addr}(D:ZipApart z TI TO U Y a b) :
 Turn P w K (.Tuple elts x1 tpos) (Itz k1 k2 K a b) [z,TI,TO,U,Y] z (λi h=>IsZip h z TI TO .none/\IsPair h TI (.ref U) (.ref Y)/\(∃c d,IsPair h TO c d)/\ItAt k1 h U a i/\ItAt k2 h Y b i) where
 mem:=by simp
 obj:=λi h ⟨O,S,⟨c,d,Z⟩,h1,h2⟩ y hy=>by
  simp only [zhh,zhP,or_false]at hy;rcases hy with rfl | rfl | rfl | rfl | rfl
  ·exact⟨_,O,λv q=>by cases q⟩
  ·exact⟨_,S,λv q=>by cases q⟩
  ·exact⟨_,Z,λv q=>by cases q⟩
  ·exact h1.obj
  ·exact h2.obj
 keep:=λi h h' ⟨O,S,⟨c,d,Z⟩,h1,h2⟩ k=>
  ⟨k z ⋯ _ O,k TI ⋯ _ S,⟨c,d,k TO ⋯ _ Z⟩,h1.at λo e=>k U ⋯ o e,h2.at λo e=>k Y ⋯ o e⟩
 item:=by
  rintro X hP hw hK hc i pins s σ H E I hf ⟨O,S,⟨c,d,Z⟩,h1,h2⟩ ⟨xs,ys,ab,ac,an,ao⟩;subst hP hw hK;obtain⟨ap,af,p1,z1⟩:=I.sq ab;obtain⟨aq,ah,p2,z2⟩:=I.sq ac;have hx:xs[i]? = some xs[i]:=zg0 an;have hy:ys[i]? = some ys[i]:=zg0 ao;obtain⟨u1,ar,as⟩:=af.get hx;obtain⟨u2,au,av⟩:=ah.get hy;have hT:s.TypeIs (.ref z) "zip":=⟨_,O,rfl⟩;unfold pyNext;refine zgV (zi4 (zhN (name:=zhK "__next__") hT zkl (zhH zkl hT F.entry_zip_next
   (Kc D O S Z h1 h2 p1 p2 (x:=u1) (y:=u2) (by simpa using ar) (by simpa using au) λg a1 a2 a3 a4 a5 a6 a7=>zg1 ⟨_,rfl,?_⟩) (F.args_zip_next_1 _))))
  refine wpAny_letOwnedTupleGo_zip a1 λg2 b9 a0=>?_;have lt : ∀{c o},s.heap.get? c=some o->s.heap.objs.size≠c:=λe=>zin (zhc e);have ba:IsPair g2 s.heap.objs.size u1 u2:=a0.extBut _ _ (lt O) a5;have kk : ∀Q u,Q ∉ [z,TI,TO,U,Y]->s.heap.get? Q=some u->g2.get? Q=some u:=λQ u J e=>by
   simp only [zhh,zhP,or_false,not_or]at J;exact a0.extBut _ _ J.1 (a7 Q u J.1 J.2.2.1 J.2.2.2.1 J.2.2.2.2 e)
  have I1:Inv X pins σ (upd H s.heap.objs.size (.tup [xs[i],ys[i]])) {s with heap:=g2,toks:=s.toks}:=
   I.turnLaid (fp:=[z,TI,TO,U,Y]) kk hf (zg3 _) ⟨by show 2<=sizeLine;decide,[u1,u2],.cons as (.cons av .nil),⟨_,ba,rfl,_,rfl⟩⟩
  have bc:H s.heap.objs.size=none:=I.fresh;refine⟨.ref s.heap.objs.size,_,I1,rfl,⟨_,_,_,rfl,bc,rfl,λbj ai=>by rw [I.sq_inj ai ab];exact hx,λbl ai=>by rw [I.sq_inj ai ac];exact hy⟩,?_,λQ J=>?_⟩
  ·exact⟨b9,a0.extBut _ _ D.TIz (a7 _ _ D.TIz D.TITO D.TIi1 D.TIi2 S),⟨_,_,a0.extBut _ _ D.TOz a2⟩,a3.at λo e=>a0.extBut _ _ D.i1z e,a4.at λo e=>a0.extBut _ _ D.i2z e⟩
  ·have bd:Q≠s.heap.objs.size:=by
    simp only [zhh,zhP,or_false]at J;rcases J with rfl | rfl | rfl | rfl | rfl
    ·exact(lt O).symm
    ·exact(lt S).symm
    ·exact(lt Z).symm
    ·obtain⟨o,e,_⟩:=h1.obj;exact(lt e).symm
    ·obtain⟨o,e,_⟩:=h2.obj;exact(lt e).symm
   rw [zH bd];exact(hf Q J).1
 done:=by
  rintro X hP hw hK hc i pins s σ H E I hf ⟨O,S,⟨c,d,Z⟩,h1,h2⟩ ⟨xs,ys,ab,ac,hi⟩;subst hP hw hK;obtain⟨ap,af,p1,z1⟩:=I.sq ab;obtain⟨aq,ah,p2,z2⟩:=I.sq ac;have hT:s.TypeIs (.ref z) "zip":=⟨_,O,rfl⟩;have l1:=af.length;have l2:=ah.length;unfold pyNext;refine zgV (zi4 (zhN (name:=zhK "__next__") hT zkl (zhH zkl hT F.entry_zip_next
   (Vt (show X.A.handled=none from I.ok.hd hc) D O S Z h1 h2 p1 p2 (by rcases hi with q | q;left;simp;omega;right;simp;omega) λg e hk he=>?_) (F.args_zip_next_1 _))))
  obtain⟨o,ho,bh⟩:=he;refine zgV (ziV (T:="StopIteration") (b:=true) ⟨o,ho,bh⟩ isSubtype_stop (zg1 ⟨rfl,?_⟩));refine I.turnedL (t':=s.toks) (fp:=[z,TI,TO,U,Y]) (λQ u J e=>?_) hf;simp only [zhh,zhP,or_false,not_or]at J;exact hk Q u J.1 J.2.2.1 J.2.2.2.1 J.2.2.2.2 e
 self:=λ_ _ _ _ _ st h=>wpAny_pyIter_zip st.1 h
def zgL(K:PySem.W.Frag)(ta:TA):TI:=λσ H R=>ta σ H λvs H1=>∃z I a b,vs=[.ref a,.ref b]/\(∃xs,SqK z K H1 a xs)/\(∃ys,SqK I K H1 b ys)/\R (Itz z I K a b) H1
theorem zdb{X:Cx}{e1 O:Expr}{ta:TA}{p pos:Pos}{elts:List Expr}{x1:Nat}{tpos:Pos}(hg:Gl X "zip")(hm:X.mg "zip" = none)(ha:PA X [e1,O] ta)
 (hv:bootBuiltins "zip" = some (.type "zip")) (hs:starEach [e1,O] X.env=[(false,eval e1 X.env),(false,eval O X.env)]:=by rfl) (Z:starEach [O] X.env=[(false,eval O X.env)]:=by rfl) :
 PI X (.Tuple elts x1 tpos) (.Call (.Name "zip" p) [e1,O] [] pos) (zgL X.K ta):=by
 intro pins s σ H R I h;refine Call_ (xX I hg hm hv (zhA (thn (ha pos pins s σ H _ I h) λus s1 hZ=>?_) (by rw [hs,Z]) (by rw [Z];rfl)));obtain⟨vs,H1,Q,r1,q1⟩:=hZ;obtain⟨z,J,a,b,e,⟨xs,ad⟩,⟨ys,ae⟩,q⟩:=q1;subst e;obtain⟨w1,w2,eu,ag,ah⟩:=zcp r1;subst eu;cases ag;cases ah;obtain⟨ai,aq,p1,z1⟩:=Q.sq ad;obtain⟨aj,ar,p2,z2⟩:=Q.sq ae;have la:=p1.lt;have lb:=p2.lt;refine callType_new F.called_zip ⋯ (F.typeCall_zip_2 _ _) (F.newCall_zip_2 _ _) (λobj=>F.args_object_init_3 obj _ _) F.entry_zip_new (Vs z J a b ai.toArray aj.toArray) ⟨p1,p2,?_⟩;have keep : ∀c o,s1.heap.get? c=some o->(vC z J s1.heap a b).get? c=some o:=λc o e=>
  zgY _ (zgY _ (zgY _ (zgY _ (zgY _ e))))
 have y1:(zh6 s1.heap (itO z a)).objs.size=s1.heap.objs.size+1:=zhY ..;have y2:(zh6 (zh6 s1.heap (itO z a)) (itO J b)).objs.size=s1.heap.objs.size+2:=by rw [zhY,y1]
 have y3:(zh6 (zh6 (zh6 s1.heap (itO z a)) (itO J b)) (yc (.ref s1.heap.objs.size) (.ref (s1.heap.objs.size+1)))).objs.size=s1.heap.objs.size+3:=by rw [zhY,y2]
 have y4:(zh6 (zh6 (zh6 (zh6 s1.heap (itO z a)) (itO J b)) (yc (.ref s1.heap.objs.size) (.ref (s1.heap.objs.size+1)))) (yc .none .none)).objs.size=s1.heap.objs.size+4:=by rw [zhY,y3]
 have g0:ItAt z (vC z J s1.heap a b) s1.heap.objs.size a 0:=(QL z s1.heap a).at λo e=>zgY _ (zgY _ (zgY _ (zgY _ e)));have g1:ItAt J (vC z J s1.heap a b) (s1.heap.objs.size+1) b 0:=by
  have q:=QL J (zh6 s1.heap (itO z a)) b;rw [y1]at q;exact q.at λo e=>zgY _ (zgY _ (zgY _ e))
 have g2:IsPair (vC z J s1.heap a b) (s1.heap.objs.size+2) (.ref s1.heap.objs.size) (.ref (s1.heap.objs.size+1)):=by
  have q:_=some (yc (.ref s1.heap.objs.size) (.ref (s1.heap.objs.size+1))):=zg6 (zh6 (zh6 s1.heap (itO z a)) (itO J b)) (o:=yc (.ref s1.heap.objs.size) (.ref (s1.heap.objs.size+1))) rfl;rw [y2]at q;exact zgY _ (zgY _ q)
 have g3:IsPair (vC z J s1.heap a b) (s1.heap.objs.size+3) .none .none:=by
  have q:_=some (yc .none .none):=zg6 (zh6 (zh6 (zh6 s1.heap (itO z a)) (itO J b)) (yc (.ref s1.heap.objs.size) (.ref (s1.heap.objs.size+1)))) (o:=yc .none .none) rfl;rw [y3]at q;exact zgY _ q
 have Y:IsZip (vC z J s1.heap a b) (s1.heap.objs.size+4) (s1.heap.objs.size+2) (s1.heap.objs.size+3) .none:=by
  have q:=zg6 (zh6 (zh6 (zh6 (zh6 s1.heap (itO z a)) (itO J b)) (yc (.ref s1.heap.objs.size) (.ref (s1.heap.objs.size+1)))) (yc .none .none)) (o:=zeN (s1.heap.objs.size+2) (s1.heap.objs.size+3)) rfl;rw [y4]at q;exact q
 refine⟨⟨_,Y,rfl⟩,wpAny_pyIter_zip (s:={s1 with heap:=vC z J s1.heap a b}) Y ?_⟩;have I2:Inv X pins σ H1 {s1 with heap:=vC z J s1.heap a b,toks:=s1.toks}:=Q.kept keep;have nn : ∀m:Nat,s1.heap.objs.size≠s1.heap.objs.size+m+1:=λm=>by omega
 have S : ∀m:Nat,a≠s1.heap.objs.size+m:=λm=>zhz (zhl la (zh8 _ m));have U : ∀m:Nat,b≠s1.heap.objs.size+m:=λm=>zhz (zhl lb (zh8 _ m));have ne : ∀m n:Nat,m≠n->(s1.heap.objs.size+m:Nat)≠s1.heap.objs.size+n:=λm n h=>by omega
 have D:ZipApart (s1.heap.objs.size+4) (s1.heap.objs.size+2) (s1.heap.objs.size+3) s1.heap.objs.size (s1.heap.objs.size+1) a b:=
  ⟨ne 2 4 ⋯,ne 3 4 ⋯,ne 0 4 ⋯,ne 1 4 ⋯,ne 2 3 ⋯,ne 2 0 ⋯,ne 2 1 ⋯,ne 3 0 ⋯,ne 3 1 ⋯,ne 0 1 ⋯,
   S 4,S 3,S 0,S 1,U 4,U 3,U 0,U 1⟩
 refine⟨_,[s1.heap.objs.size+4,s1.heap.objs.size+2,s1.heap.objs.size+3,s1.heap.objs.size,s1.heap.objs.size+1],_,_,H1,rfl,I2,Vz z J D,⟨Y,g2,⟨_,_,g3⟩,g0,g1⟩,λc hc=>?_,q⟩;have a5:s1.heap.objs.size<=c:=by
  simp only [zhh,zhP,or_false]at hc;rcases hc with rfl | rfl | rfl | rfl | rfl
  ·exact zh8 _ _
  ·exact zh8 _ _
  ·exact zh8 _ _
  ·exact zg3 _
  ·exact zh8 _ _
 exact Q.fpOk a5 (Q.hok.fresh a5)
def Itk(k:Sk)(K:PySem.W.Frag)(a:Addr):It:=match k with
 | .L=>Itl K a
 | .T=>Itt K a
def zgM(K:PySem.W.Frag)(tl:TE):TI:=λσ H R=>tl σ H λx H1=>∃a k,x = .ref a/\(∃xs,SqK k K H1 a xs)/\R (Itk k K a) H1
theorem zas{X:Cx}{tg l:Expr}{tl:TE}(O:PE X l tl):PI X tg l (zgM X.K tl):=by
 intro pins s σ H R I h;refine thn (O pins s σ H _ I h) λv s1 Q=>?_;obtain⟨x,H1,z,S,U⟩:=Q;obtain⟨a,k,e,⟨xs,Y⟩,q⟩:=U;subst e;cases S;have J : ∀b ∈ [s1.heap.objs.size],FpOk X pins H1 b:=λb Z=>by
  have e:b=s1.heap.objs.size:=by simpa using Z
  subst e;exact z.fpOk (zg3 _) (z.hok.fresh (zg3 _))
 obtain⟨a0,rv,p,hz⟩:=z.sq Y;cases k with
 | L=>exact zkP p ⟨s1.heap.objs.size,[s1.heap.objs.size],_,_,H1,rfl,z.kept (t':=s1.toks) λb o e=>zgY _ e,Kg a _,⟨_,zg6 _ rfl,rfl,rfl⟩,J,q⟩
 | T=>exact wpAny_pyIter_tuple p ⟨s1.heap.objs.size,[s1.heap.objs.size],_,_,H1,rfl,z.kept (t':=s1.toks) λb o e=>zgY _ e,Xd a _,⟨_,zg6 _ rfl,rfl,rfl⟩,J,q⟩
section
variable{X:Cx}{pins:List (Addr×Obj)}{σ:St}{H:Hp}{s:Shared}{a:Addr}{y v:V}{u r:Value}{o:Option V}{A:Around}{E:Value->Shared->Prop}
theorem Inv.big(I:Inv X pins σ H s):sysModules<s.heap.objs.size:=by
 have h:mainGlobals<s.heap.objs.size:=(I.mod.glob.keeps I.bk).lt;exact Nat.lt_trans ⋯ h
end
def zgt(i:Expr):Prop:=∀z I,subscripted i false z I=operate [z,I] (getItem z I)
theorem zaQ{prog:Program}{w:World}{A:Around}{E:Value->Shared->Prop}{s:Shared}{env:Env}{value z:Expr}{pos:Pos}{T id:String}{Q:Value->Shared->Prop}
 (Z:typeLookup (.type T) "__getitem__" = pure (some (.builtin id))) (hs:zgt z)
 (h:wpAny (model prog w) A (eval value env) (λo S=>wpAny (model prog w) A (eval z env) (λi I=>I.TypeIs o T/\wpAny (model prog w) A (getItem o i) Q E I) E S) E s) :
 wpAny (model prog w) A (eval (.Subscript value z pos) env) Q E s:=by
 refine Subscript_ (ziX h (λo S h₁=>ziX h₁ (λi I J=>?_) λ_ _ x=>x) λ_ _ x=>x);obtain⟨U,J⟩:=J;unfold subscriptTail;refine zgV ?_;rw [getitemInPython_of_ne U.not_modules];refine zgV (zjo U Z ?_);have O:wpAny (model prog w) A (subscripted z false o i) (λr Y=>wpAny (model prog w) A (letTemporaryGo value o r >>= λ_=>pure r) Q E Y) E I:=by
  rw [hs o i];exact wpAny_operating (ziX J (λr Y h₃=>zgV (wpAny_letTemporaryGo (zg1 h₃))) λ_ _ x=>x)
 first
  | exact zg1 (zgV O)
  | exact zgV (zg1 (zgV O))
  | exact zgV O
end L2
namespace DL
open PySem PySem.Spec PyProof.Rows L2
def xNames:List Str:=["NoPrime","Nought","NoTable","NoWidths","NoRow","Unlike","TooMany","NoTurn","NoLine","Nothing","NoArrow","NoText","NoRoom"]
def xCls(K:PySem.W.Frag)(c:Str):Option Addr:=match zjB K mainGlobals c with
 | some (some (.ref C))=>some C
 | _=>none
def zgw(K:PySem.W.Frag)(C:Addr):Bool:=
 ["int","bool","str","tuple","list"].all (λt=>zka K (.ref C) (.type t)==some false) && zka K (.ref C) (.type "ValueError")==some true &&
 PySem.W.findIn K (.ref C) "__getattribute__" == some (some (.builtin "BaseException.__getattribute__")) && PySem.W.findIn K (.ref C) "__getattr__" == some none &&
 PySem.W.findIn K (.ref C) "__class__" == some (some (.builtin "object.__class__")) && zju K C (.type "object")==some true && zju K C (.type "BaseException")==some true &&
 zjI K (.builtin "object.__class__") "__get__" == some (some (.builtin "getset_descriptor.__get__")) && PySem.W.takesIn K (.builtin "object.__class__")==some true &&
 (PySem.W.clsIn K C).any (λz=> !z.hasDel) && zjC K (.ref C)==some (.type "type")
def xAll(K:PySem.W.Frag):Bool:=match xCls K "SplitError" with
 | some S=>xNames.all λc=>match xCls K c with
  | some C=>zgw K C && zka K (.ref C) (.ref S)==some true && xNames.all λz=>match xCls K z with
   | some I=>zka K (.ref C) (.ref I)==some (c==z)
   | none=>false
  | none=>false
 | none=>false
def XObj(h:Heap)(a:Addr)(C:Addr):Prop:=∃o vs,h.get? a=some o/\o.cls = .ref C/\o.data = .fields vs
structure XRep(K:PySem.W.Frag)(H:Hp)(c:Str)(n:Option Int)(a:Addr):Prop where
 all:xAll K=true
 mem:c∈xNames
 ex : ∃C φ,xCls K c=some C/\H a=some (.ext φ)/\(∀h,φ h->XObj h a C)/\
  match n with
  | none=>True
  | some i=>∃d,(∀h,φ h->∃o,h.get? a=some o/\o.dict=some d)/\H d=some (.xd [(if c==("NoRoom" : Str)then "room" else "at",.int i)])
theorem XRep.mono{K:PySem.W.Frag}{H H':Hp}{c:Str}{n:Option Int}{a:Addr}(e : ∀b o,H b=some o->H' b=some o)(h:XRep K H c n a):XRep K H' c n a:=by
 obtain⟨h1,h2,C,φ,I,g2,J,z⟩:=h;refine⟨h1,h2,C,φ,I,e _ _ g2,J,?_⟩;cases n with
 | none=>exact z
 | some i=>obtain⟨d,O,Q⟩:=z;exact⟨d,O,e _ _ Q⟩
abbrev St:=L2.St
def zfm:D->Option Key
 | .int i=>some (.inl i)
 | .str x=>some (.inr x)
 | _=>none
def zaB:List D->Option (List Key)
 | []=>some []
 | d::ds=>(zfm d).bind λk=>(zaB ds).map λr=>k::r
def DRp(H:Hp)(a:Addr)(ks:List D)(xs:List V):Prop:=∃kk,zaB ks=some kk/\kk.length=xs.length/\H a=some (.dK (kk.zip xs))
def Kk(k:List Int):Int:=reduceHash (Builtin.Tuple.tupleHashOf (k.map hashInt))
def X7(o:Obj)(xs:List (List Int×Addr×Value)):Prop:=o.ExactDict/\∃es ep,o.data = .dict es ep/\es.toList=xs.map (λx=>⟨Kk x.1,.ref x.2.1,x.2.2⟩)/\(xs.map (·.1)).Nodup
def atO(a:Addr)(o:Obj):HO:= .ext λh=>h.get? a=some o
def DRt(K:PySem.W.Frag)(H:Hp)(a:Addr)(ks:List (List Int))(ys:List V):Prop:=
 (a==sysModules)=false/\∃o xs,H a=some (atO a o)/\X7 o xs/\xs.map (·.1)=ks/\xs.length<=sizeLine/\(∀x∈xs,SqT K H x.2.1 (x.1.map V.int))/\Vals ys (xs.map (·.2.2))
mutual
def Rep(K:PySem.W.Frag)(H:Hp):D->V->Prop
 | .non,v=>v = .non
 | .bl b,v=>v = .bl b
 | .int i,v=>v = .int i
 | .str x,v=>v = .str x
 | .tup ds,v=>∃a xs,v = .ref a/\SqT K H a xs/\Reps K H ds xs
 | .lst ds,v=>∃a xs,v = .ref a/\SqL K H a xs/\Reps K H ds xs
 | .exc c n,v=>∃a,v = .ref a/\XRep K H c n a
 | .dic ks vs,v=>∃a xs,v = .ref a/\DRp H a ks xs/\Reps K H vs xs
 | .dct ks vs,v=>∃a xs,v = .ref a/\DRt K H a ks xs/\Reps K H vs xs
def Reps(K:PySem.W.Frag)(H:Hp):List D->List V->Prop
 | [],xs=>xs=[]
 | d::ds,xs=>∃x r,xs=x::r/\Rep K H d x/\Reps K H ds r
end
theorem sameT{K:PySem.W.Frag}{H H':Hp}{a:Addr}{xs:List V}(e:Same H H')(h:SqT K H a xs):SqT K H' a xs:=by
 rcases h with(h | ⟨o,h⟩) | h
 ·exact .inl (.inl (e _ _ h))
 ·exact .inl (.inr ⟨o,e _ _ h⟩)
 ·exact .inr h
theorem Zy{k:Sk}{K:PySem.W.Frag}{H H':Hp}{a:Addr}{xs:List V}(e:Same H H')(h:SqK k K H a xs):SqK k K H' a xs:=by
 cases k
 ·exact e.seq h
 ·exact sameT e h
mutual
theorem Rep.mono{K:PySem.W.Frag}{H H':Hp}(e:Same H H') : ∀{d:D} {v:V},Rep K H d v->Rep K H' d v
 | .non,_,h=>h
 | .bl _,_,h=>h
 | .int _,_,h=>h
 | .str _,_,h=>h
 | .tup ds,v,h=>by
  obtain⟨a,xs,e1,h1,h2⟩:=(show ∃a xs,v = .ref a/\SqT K H a xs/\Reps K H ds xs from h);exact(show ∃a xs,v = .ref a/\SqT K H' a xs/\Reps K H' ds xs from⟨a,xs,e1,sameT e h1,Reps.mono e h2⟩)
 | .lst ds,v,h=>by
  obtain⟨a,xs,e1,h1,h2⟩:=(show ∃a xs,v = .ref a/\SqL K H a xs/\Reps K H ds xs from h);exact(show ∃a xs,v = .ref a/\SqL K H' a xs/\Reps K H' ds xs from⟨a,xs,e1,e.seq h1,Reps.mono e h2⟩)
 | .exc c n,v,h=>by
  obtain⟨a,e1,h1⟩:=(show ∃a,v = .ref a/\XRep K H c n a from h);exact(show ∃a,v = .ref a/\XRep K H' c n a from⟨a,e1,h1.mono e⟩)
 | .dic ks vs,v,h=>by
  obtain⟨a,xs,e1,⟨kk,z,g2,I⟩,h2⟩:=(show ∃a xs,v = .ref a/\DRp H a ks xs/\Reps K H vs xs from h);exact(show ∃a xs,v = .ref a/\DRp H' a ks xs/\Reps K H' vs xs from⟨a,xs,e1,⟨kk,z,g2,e _ _ I⟩,Reps.mono e h2⟩)
 | .dct ks vs,v,h=>by
  obtain⟨a,xs,e1,⟨z,o,zs,g2,I,J,O,g6,Q⟩,h2⟩:=(show ∃a xs,v = .ref a/\DRt K H a ks xs/\Reps K H vs xs from h);exact(show ∃a xs,v = .ref a/\DRt K H' a ks xs/\Reps K H' vs xs from⟨a,xs,e1,⟨z,o,zs,e _ _ g2,I,J,O,λx hx=>sameT e (g6 x hx),Q⟩,Reps.mono e h2⟩)
theorem Reps.mono{K:PySem.W.Frag}{H H':Hp}(e:Same H H') : ∀{ds:List D} {xs:List V},Reps K H ds xs->Reps K H' ds xs
 | [],_,h=>h
 | d::ds,xs,h=>by
  obtain⟨x,r,e1,h1,h2⟩:=(show ∃x r,xs=x::r/\Rep K H d x/\Reps K H ds r from h);exact(show ∃x r,xs=x::r/\Rep K H' d x/\Reps K H' ds r from⟨x,r,e1,Rep.mono e h1,Reps.mono e h2⟩)
end
section
variable{K:PySem.W.Frag}{H:Hp}
theorem Reps.nil:Reps K H [] []:=(show([]:List V)=[]from rfl)
theorem Reps.cons{d:D}{ds:List D}{x:V}{xs:List V}(h:Rep K H d x)(t:Reps K H ds xs):Reps K H (d::ds) (x::xs):=⟨x,xs,rfl,h,t⟩
theorem Reps.inv_nil{xs:List V}(h:Reps K H [] xs):xs=[]:=h
theorem Reps.inv_cons{d:D}{ds:List D}{xs:List V}(h:Reps K H (d::ds) xs) : ∃x r,xs=x::r/\Rep K H d x/\Reps K H ds r:=h
theorem Reps.length : ∀{ds:List D} {xs:List V},Reps K H ds xs->xs.length=ds.length
 | [],xs,h=>by rw [h.inv_nil];rfl
 | d::ds,xs,h=>by
  obtain⟨x,r,e,_,t⟩:=h.inv_cons;rw [e,zhE,zhE,Reps.length t]
theorem Reps.get : ∀{ds:List D} {xs:List V} {i:Nat} {d:D},Reps K H ds xs->ds[i]? = some d->∃x,xs[i]? = some x/\Rep K H d x
 | [],_,_,_,_,e=>by simp at e
 | c::ds,xs,0,d,h,e=>by
  obtain⟨x,r,e1,h1,_⟩:=h.inv_cons;simp at e;subst e;exact⟨x,by rw [e1];rfl,h1⟩
 | c::ds,xs,i+1,d,h,e=>by
  obtain⟨x,r,e1,_,t⟩:=h.inv_cons;obtain⟨y,z,g2⟩:=Reps.get (i:=i) (d:=d) t (by simpa using e);exact⟨y,by rw [e1];simpa using z,g2⟩
theorem Reps.getV{ds:List D}{xs:List V}{i:Nat}{x:V}(h:Reps K H ds xs)(e:xs[i]? = some x) : ∃d,ds[i]? = some d/\Rep K H d x:=by
 have hi:i<ds.length:=by rw [<- h.length];exact(zhe.mp e).1
 obtain⟨y,e1,r⟩:=h.get (zg0 hi);rw [e]at e1;cases e1;exact⟨_,zg0 hi,r⟩
theorem Reps.append : ∀{ds es:List D} {xs ys:List V},Reps K H ds xs->Reps K H es ys->Reps K H (ds++es) (xs++ys)
 | [],_,xs,_,h,g=>by rw [h.inv_nil];exact g
 | d::ds,es,xs,ys,h,g=>by
  obtain⟨x,r,e,h1,t⟩:=h.inv_cons;rw [e];exact Reps.cons h1 (Reps.append t g)
theorem Reps.drop : ∀{ds:List D} {xs:List V} (n:Nat),Reps K H ds xs->Reps K H (ds.drop n) (xs.drop n)
 | _,_,0,h=>h
 | [],xs,n+1,h=>by rw [h.inv_nil];exact Reps.nil
 | d::ds,xs,n+1,h=>by
  obtain⟨x,r,e,_,t⟩:=h.inv_cons;rw [e];exact Reps.drop n t
theorem Reps.take : ∀{ds:List D} {xs:List V} (n:Nat),Reps K H ds xs->Reps K H (ds.take n) (xs.take n)
 | _,_,0,h=>by simp;exact Reps.nil
 | [],xs,n+1,h=>by rw [h.inv_nil];exact Reps.nil
 | d::ds,xs,n+1,h=>by
  obtain⟨x,r,e,h1,t⟩:=h.inv_cons;rw [e];exact Reps.cons h1 (Reps.take n t)
end
structure Ext(H0 H H0' H':Hp):Prop where
 s0:Same H0 H0'
 s1:Same H H'
 sub:Same H0' H'
 new : ∀a,H0 a=none->H a≠none->H0' a=none
theorem Ext.refl{H0 H:Hp}(s:Same H0 H):Ext H0 H H0 H:=⟨Same.refl _,Same.refl _,s,λ_ h _=>h⟩
theorem Ext.trans{H0 H H1 z H2 I:Hp}(a:Ext H0 H H1 z)(b:Ext H1 z H2 I):Ext H0 H H2 I:=
 ⟨a.s0.trans b.s0,a.s1.trans b.s1,b.sub,λc h1 h2=>b.new c (a.new c h1 h2) (by
  cases q:H c with
  | none=>exact absurd q h2
  | some o=>rw [a.s1 c o q];simp)⟩
theorem zU{H:Hp}{p:Addr}(h:H p=none)(o:HO):Same H (upd H p o):=λb u q=>by rw [zH (jy q h)];exact q
theorem jv{H0 H:Hp}(s:Same H0 H){p:Addr}(h:H p=none):H0 p=none:=s.free h
theorem Kx{H0 H:Hp}{p:Addr}{o:HO}(s:Same H0 H):Same (upd H0 p o) (upd H p o):=λb u q=>by
 by_cases e:b=p
 ·subst e;rw [zE]at q ⊢;exact q
 ·rw [zH e]at q ⊢;exact s b u q
theorem Ext.alloc{H0 H:Hp}{p:Addr}(s:Same H0 H)(h:H p=none)(o:HO):Ext H0 H (upd H0 p o) (upd H p o):=
 ⟨zU (jv s h) o,zU h o,Kx s,λa h1 h2=>by rw [zH (λe=>h2 (by rw [e];exact h))];exact h1⟩
theorem Ext.hide{H0 H:Hp}{p:Addr}(s:Same H0 H)(h:H p=none)(o:HO):Ext H0 H H0 (upd H p o):=
 ⟨Same.refl _,zU h o,s.trans (zU h o),λa h1 _=>h1⟩
theorem Ext.show{H0 H H0' H':Hp}{a:Addr}{o:HO}(e:Ext H0 H H0' H')(h1:H a=none)(h2:H0' a=none)(J:H' a=some o)(s:Same H0 H):Ext H0 H (upd H0' a o) H':=
 ⟨e.s0.trans (zU h2 o),e.s1,λb u q=>by
  by_cases z:b=a
  ·subst z;rw [zE]at q;rw [J];exact q
  ·rw [zH z]at q;exact e.sub b u q,λb O I=>by
  rw [zH (λz=>I (by rw [z];exact h1))];exact e.new b O I⟩
structure Nest(K:PySem.W.Frag)(H0 H:Hp)(rows:List (List D))(a:Addr)(bs:List Addr):Prop where
 a0:H0 a=none
 ha:H a=some (.lst (bs.map V.ref))
 nd:(a::bs).Nodup
 len:bs.length=rows.length
 row : ∀(k:Nat) b row,bs[k]? = some b->rows[k]? = some row->H0 b=none/\∃xs,H b=some (.lst xs)/\Reps K H0 row xs
theorem Nest.at{K:PySem.W.Frag}{H0 H:Hp}{rows:List (List D)}{a:Addr}{bs:List Addr}(n:Nest K H0 H rows a bs){b:Addr}(z:b∈a::bs):H0 b=none/\∃xs,H b=some (.lst xs):=by
 rcases zhh.mp z with rfl | z
 ·exact⟨n.a0,_,n.ha⟩
 ·obtain⟨k,I⟩:=List.getElem?_of_mem z
  have J:=(zhe.mp I).1;rw [n.len]at J;obtain⟨h1,xs,h2,_⟩:=n.row k b _ I (zg0 J);exact⟨h1,xs,h2⟩
theorem Nest.move{K:PySem.W.Frag}{H0 H H0' H':Hp}{rows:List (List D)}{a:Addr}{bs:List Addr}(n:Nest K H0 H rows a bs)(s:Same H0 H0')(z : ∀b∈a::bs,H0' b=none)(h : ∀b∈a::bs,H' b=H b):Nest K H0' H' rows a bs:=
 ⟨z a zhj,by rw [h a zhj];exact n.ha,n.nd,n.len,λk b row I O=>by
  obtain⟨_,xs,h2,Q⟩:=n.row k b row I O;have J:b∈a::bs:=zhg _ (zit I);exact⟨z b J,xs,by rw [h b J];exact h2,Q.mono s⟩⟩
def NestOk(K:PySem.W.Frag)(H0 H:Hp)(σ:St)(γ:Ctx):Prop:=
 (∀(i:Nat) rows,γ[i]? = some (.nest rows)->∃a bs,σ[i]? = some (some (.ref a))/\Nest K H0 H rows a bs/\∀(j:Nat) ds c,γ[j]? = some (.own ds)->σ[j]? = some (some (.ref c))->c∉a::bs)/\
 ∀(i j:Nat) z r2,γ[i]? = some (.nest z)->γ[j]? = some (.nest r2)->i=j
theorem NestOk.nil0{K:PySem.W.Frag}{H0 H:Hp}{σ:St}{γ:Ctx}(h : ∀(i:Nat) rows,γ[i]? ≠ some (.nest rows)):NestOk K H0 H σ γ:=⟨λi rows e=>absurd e (h i rows),λi j z r2 e=>absurd e (h i z)⟩
theorem NestOk.move{K:PySem.W.Frag}{H0 H H0' H':Hp}{σ:St}{γ:Ctx}(n:NestOk K H0 H σ γ)(s:Same H0 H0')(h : ∀(i:Nat) rows a bs,γ[i]? = some (.nest rows)->σ[i]? = some (some (.ref a))->Nest K H0 H rows a bs->(∀(j:Nat) ds c,γ[j]? = some (.own ds)->σ[j]? = some (some (.ref c))->c∉a::bs)->∀b∈a::bs,H0' b=none/\H' b=H b):NestOk K H0' H' σ γ:=
 ⟨λi rows e=>by
  obtain⟨a,bs,h1,h2,z⟩:=n.1 i rows e;exact⟨a,bs,h1,h2.move s (λb I=>(h i rows a bs e h1 h2 z b I).1) (λb I=>(h i rows a bs e h1 h2 z b I).2),z⟩,n.2⟩
theorem NestOk.ext{K:PySem.W.Frag}{H0 H H0' H':Hp}{σ:St}{γ:Ctx}(n:NestOk K H0 H σ γ)(e:Ext H0 H H0' H'):NestOk K H0' H' σ γ:=
 n.move e.s0 λi rows a bs _ _ h2 _ b z=>by
  obtain⟨I,xs,g2⟩:=h2.at z;exact⟨e.new b I (by rw [g2];simp),by rw [e.s1 b _ g2,g2]⟩
structure RC(K:PySem.W.Frag)(H0 H:Hp)(σ:St)(γ:Ctx):Prop where
 sub:Same H0 H
 len:σ.length=γ.length
 val : ∀(i:Nat) d,γ[i]? = some (.val d)->∃v,σ[i]? = some (some v)/\Rep K H0 d v
 own : ∀(i:Nat) ds,γ[i]? = some (.own ds)->∃a xs,σ[i]? = some (some (.ref a))/\H0 a=none/\H a=some (.lst xs)/\Reps K H0 ds xs
 ne : ∀(i j:Nat) a ds es,γ[i]? = some (.own ds)->γ[j]? = some (.own es)->σ[i]? = some (some (.ref a))->σ[j]? = some (some (.ref a))->i=j
 nst:NestOk K H0 H σ γ
theorem RC.ext{K:PySem.W.Frag}{H0 H H0' H':Hp}{σ:St}{γ:Ctx}(r:RC K H0 H σ γ)(e:Ext H0 H H0' H'):RC K H0' H' σ γ:=
 ⟨e.sub,r.len,λi d h=>let ⟨v,h1,h2⟩:=r.val i d h;⟨v,h1,h2.mono e.s0⟩,
  λi ds h=>let ⟨a,xs,h1,h2,z,I⟩:=r.own i ds h;⟨a,xs,h1,e.new a h2 (by rw [z];simp),e.s1 _ _ z,I.mono e.s0⟩,r.ne,r.nst.ext e⟩
def tV(K:PySem.W.Frag)(f:CO D):TE:=λσ H Q=>∃H0 γ d,RC K H0 H σ γ/\f γ=some d/\∀v H' H0',Ext H0 H H0' H'->Rep K H0' d v->Q v H'
def tQ(K:PySem.W.Frag)(f:CO (Sk×List D)):TE:=λσ H Q=>∃H0 γ k ds,RC K H0 H σ γ/\f γ=some (k,ds)/\∀a xs H' H0',Ext H0 H H0' H'->SqK k K H' a xs->(k = .T->SqT K H0' a xs)->Reps K H0' ds xs->Q (.ref a) H'
def tO(K:PySem.W.Frag)(f:CO (List D)):TE:=λσ H Q=>∃H0 γ ds,RC K H0 H σ γ/\f γ=some ds/\
 ∀a xs H' H0',Ext H0 H H0' H'->H a=none->H0' a=none->H' a=some (.lst xs)->Reps K H0' ds xs->Q (.ref a) H'
def tT(K:PySem.W.Frag)(f:CO Bool):TT:=λσ H Q=>∃H0 γ b,RC K H0 H σ γ/\f γ=some b/\∀H' H0',Ext H0 H H0' H'->Q b H'
def tA(K:PySem.W.Frag)(f:CO (List D)):TA:=λσ H Q=>∃H0 γ ds,RC K H0 H σ γ/\f γ=some ds/\∀vs H' H0',Ext H0 H H0' H'->Reps K H0' ds vs->Q vs H'
abbrev PV(X:Cx)(e:Expr)(f:CO D):Prop:=PE X e (tV X.K f)
abbrev PQ(X:Cx)(e:Expr)(f:CO (Sk×List D)):Prop:=PE X e (tQ X.K f)
abbrev PO(X:Cx)(e:Expr)(f:CO (List D)):Prop:=PE X e (tO X.K f)
abbrev PTD(X:Cx)(e:Expr)(f:CO Bool):Prop:=PT X e (tT X.K f)
abbrev PWD(X:Cx)(e:Expr)(f:CO Bool):Prop:=PW X e (tT X.K f)
abbrev PAD(X:Cx)(es:List Expr)(f:CO (List D)):Prop:=PA X es (tA X.K f)
theorem j5{X:Cx}{e:Expr}{t t':TE}(h:PE X e t)(i : ∀σ H Q,t' σ H Q->t σ H Q):PE X e t':=λpins s σ H Q I q=>h pins s σ H Q I (i σ H Q q)
theorem V1{X:Cx}{e:Expr}{t t':TT}(h:PT X e t)(i : ∀σ H Q,t' σ H Q->t σ H Q):PT X e t':=λpins s σ H Q I q=>h pins s σ H Q I (i σ H Q q)
theorem zc2{X:Cx}{e:Expr}{t t':TT}(h:PW X e t)(i : ∀σ H Q,t' σ H Q->t σ H Q):PW X e t':=λz pins s σ H Q I q=>h z pins s σ H Q I (i σ H Q q)
theorem zdm{X:Cx}{es:List Expr}{t t':TA}(h:PA X es t)(i : ∀σ H Q,t' σ H Q->t σ H Q):PA X es t':=λpos pins s σ H Q I q=>h pos pins s σ H Q I (i σ H Q q)
theorem xQ{X:Cx}{st:Stmt}{t t':TS}(h:PS X st t)(i : ∀D σ H,t' D σ H->t D σ H):PS X st t':=λpins s σ H D I q=>h pins s σ H D I (i D σ H q)
theorem zan{X:Cx}{st:List Stmt}{t t':TS}(h:PSs X st t)(i : ∀D σ H,t' D σ H->t D σ H):PSs X st t':=λpins s σ H D I q=>h pins s σ H D I (i D σ H q)
theorem ZM{X:Cx}{tg e:Expr}{t t':TI}(h:PI X tg e t)(i : ∀σ H R,t' σ H R->t σ H R):PI X tg e t':=λpins s σ H R I q=>h pins s σ H R I (i σ H R q)
theorem kj{n:Nat}(h:n<=lim):n<=sizeLine:=zh2 h ⋯
section
variable{X:Cx}{e a b c:Expr}{pos:Pos}
theorem PV.q{f:CO D}(h:PV X e f):PQ X e (zA f):=j5 h λσ H Q S=>by
 obtain⟨H0,γ,k,ds,rc,I,q⟩:=S;unfold zA at I;cases e1:f γ with
 | none=>rw [e1]at I;cases I
 | some d=>
  rw [e1]at I;refine⟨H0,γ,d,rc,e1,λv H' H0' ext r=>?_⟩;cases d with
  | tup es=>
   obtain⟨J,O⟩:k = .T/\ds=es:=by simp [jw]at I;exact⟨I.1.symm,I.2.symm⟩
   subst J O;obtain⟨a,xs,rfl,h1,h2⟩:=(show ∃a xs,v = .ref a/\SqT X.K H0' a xs/\Reps X.K H0' ds xs from r);exact q a xs H' H0' ext (sameT ext.sub h1) (λ_=>h1) h2
  | lst es=>
   obtain⟨J,O⟩:k = .L/\ds=es:=by simp [jw]at I;exact⟨I.1.symm,I.2.symm⟩
   subst J O;obtain⟨a,xs,rfl,h1,h2⟩:=(show ∃a xs,v = .ref a/\SqL X.K H0' a xs/\Reps X.K H0' ds xs from r);exact q a xs H' H0' ext (ext.sub.seq h1) (λz=>nomatch z) h2
  | _=>simp [jw]at I
theorem PO.v{f:CO (List D)}(h:PO X e f):PV X e (jk f):=j5 h λσ H Q O=>by
 obtain⟨H0,γ,d,rc,z,q⟩:=O;unfold jk at z;cases e1:f γ with
 | none=>rw [e1]at z;cases z
 | some ds=>
  rw [e1]at z;cases z;refine⟨H0,γ,ds,rc,e1,λa xs H' H0' ext h1 h2 S r=>?_⟩;exact q _ _ _ (ext.show h1 h2 S rc.sub) (show ∃I J,V.ref a = .ref I/\SqL X.K _ I J/\Reps X.K _ ds J from⟨a,xs,rfl,SqL.of zE,r.mono (zU h2 _)⟩)
theorem PO.q{f:CO (List D)}(h:PO X e f):PQ X e (jz f):=j5 h λσ H Q J=>by
 obtain⟨H0,γ,k,ds,rc,I,q⟩:=J;unfold jz at I;cases e1:f γ with
 | none=>rw [e1]at I;cases I
 | some es=>
  rw [e1]at I;cases I;exact⟨H0,γ,_,rc,e1,λa xs H' H0' ext h1 h2 O r=>q a xs H' H0' ext (SqL.of O) (λz=>nomatch z) r⟩
theorem ze(i:Nat)(h:PE X e (vG i)):PV X e (zc i):=j5 h λσ H Q I=>by
 obtain⟨H0,γ,d,rc,z,q⟩:=I;unfold zc at z;cases e1:γ[i]? with
 | none=>rw [e1]at z;cases z
 | some c=>
  rw [e1]at z;cases c with
  | val d'=>
   cases z;obtain⟨v,h1,h2⟩:=rc.val i d e1;exact⟨v,h1,q v H H0 (Ext.refl rc.sub) h2⟩
  | no=>cases z
  | own ds=>cases z
  | nest rows=>cases z
theorem zx(i:Nat)(h:PE X e (vG i)):PQ X e (zf i):=j5 h λσ H Q U=>by
 obtain⟨H0,γ,k,ds,rc,I,q⟩:=U;unfold zf at I;cases e1:γ[i]? with
 | none=>rw [e1]at I;cases I
 | some c=>
  rw [e1]at I;cases c with
  | no=>cases I
  | nest rows=>cases I
  | own es=>
   cases I;obtain⟨a,xs,h1,h2,Y,Z⟩:=rc.own i ds e1;exact⟨_,h1,q a xs H H0 (Ext.refl rc.sub) (SqL.of Y) (λz=>nomatch z) Z⟩
  | val d=>
   obtain⟨v,h1,h2⟩:=rc.val i d e1;refine⟨v,h1,?_⟩;cases d with
   | tup es=>
    obtain⟨O,S⟩:k = .T/\ds=es:=by simp [xA,jw]at I;exact⟨I.1.symm,I.2.symm⟩
    subst O S;obtain⟨a,xs,rfl,J,g2⟩:=(show ∃a xs,v = .ref a/\SqT X.K H0 a xs/\Reps X.K H0 ds xs from h2);exact q a xs H H0 (Ext.refl rc.sub) (sameT rc.sub J) (λ_=>J) g2
   | lst es=>
    obtain⟨O,S⟩:k = .L/\ds=es:=by simp [xA,jw]at I;exact⟨I.1.symm,I.2.symm⟩
    subst O S;obtain⟨a,xs,rfl,J,g2⟩:=(show ∃a xs,v = .ref a/\SqL X.K H0 a xs/\Reps X.K H0 ds xs from h2);exact q a xs H H0 (Ext.refl rc.sub) (rc.sub.seq J) (λz=>nomatch z) g2
   | _=>simp [xA,jw]at I
theorem wJ{d:D}{v:V}(h:PE X e (tC v))(r : ∀H,Rep X.K H d v):PV X e (zg d):=j5 h λσ H Q z=>by
 obtain⟨H0,γ,d',rc,I,q⟩:=z;cases I;exact q v H H0 (Ext.refl rc.sub) (r H0)
theorem zm{i:Int}{j:Nat}:PV X (.Constant (.int i) j pos) (zg (.int i)):=wJ zdi λ_=>(show V.int i = .int i from rfl)
theorem zbi{x:Bool}{j:Nat}:PV X (.Constant (.bool x) j pos) (zg (.bl x)):=wJ zfc λ_=>(show V.bl x = .bl x from rfl)
theorem vZ{x:Str}{j:Nat}:PV X (.Constant (.str x) j pos) (zg (.str x)):=wJ zat λ_=>(show V.str x = .str x from rfl)
def Snd(K:PySem.W.Frag)(r:R2)(F:D->D->Option D):Prop:=∀H0 H x y dx z d Q,Same H0 H->Rep K H0 dx x->Rep K H0 z y->F dx z=some d->(∀v H' H0',Ext H0 H H0' H'->Rep K H0' d v->Q v H')->r x y H Q
theorem bind_some{α β:Type}{o:Option α}{f:α->Option β}{y:β}(h:o.bind f=some y) : ∃x,o=some x/\f x=some y:=by
 cases o with
 | none=>cases h
 | some x=>exact⟨x,rfl,h⟩
theorem JI{K:PySem.W.Frag}{r:R2}{F:D->D->Option D}{fa fb:CO D}(J:Snd K r F) : ∀σ H Q,tV K (zu F fa fb) σ H Q->tOp r (tV K fa) (tV K fb) σ H Q:=λσ H Q O=>by
 obtain⟨H0,γ,d,rc,z,q⟩:=O;obtain⟨x,e1,z⟩:=bind_some z;obtain⟨y,S,z⟩:=bind_some z;refine⟨H0,γ,x,rc,e1,λU H1 Y x1 Z=>⟨Y,γ,y,rc.ext x1,S,λv2 H2 a1 I r2=>?_⟩⟩;exact J a1 H2 U v2 x y d Q I.sub (Z.mono I.s0) r2 z λv H' H0' x3 r3=>q v H' H0' (x1.trans (I.trans x3)) r3
theorem v0{z:Operator}{r:R2}{F:D->D->Option D}{fa fb:CO D}(I:OpR X (binaryOp z) r)(J:Snd X.K r F)(ha:PV X a fa)(O:PV X b fb):PV X (.BinOp a z b pos) (zu F fa fb):=
 j5 (zbt I ha O) (JI J)
theorem zak{z:CmpOp}{r:R2}{F:D->D->Option D}{fa fb:CO D}(I:OpR X (compareOp z) r)(J:Snd X.K r F)(ha:PV X a fa)(O:PV X b fb)(Q:behindInMarks z b=false):PV X (.Compare a [z] [b] pos) (zu F fa fb):=
 j5 (zbv I ha O Q) (JI J)
theorem Q6{d:D}{b:Bool}(h:asB d=some b):d = .bl b:=by cases d<;>simp [asB]at h;rw [h]
theorem wL{z:CmpOp}{r:R2}{F:D->D->Option D}{fa fb:CO D}(J:OpR X (compareOp z) r)(O:Snd X.K r F)(ha:PV X a fa)(S:PV X b fb)(U:behindInMarks z b=false):PTD X (.Compare a [z] [b] pos) (sB (zu F fa fb)):=
 V1 (KS J ha S U) λσ H Q Y=>by
  obtain⟨H0,γ,k,rc,I,q⟩:=Y;obtain⟨d,e1,I⟩:=bind_some I;refine JI O σ H _ ⟨H0,γ,d,rc,e1,λv H' H0' x r=>?_⟩;rw [Q6 I]at r;exact⟨k,r,q H' H0' x⟩
theorem zbj{f:CO D}(h:PV X e f)(J : ∀I,isTrue e X.env I=(do let v <- I;standAt e.pos;holding [v] (truthy v)):=by intro _;rfl):PTD X e (sB f):=
 V1 (zc7 h J) λσ H Q O=>by
  obtain⟨H0,γ,k,rc,z,q⟩:=O;obtain⟨d,e1,z⟩:=bind_some z;refine⟨H0,γ,d,rc,e1,λv H' H0' x r=>?_⟩;rw [Q6 z]at r;exact⟨k,r,q H' H0' x⟩
theorem VX{f:CO Bool}(h:PTD X a f):PWD X (.BoolOp .And [a] pos) f:=zbd h
theorem zbb{f:CO Bool}(h:PTD X a f):PWD X (.BoolOp .Or [a] pos) f:=zc0 h
theorem zbc{f g:CO Bool}{rest:List Expr}(ha:PTD X a f)(I:PWD X (.BoolOp .And (b::rest) pos) g):PWD X (.BoolOp .And (a::b::rest) pos) (za8 f g):=
 zc2 (zc1 ha I) λσ H Q J=>by
  obtain⟨H0,γ,k,rc,z,q⟩:=J;obtain⟨c,e1,z⟩:=bind_some z;refine⟨H0,γ,c,rc,e1,λH' H0' x=>?_⟩;cases c with
  | true=>rw [if_pos rfl]at z ⊢;exact⟨H0',γ,k,rc.ext x,z,λH2 O S=>q H2 O (x.trans S)⟩
  | false=>rw [if_neg zhf]at z ⊢;cases z;exact q H' H0' x
theorem zcZ{f g:CO Bool}{rest:List Expr}(ha:PTD X a f)(I:PWD X (.BoolOp .Or (b::rest) pos) g):PWD X (.BoolOp .Or (a::b::rest) pos) (za6 f g):=
 zc2 (ze6 ha I) λσ H Q J=>by
  obtain⟨H0,γ,k,rc,z,q⟩:=J;obtain⟨c,e1,z⟩:=bind_some z;refine⟨H0,γ,c,rc,e1,λH' H0' x=>?_⟩;cases c with
  | true=>rw [if_pos rfl]at z ⊢;cases z;exact q H' H0' x
  | false=>rw [if_neg zhf]at z ⊢;exact⟨H0',γ,k,rc.ext x,z,λH2 O S=>q H2 O (x.trans S)⟩
theorem KR{f:CO Bool}(ha:PTD X a f):PTD X (.UnaryOp .Not a pos) (xl f):=
 V1 (zc8 ha) λσ H Q I=>by
  obtain⟨H0,γ,k,rc,z,q⟩:=I;unfold xl at z;cases e1:f γ with
  | none=>rw [e1]at z;cases z
  | some c=>rw [e1]at z;cases z;exact⟨H0,γ,c,rc,e1,λH' H0' x=>q H' H0' x⟩
theorem zc6{f:CO Bool}(h:PWD X e f):PTD X e f:=h.pt
theorem Qu{k:CO Bool}{f g:CO D}(S:PTD X c k)(ha:PV X a f)(U:PV X b g):PV X (.IfExp c a b pos) (Zp k f g):=
 j5 (pe_ifExp S ha U) λσ H Q Y=>by
  obtain⟨H0,γ,d,rc,z,q⟩:=Y;obtain⟨t,e1,z⟩:=bind_some z;refine⟨H0,γ,t,rc,e1,λH' H0' x=>?_⟩;cases t with
  | true=>rw [if_pos rfl]at z ⊢;exact⟨H0',γ,d,rc.ext x,z,λI H2 J O r2=>q I H2 J (x.trans O) r2⟩
  | false=>rw [if_neg zhf]at z ⊢;exact⟨H0',γ,d,rc.ext x,z,λI H2 J O r2=>q I H2 J (x.trans O) r2⟩
theorem zbw:PAD X [] zo:=zdm jM λσ H Q z=>by
 obtain⟨H0,γ,ds,rc,I,q⟩:=z;cases I;exact q [] H H0 (Ext.refl rc.sub) Reps.nil
theorem Wc{es:List Expr}{f:CO D}{g:CO (List D)}(ha:PV X e f)(O:PAD X es g)(S:starEach (e::es) X.env=(false,eval e X.env)::starEach es X.env:=by rfl):PAD X (e::es) (za f g):=
 zdm (zS ha O S) λσ H Q U=>by
  obtain⟨H0,γ,ds,rc,z,q⟩:=U;obtain⟨x,e1,z⟩:=bind_some z;cases I:g γ with
  | none=>rw [I]at z;cases z
  | some r=>
   rw [I]at z;cases z;exact⟨H0,γ,x,rc,e1,λv H1 Y x1 Z=>⟨Y,γ,r,rc.ext x1,I,λvs H2 a0 J r2=>q (v::vs) H2 a0 (x1.trans J) (Reps.cons (Z.mono J.s0) r2)⟩⟩
theorem jx{es:List Expr}{x1:Nat}{f:CO (List D)}(h:PAD X es f):PV X (.Tuple es x1 pos) (jp f):=
 j5 (zdf h) λσ H Q S=>by
  obtain⟨H0,γ,d,rc,z,q⟩:=S;obtain⟨ds,e1,z⟩:=bind_some z;by_cases I:ds.length<=lim
  ·rw [if_pos I]at z;cases z
   refine⟨H0,γ,ds,rc,e1,λvs H1 U x1 J=>⟨kj (by rw [J.length];exact I),λp O=>?_⟩⟩;exact q _ _ _ (x1.trans (Ext.alloc x1.sub O _)) (show ∃a xs,V.ref p = .ref a/\SqT X.K _ a xs/\Reps X.K _ ds xs from⟨p,vs,rfl,SqT.of zE,J.mono (zU (jv x1.sub O) _)⟩)
  ·rw [if_neg I]at z;cases z
theorem yV{es:List Expr}{f:CO (List D)}(h:PAD X es f):PO X (.List es pos) (qj f):=
 j5 (zdg h) λσ H Q U=>by
  obtain⟨H0,γ,d,rc,I,q⟩:=U;obtain⟨ds,e1,I⟩:=bind_some I;by_cases O:ds.length<=lim
  ·rw [if_pos O]at I;cases I
   refine⟨H0,γ,_,rc,e1,λvs H1 Y x1 S=>⟨kj (by rw [S.length];exact O),λp J=>?_⟩⟩;exact q p vs _ Y (x1.trans (Ext.hide x1.sub J _)) (by
    cases z:H p with
    | none=>rfl
    | some o=>rw [x1.s1 p o z]at J;cases J) (jv x1.sub J) zE S
  ·rw [if_neg O]at I;cases I
end
theorem xy:entryFor table "dict.update.loop" = some Builtin.«dict.update.loop» :=zkT (by kernel_rfl)
theorem xp(args:Args):(Code.builtin "dict.update.loop" args).quiet=true:=Code.quiet_builtin _ ⋯
end DL
namespace L2
open PySem PySem.Spec PyProof.Rows
structure M2(X:Cx)(o:Expr)(m:Str)(apos:Pos)(e f:Expr)(cpos:Pos):Prop where
 base:attributeBase o m X.env (eval o X.env)=eval o X.env
 few:((backTo cpos (starEach [e,f] X.env)).all (λx=> !x.1) && (backToKw cpos (keywordEach [] X.env)).all (λx=>x.1.isSome)
  && decide (([e,f]:List Expr).length+([]:List Keyword).length+(if ([]:List Keyword).isEmpty then 0 else 1)<30))=true
 line:(apos.endLine==cpos.line)=true
 trees:backTo cpos (starEach [e,f] X.env)=[(false,eval e X.env),(false,eval f X.env)]
end L2
namespace DL
open PySem L2
def qM(ds:List D):List D:=(zgX ds.length).map λ(i:Nat)=>D.tup [.int i,ds[i]?.getD .non]
def VN(f:CO D):CO (List D):=λγ=>(f γ).bind λd=>match d with
 | .tup ds=>some (qM ds)
 | _=>none
def Yu:List D->Option (List Int)
 | []=>some []
 | .int i::r=>(Yu r).map λl=>i::l
 | _::_=>none
def zcj(i:Nat)(F:CO Fl):CO Fl:=λγ=>(qz γ[i]?).bind λds=>F (γ.set i (.val (.lst ds)))
def zaR:List D->Option (List Str)
 | []=>some []
 | .str x::r=>(zaR r).map λl=>x::l
 | _::_=>none
def jj(x:Str):Bool:=decide (x.length<=1000)
def Zz(f g:CO D):CO D:=λγ=>(f γ).bind λd=>((g γ).bind asI).bind λi=>match d with
 | .str z=>if jj z=true then (ixD z.cps.toList.length i).bind λk=>z.cps.toList[k]?.map λc=> .str ⟨#[c]⟩else none
 | _=>none
def Jx(f:CO D):CO D:=λγ=>(f γ).bind λd=>match d with
 | .str z=>if jj z=true then some (.int z.length)else none
 | _=>none
def za7(f g:CO D):CO D:=λγ=>((f γ).bind asI).bind λi=>((g γ).bind asI).map λj=> .int (if j<i then j else i)
def zec(f:CO D):CO (List D):=λγ=>(f γ).bind λd=>match d with
 | .tup ds=>some ds.reverse
 | _=>none
def wG(f:CO D):CO D:=λγ=>(f γ).bind λd=>match d with
 | .tup ds=>some (.tup ds.reverse)
 | _=>none
abbrev Xn:=Str×Option Int
def xNo:CO Xn:=λ_=>none
def zeO(c:Str):CO Xn:=λ_=>some (c,none)
def xIf(k:CO Bool)(G H:CO Xn):CO Xn:=λγ=>(k γ).bind λb=>if b=true then G γ else H γ
def zgP(c:Str):Str:=if c==("NoRoom" : Str)then "room" else "at"
def wH(f:CO D)(g:CO (Sk×List D)):CO D:=λγ=>(f γ).bind λd=>(g γ).bind λa=>(asI d).bind λi=>(Yu a.2).map λl=> .bl (!decide (i∈l))
end DL
namespace DL
open PySem L2
open PySem.W (KasT kas_sort)
def ql(z:Str):List D:=z.cps.toList.map λc=>D.str ⟨#[c]⟩
def zae(f:CO D):CO (List D):=λγ=>(f γ).bind λd=>match d with
 | .str z=>if jj z=true then some (ql z)else none
 | _=>none
def yl(f:CO D):CO (List D):=λγ=>(f γ).bind λd=>match d with
 | .str z=>if jj z=true then some (qM (ql z))else none
 | _=>none
def Qp(f:CO D):CO (List D):=λγ=>(f γ).bind λd=>match d with
 | .lst ds=>some (qM ds)
 | _=>none
def zf5(f:CO D)(g:CO (Sk×List D)):CO D:=λγ=>(f γ).bind λd=>(g γ).bind λa=>match d with
 | .str x=>(zaR a.2).map λl=> .bl (l.any λy=>y==x)
 | _=>none
def VP(f g:CO D):CO D:=λγ=>(f γ).bind λd=>(g γ).bind λe=>match d,e with
 | .str x,.str y=>if jj x=true/\jj y=true then some (.str (x++y))else none
 | _,_=>none
def zfd:D->Option (Int×Int)
 | .tup [.int a,.int b]=>some (a,b)
 | _=>none
def zau:List D->Option (List (Int×Int))
 | []=>some []
 | d::r=>(zfd d).bind λp=>(zau r).map λl=>p::l
def zgJ(x y:Int×Int):Bool:=if x.1=y.1 then decide (x.2<y.2)else decide (x.1<y.1)
def ze4{α:Type}(lt:Nat->Nat->Bool):KasT α->α
 | .ret a=>a
 | .ask i j k=>ze4 lt (k (lt i j))
def JG(ps:List (Int×Int)):List Nat:=if ps.length<2 then zgX ps.length else (ze4 (λi j=>zgJ (ps.getD i (0,0)) (ps.getD j (0,0))) (kas_sort ps.length)).toList
def zcJ(ds:List D):Option (List D):=(zau ds).bind λps=>if ds.length<64 then some ((JG ps).map λi=>ds.getD i .non)else none
def zaf(f:CO (Sk×List D)):CO (List D):=λγ=>(f γ).bind λa=>match a.1 with
 | .L=>zcJ a.2
 | _=>none
end DL
namespace DL
open PySem L2
def Jy(i:Nat)(f:CO (List D)):CO Fl:=λγ=>(qz γ[i]?).bind λds=>(f γ).bind λes=>if ds.length+es.length<=lim then some (.next (γ.set i (.own (ds++es))))else none
def Qr(F G:List D->Option Res)(g:CO (List D)):CO (List D):=λγ=>(g γ).bind λl=>match l with
 | [p,.str z,t,b]=>((if z=("r" : Str)then F else G) [p,t,b]).bind zck
 | _=>none
def ye:List D->Option (List Int)
 | []=>some []
 | .int i::r=>(ye r).map λl=>i::l
 | _::_=>none
def WM(ds es:List D):Option D:=match ye ds with
 | some ns=>if ds.length=es.length/\ns.Nodup/\ds.length<=lim then some (.dic ds es)else none
 | none=>none
def zcm:List D->List D->Int->Option D
 | k::ks,v::vs,i=>match k with
  | .int j=>if j=i then some v else zcm ks vs i
  | _=>zcm ks vs i
 | _,_,_=>none
open PySem.Spec PyProof.Rows
structure RS(K:PySem.W.Frag)(E0 E H0 H:Hp)(σ:St)(γ:Ctx):Prop where
 rc:RC K H0 H σ γ
 ext:Ext E0 E H0 H
 fresh : ∀(i:Nat) ds a,γ[i]? = some (.own ds)->σ[i]? = some (some (.ref a))->E a=none
 fr2 : ∀(i:Nat) rows a xs,γ[i]? = some (.nest rows)->σ[i]? = some (some (.ref a))->H a=some (.lst xs)->E a=none/\∀b,V.ref b∈xs->E b=none
def Sat(K:PySem.W.Frag)(E0 E:Hp)(D:Ends):Fl->Prop
 | .next γ=>∀σ H H0,RS K E0 E H0 H σ γ->D.nx σ H
 | .brk γ=>∀σ H H0,RS K E0 E H0 H σ γ->D.bk σ H
 | .cont γ=>∀σ H H0,RS K E0 E H0 H σ γ->D.ct σ H
 | .ret (.val d)=>∀v H H0,Ext E0 E H0 H->Rep K H0 d v->D.rt v H
 | .ret (.own es)=>∀a xs H H0,Ext E0 E H0 H->E a=none->H0 a=none->H a=some (.lst xs)->Reps K H0 es xs->D.rt (.ref a) H
def tS(K:PySem.W.Frag)(F:CO Fl):TS:=λD σ H=>∃E0 E H0 γ z,RS K E0 E H0 H σ γ/\F γ=some z/\Sat K E0 E D z
abbrev PSD(X:Cx)(st:Stmt)(F:CO Fl):Prop:=PS X st (tS X.K F)
abbrev Ka(X:Cx)(sts:List Stmt)(F:CO Fl):Prop:=PSs X sts (tS X.K F)
section
variable{K:PySem.W.Frag}{E0 E H0 H H0' H':Hp}{σ:St}{γ:Ctx}
theorem RS.step(r:RS K E0 E H0 H σ γ)(e:Ext H0 H H0' H'):RS K E0 E H0' H' σ γ:=⟨r.rc.ext e,r.ext.trans e,r.fresh,λi rows a xs h1 h2 I=>by
 obtain⟨J,bs,z,g2,_⟩:=r.rc.nst.1 i rows h1;rw [h2]at z;cases z;have:=e.s1 a _ g2.ha;rw [I]at this;cases this;exact r.fr2 i rows a _ h1 h2 g2.ha⟩
theorem zJ{α:Type}{l:List α}{i j:Nat}{x y:α}(h:(l.set i x)[j]? = some y):(j=i/\y=x/\i<l.length)\/(j≠i/\l[j]? = some y):=by
 by_cases e:i=j
 ·subst e
  by_cases z:i<l.length
  ·rw [zhI z]at h;cases h;exact .inl ⟨rfl,rfl,z⟩
  ·rw [List.set_eq_of_length_le ⋯]at h
   exact absurd (zhe.mp h).1 z
 ·rw [zg7 e]at h;exact .inr ⟨zhO e,h⟩
theorem NestOk.setVal{i:Nat}{d:D}{v:V}(n:NestOk K H0 H σ γ):NestOk K H0 H (σ.set i (some v)) (γ.set i (.val d)):=
 ⟨λj rows e=>by
  rcases zJ e with⟨_,z,_⟩ | ⟨J,z⟩
  ·cases z
  ·obtain⟨a,bs,h1,h2,O⟩:=n.1 j rows z
   refine⟨a,bs,by rw [zg7 (zhO J)];exact h1,h2,λk ds c e1 I=>?_⟩;rcases zJ e1 with⟨_,z,_⟩ | ⟨Q,z1⟩
   ·cases z
   ·rw [zg7 (zhO Q)]at I;exact O k ds c z1 I,
 λj k S r2 e1 I=>by
  rcases zJ e1 with⟨_,z,_⟩ | ⟨_,z1⟩
  ·cases z
  ·rcases zJ I with⟨_,z,_⟩ | ⟨_,z2⟩
   ·cases z
   ·exact n.2 j k S r2 z1 z2⟩
theorem RC.setVal{i:Nat}{d:D}{v:V}(r:RC K H0 H σ γ)(h:Rep K H0 d v):RC K H0 H (σ.set i (some v)) (γ.set i (.val d)):=by
 refine⟨r.sub,by simp [r.len],λj d' e=>?_,λj ds e=>?_,λj k a ds es e1 U O Q=>?_,r.nst.setVal⟩
 ·rcases zJ e with⟨rfl,z,S⟩ | ⟨I,z⟩
  ·cases z;exact⟨v,zhI (by rw [r.len];exact S),h⟩
  ·obtain⟨Y,J,g2⟩:=r.val j d' z
   exact⟨Y,by rw [zg7 (zhO I)];exact J,g2⟩
 ·rcases zJ e with⟨rfl,z,S⟩ | ⟨I,z⟩
  ·cases z
  ·obtain⟨a,xs,J,g2⟩:=r.own j ds z
   exact⟨a,xs,by rw [zg7 (zhO I)];exact J,g2⟩
 ·rcases zJ e1 with⟨_,z,_⟩ | ⟨I,z1⟩
  ·cases z
  ·rcases zJ U with⟨_,z,_⟩ | ⟨Z,z2⟩
   ·cases z
   ·rw [zg7 (zhO I)]at O
    rw [zg7 (zhO Z)]at Q;exact r.ne j k a ds es z1 z2 O Q
theorem RS.setVal{i:Nat}{d:D}{v:V}(r:RS K E0 E H0 H σ γ)(h:Rep K H0 d v):RS K E0 E H0 H (σ.set i (some v)) (γ.set i (.val d)):=
 ⟨r.rc.setVal h,r.ext,λj ds a e1 I=>by
  rcases zJ e1 with⟨_,z,_⟩ | ⟨J,z⟩
  ·cases z
  ·rw [zg7 (zhO J)]at I;exact r.fresh j ds a z I,
 λj rows a xs e1 I O=>by
  rcases zJ e1 with⟨_,z,_⟩ | ⟨J,z⟩
  ·cases z
  ·rw [zg7 (zhO J)]at I;exact r.fr2 j rows a xs z I O⟩
theorem y7 : ∀{z bs:List Addr},z.map V.ref=bs.map V.ref->z=bs
 | [],[],_=>rfl
 | [],_::_,h=>by cases h
 | _::_,[],h=>by cases h
 | a::z,b::bs,h=>by
  rw [zhq,zhq]at h;injection h with h1 h2;injection h1 with h1;rw [h1,y7 h2]
theorem RS.setOwn{i:Nat}{es:List D}{a:Addr}{xs:List V}{G0 G:Hp}(r:RS K E0 E G0 G σ γ)(e:Ext G0 G H0 H)(h1:G a=none)(h2:H0 a=none)(h3:H a=some (.lst xs))(h4:Reps K H0 es xs) :
 RS K E0 E H0 H (σ.set i (some (.ref a))) (γ.set i (.own es)):=by
 have rc:=r.rc.ext e;have no : ∀(j:Nat) ds,γ[j]? = some (.own ds)->¬σ[j]? = some (some (.ref a)):=λj ds g z=>by
  obtain⟨b,ys,I,g2,Y,_⟩:=r.rc.own j ds g;rw [z]at I;cases I;rw [h1]at Y;cases Y
 refine⟨⟨rc.sub,by simp [rc.len],λj d' g=>?_,λj ds g=>?_,λj k b ds fs e1 Q S U=>?_,⟨λj rows g=>?_,λj k r1 r2 I g2=>?_⟩⟩,r.ext.trans e,λj ds b I g2=>?_,λj rows b xs I g2 Y=>?_⟩
 ·rcases zJ g with⟨_,z,_⟩ | ⟨J,z⟩
  ·cases z
  ·obtain⟨v',I,g2⟩:=rc.val j d' z
   exact⟨v',by rw [zg7 (zhO J)];exact I,g2⟩
 ·rcases zJ g with⟨rfl,z,O⟩ | ⟨J,z⟩
  ·cases z;exact⟨a,xs,zhI (by rw [rc.len];exact O),h2,h3,h4⟩
  ·obtain⟨b,ys,I,g2⟩:=rc.own j ds z
   exact⟨b,ys,by rw [zg7 (zhO J)];exact I,g2⟩
 ·rcases zJ e1 with⟨rfl,z,O⟩ | ⟨J,z1⟩
  ·rcases zJ Q with⟨rfl,_,_⟩ | ⟨Z,z2⟩
   ·rfl
   ·rw [zhI (by rw [rc.len];exact O)]at S
    rw [zg7 (zhO Z)]at U;cases S;exact absurd U (no k fs z2)
  ·rcases zJ Q with⟨rfl,z,O⟩ | ⟨Z,z2⟩
   ·rw [zhI (by rw [rc.len];exact O)]at U
    rw [zg7 (zhO J)]at S;cases U;exact absurd S (no j ds z1)
   ·rw [zg7 (zhO J)]at S
    rw [zg7 (zhO Z)]at U;exact rc.ne j k b ds fs z1 z2 S U
 ·rcases zJ g with⟨_,z,_⟩ | ⟨J,z⟩
  ·cases z
  ·obtain⟨b,bs,I,g2,Y⟩:=r.rc.nst.1 j rows z
   obtain⟨b',a0,f1,f2,f3⟩:=rc.nst.1 j rows z;rw [I]at f1;cases f1;have eb:a0.map V.ref=bs.map V.ref:=by
    have:=e.s1 b _ g2.ha;rw [f2.ha]at this;injection this with this;injection this
   have a9:a0=bs:=y7 eb;subst a9;refine⟨b,a0,by rw [zg7 (zhO J)];exact I,f2,λk ds c e1 Q=>?_⟩;rcases zJ e1 with⟨rfl,_,O⟩ | ⟨Z,z1⟩
   ·rw [zhI (by rw [rc.len];exact O)]at Q;cases Q
    intro hm;obtain⟨_,ac,q⟩:=g2.at hm;rw [h1]at q;cases q
   ·rw [zg7 (zhO Z)]at Q;exact f3 k ds c z1 Q
 ·rcases zJ I with⟨_,z,_⟩ | ⟨_,z1⟩
  ·cases z
  ·rcases zJ g2 with⟨_,z,_⟩ | ⟨_,z2⟩
   ·cases z
   ·exact rc.nst.2 j k r1 r2 z1 z2
 ·rcases zJ I with⟨rfl,z,O⟩ | ⟨J,z⟩
  ·rw [zhI (by rw [rc.len];exact O)]at g2;cases g2
   cases q:E a with
   | none=>rfl
   | some o=>rw [r.ext.s1 a o q]at h1;cases h1
  ·rw [zg7 (zhO J)]at g2;exact r.fresh j ds b z g2
 ·rcases zJ I with⟨_,z,_⟩ | ⟨J,z⟩
  ·cases z
  ·rw [zg7 (zhO J)]at g2;exact(r.step e).fr2 j rows b xs z g2 Y
theorem RS.rewrite{i:Nat}{ds es:List D}{a:Addr}{xs ys:List V}(r:RS K E0 E H0 H σ γ)(hi:γ[i]? = some (.own ds))(O:σ[i]? = some (some (.ref a)))(h4:Reps K H0 es ys) :
 RS K E0 E H0 (upd H a (.lst ys)) σ (γ.set i (.own es)):=by
 obtain⟨a',a9,g1,g2,g3,g4⟩:=r.rc.own i ds hi;rw [O]at g1;cases g1;have ac:i<γ.length:=(zhe.mp hi).1;refine⟨⟨λb o q=>?_,by simp [r.rc.len],λj d' g=>?_,λj fs g=>?_,λj k b fs gs e1 I U e4=>?_,⟨λj rows g=>?_,λj k r1 r2 e1 I=>?_⟩⟩,⟨r.ext.s0,λb o q=>?_,λb o q=>?_,r.ext.new⟩,λj fs b e1 I=>?_,λj rows b zs e1 I U=>?_⟩
 ·rw [zH (λz=>by rw [z,g2]at q;cases q)];exact r.rc.sub b o q
 ·rcases zJ g with⟨_,z,_⟩ | ⟨Y,z⟩
  ·cases z
  ·exact r.rc.val j d' z
 ·rcases zJ g with⟨rfl,z,hl⟩ | ⟨Y,z⟩
  ·cases z;exact⟨a,ys,O,g2,zE,h4⟩
  ·obtain⟨b,zs,J,Q,S,f4⟩:=r.rc.own j fs z
   refine⟨b,zs,J,Q,?_,f4⟩;rw [zH (λq=>Y (r.rc.ne j i a fs ds z hi (by rw [J,q]) O))];exact S
 ·have c1 : ∃fs',γ[j]? = some (.own fs'):=by
   rcases zJ e1 with⟨q,_,_⟩ | ⟨_,z⟩
   ·exact⟨ds,by rw [q];exact hi⟩
   ·exact⟨fs,z⟩
  have c2 : ∃fs',γ[k]? = some (.own fs'):=by
   rcases zJ I with⟨q,_,_⟩ | ⟨_,z⟩
   ·exact⟨ds,by rw [q];exact hi⟩
   ·exact⟨gs,z⟩
  obtain⟨J,z1⟩:=c1;obtain⟨Q,z2⟩:=c2;exact r.rc.ne j k b J Q z1 z2 U e4
 ·rcases zJ g with⟨_,z,_⟩ | ⟨Y,z⟩
  ·cases z
  ·obtain⟨b,bs,J,Q,S⟩:=r.rc.nst.1 j rows z
   have a1:=S i ds a hi O;refine⟨b,bs,J,Q.move (Same.refl _) (λc Z=>(Q.at Z).1) (λc Z=>zH λq=>a1 (q ▸ Z)),λk fs c e1 I=>?_⟩;rcases zJ e1 with⟨q,_,_⟩ | ⟨_,z1⟩
   ·rw [q,O]at I;cases I;exact a1
   ·exact S k fs c z1 I
 ·rcases zJ e1 with⟨_,z,_⟩ | ⟨_,z1⟩
  ·cases z
  ·rcases zJ I with⟨_,z,_⟩ | ⟨_,z2⟩
   ·cases z
   ·exact r.rc.nst.2 j k r1 r2 z1 z2
 ·rw [zH (λz=>by rw [z,r.fresh i ds a hi O]at q;cases q)];exact r.ext.s1 b o q
 ·rw [zH (λz=>by rw [z,g2]at q;cases q)];exact r.ext.sub b o q
 ·rcases zJ e1 with⟨q,_,_⟩ | ⟨_,z⟩
  ·rw [q]at I;exact r.fresh i ds b hi I
  ·exact r.fresh j fs b z I
 ·rcases zJ e1 with⟨_,z,_⟩ | ⟨Y,z⟩
  ·cases z
  ·obtain⟨b',bs,J,Q,S⟩:=r.rc.nst.1 j rows z
   rw [I]at J;cases J;rw [zH (show b≠a from λq=>S i ds a hi O (by rw [q];exact zhj))]at U;exact r.fr2 j rows b zs z I U
end
section
variable{X:Cx}{e a b c:Expr}{pos:Pos}{st:Stmt}{rest:List Stmt}
theorem qp:Ka X [] j4:=zan zbk λD σ H z=>by
 obtain⟨E0,E,H0,γ,Q,I,J,O⟩:=z;cases J;exact O σ H H0 I
theorem zh{F G:CO Fl}(h1:PSD X st F)(h2:Ka X rest G):Ka X (st::rest) (zI F G):=zan (yv h1 h2) λD σ H O=>by
 obtain⟨E0,E,H0,γ,Q,S,z,I⟩:=O;obtain⟨J,e1,z⟩:=bind_some z;refine⟨E0,E,H0,γ,J,S,e1,?_⟩;cases J with
 | next γ'=>exact λY H' H0' U=>⟨E0,E,H0',γ',Q,U,z,I⟩
 | brk γ'=>cases z;exact I
 | cont γ'=>cases z;exact I
 | ret r=>cases z;cases r<;>exact I
theorem zy{F:CO Fl}(h1:PSD X st F):Ka X [st] F:=ya h1
theorem zB{α β:Type}{o:Option α}{f:α->β}{y:β}(h:o.map f=some y) : ∃x,o=some x/\f x=y:=by
 cases o with
 | none=>cases h
 | some x=>exact⟨x,rfl,by simpa using h⟩
theorem jh{f:CO D}(h:PV X e f):PSD X (.Return (some e) pos) (jR f):=xQ (v7 h) λD σ H J=>by
 obtain⟨E0,E,H0,γ,Q,I,z,O⟩:=J;obtain⟨d,e1,z⟩:=zB z;subst z;exact⟨H0,γ,d,I.rc,e1,λv H' H0' x r=>O v H' H0' (I.ext.trans x) r⟩
theorem wM{f:CO (List D)}(h:PO X e f):PSD X (.Return (some e) pos) (qW f):=xQ (v7 h) λD σ H J=>by
 obtain⟨E0,E,H0,γ,S,z,I,O⟩:=J;obtain⟨ds,e1,I⟩:=zB I;subst I;refine⟨H0,γ,ds,z.rc,e1,λa xs H' H0' x h1 h2 Q r=>O a xs H' H0' (z.ext.trans x) ?_ h2 Q r⟩;cases q:E a with
 | none=>rfl
 | some o=>rw [z.ext.s1 a o q]at h1;cases h1
theorem qG(i:Nat)(h:PE X e (vG i)):PSD X (.Return (some e) pos) (kz i):=xQ (v7 h) λD σ H O=>by
 obtain⟨E0,E,H0,γ,U,I,z,J⟩:=O;unfold kz at z;cases e1:γ[i]? with
 | none=>rw [e1]at z;cases z
 | some c=>
  rw [e1]at z;cases c with
  | no=>cases z
  | val d=>
   cases z;obtain⟨v,h1,h2⟩:=I.rc.val i d e1;exact⟨v,h1,J v H H0 I.ext h2⟩
  | nest rows=>cases z
  | own ds=>
   cases z;obtain⟨a,xs,h1,h2,Q,S⟩:=I.rc.own i ds e1;exact⟨_,h1,J a xs H H0 I.ext (I.fresh i ds a e1 h1) h2 Q S⟩
theorem ZK:PSD X (.Continue pos) VO:=xQ JE λD σ H ⟨E0,E,H0,γ,O,z,I,J⟩=>by cases I;exact J σ H H0 z
theorem KT:PSD X st ZA:=xQ V3 λD σ H ⟨E0,E,H0,γ,I,J,z,O⟩=>by cases z
theorem kF{k:CO Bool}{F G:CO Fl}{x y:List Stmt}(Q:PTD X c k)(ha:Ka X x F)(S:Ka X y G):PSD X (.If c x y pos) (sIf k F G):=xQ (zfa Q ha S) λD σ H U=>by
 obtain⟨E0,E,H0,γ,J,I,z,O⟩:=U;obtain⟨t,e1,z⟩:=bind_some z;refine⟨H0,γ,t,I.rc,e1,λH' H0' x=>?_⟩;cases t with
 | true=>rw [if_pos rfl]at z ⊢;exact⟨E0,E,H0',γ,J,I.step x,z,O⟩
 | false=>rw [if_neg zhf]at z ⊢;exact⟨E0,E,H0',γ,J,I.step x,z,O⟩
theorem jd(i:Nat){f:CO D}(h:PS X st (X8 (tV X.K f) (xR i))):PSD X st (zQ i f):=xQ h λD σ H J=>by
 obtain⟨E0,E,H0,γ,Q,I,z,O⟩:=J;obtain⟨d,e1,z⟩:=zB z;subst z;exact⟨H0,γ,d,I.rc,e1,λv H' H0' x r=>O _ _ H0' ((I.step x).setVal r)⟩
theorem qF(i:Nat){f:CO (List D)}(h:PS X st (X8 (tO X.K f) (xR i))):PSD X st (qL i f):=xQ h λD σ H J=>by
 obtain⟨E0,E,H0,γ,S,I,z,O⟩:=J;obtain⟨ds,e1,z⟩:=zB z;subst z;exact⟨H0,γ,ds,I.rc,e1,λa xs H' H0' x h1 h2 Q r=>O _ _ H0' (I.setOwn x h1 h2 Q r)⟩
theorem xB{o:Option Cell}{ds:List D}(h:qz o=some ds):o=some (.own ds):=by
 cases o with
 | none=>cases h
 | some c=>cases c<;>simp [qz]at h;rw [h]
theorem Xx(i:Nat){f:CO D}(h:PE X e (tBM X.K "list" KN (vG i) (yM (tV X.K f) zch)))(S:swapsWith e none pos.line X.env=pure false:=by rfl):PSD X (.Expr e pos) (qs i f):=
 xQ (KW h S) λD σ H U=>by
  obtain⟨E0,E,H0,γ,fl,I,z,Y⟩:=U;obtain⟨ds,e1,z⟩:=bind_some z;obtain⟨d,Z,z⟩:=bind_some z;have e1:=xB e1;by_cases J:ds.length<lim
  ·rw [if_pos J]at z;cases z
   obtain⟨a,xs,h1,h2,O,Q⟩:=I.rc.own i ds e1;refine⟨_,h1,.inl ⟨rfl,_,SqL.of O⟩,H0,γ,d,I.rc,Z,λv H' H0' x r=>?_⟩;have a0:=I.step x;have a1:=x.s1 _ _ O;refine⟨a,xs,v,rfl,rfl,a1,?_,?_⟩
   ·exact zhl (by rw [Q.length];exact J) (kj (zg3 _))
   ·exact Y _ _ H0' (a0.rewrite (xs:=xs) e1 h1 ((Q.mono x.s0).append (Reps.cons r Reps.nil)))
  ·rw [if_neg J]at z;cases z
end
def zgs(K:PySem.W.Frag)(H0 H:Hp)(Q:VK):Res->Prop
 | .val d=>∀v H' H0',Ext H0 H H0' H'->Rep K H0' d v->Q v H'
 | .own es=>∀a xs H' H0',Ext H0 H H0' H'->H a=none->H0' a=none->H' a=some (.lst xs)->Reps K H0' es xs->Q (.ref a) H'
def spF(K:PySem.W.Frag)(n:Nat)(F:List D->Option Res):Sp:=λvs H Q _=>∃H0 ds r,Same H0 H/\Reps K H0 ds vs/\ds.length=n/\F ds=some r/\zgs K H0 H Q r
theorem spF.len{K:PySem.W.Frag}{n:Nat}{F:List D->Option Res}{ps:List Str}(z:ps.length=n) : ∀vs H Q E,spF K n F vs H Q E->vs.length=ps.length:=λvs H Q E h=>by
 obtain⟨H0,ds,r,_,h1,h2,_⟩:=h;rw [h1.length,h2,z]
section
variable{P:Program}{w:World}{K:PySem.W.Frag}{mg:Str->Option Value}{base:Heap}
theorem VU{H0 H:Hp}{N:List Str}{ds:List D}{vs:List V}(s:Same H0 H)(h:Reps K H0 ds vs)(J:ds.length<=N.length):RS K H0 H H0 H (start N vs) (zV N.length ds):=by
 have z:=h.length;refine⟨⟨s,by simp [L2.start,zV,z],λi d e=>?_,λi es e=>?_,λi j a es fs e _ _ _=>?_,NestOk.nil0 λi rows e=>?_⟩,Ext.refl s,λi es a e _=>?_,λi rows a xs e _ _=>?_⟩
 all_goals unfold zV at e
 ·by_cases hi:i<ds.length
  ·rw [zhX (by simpa using hi),zhD]at e
   cases e1:ds[i]? with
   | none=>rw [e1]at e;cases e
   | some d'=>
    rw [e1]at e;cases e;obtain⟨x,I,g2⟩:=h.get e1;refine⟨x,?_,g2⟩;unfold L2.start;rw [zhX (by simp;omega),zhD,I];rfl
  ·rw [zhL (by simpa using hi),zjd]at e
   split at e<;>cases e
 all_goals
  by_cases hi:i<ds.length
  ·rw [zhX (by simpa using hi),zhD]at e
   cases e1:ds[i]? with
   | none=>rw [e1]at e;cases e
   | some d'=>rw [e1]at e;cases e
  ·rw [zhL (by simpa using hi),zjd]at e
   split at e<;>cases e
theorem zdR{x qual:Str}{st:Stmt}{f:Addr}{fd:FuncData}{N ps:List Str}{k:Nat}{F:CO Fl}(O:L2.Fun K x qual st f fd)(S:FnScope N ps (defScope st))
 (U : ∀(cdv:Value) (A:Around) (outer:List Env) (s:Shared) (H:Hp) (E:XK),Room k (A.deeper (envOfC qual (defScope st) s.heap.objs.size f cdv))->Ka (zb2 CX0 P w K mg base N qual (defScope st) f cdv A outer s H E).nox (defBody st) F) :
 FnOk P w K mg base CX0 (k+1) f fd ps (spF K ps.length (z5 N.length F)):=by
 refine O.ok S (spF.len rfl) (λcdv A outer s H vs Q E Y h=>⟨_,U cdv A outer s H E Y,?_⟩);obtain⟨H0,ds,r,s0,h1,h2,Z,I⟩:=h;obtain⟨J,e1,z⟩:=bind_some Z;have a1:ps.length<=N.length:=by have:=congrArg List.length S.pre;rw [zi6]at this;omega
 refine⟨H0,H,H0,zV N.length ds,J,VU s0 h1 ⋯,e1,?_⟩;cases J with
 | ret r'=>cases z;cases r<;>exact I
 | next γ=>cases z;exact λσ' H' H0' rs=>I .non H' H0' rs.ext (show V.non = .non from rfl)
 | brk γ=>cases z
 | cont γ=>cases z
end
section
variable{X:Cx}{es:List Expr}{pos p:Pos}{k:Nat}{f:Addr}{fd:FuncData}{ps:List Str}{x:Str}{F:List D->Option Res}{g:CO (List D)}
theorem zbh{A0:List Expr}(G:FnOk X.prog X.w X.K X.mg X.base CX0 k f fd ps (spF X.K ps.length F))(ha:PAD X es g)(S : ∀γ ds,g γ=some ds->ds.length=ps.length)
 (U : ∀{t:TA},PA X es t->PE X (.Call (.Name x p) es [] pos) (VF (spF X.K ps.length F) [] E0 t)):PV X (.Call (.Name x p) es [] pos) (zq F g):=
 j5 (U ha) λσ H Q Y=>by
  obtain⟨H0,γ,d,rc,z,q⟩:=Y;obtain⟨ds,e1,z⟩:=bind_some z;obtain⟨r,Z,z⟩:=zB z;refine⟨H0,γ,ds,rc,e1,λvs H1 a0 x1 r1=>⟨a0,ds,r,x1.sub,by simpa using r1,S γ ds e1,Z,?_⟩⟩;subst z;cases r with
  | val d=>exact λv H' H0' I r2=>q v H' H0' (x1.trans I) r2
  | own fs=>
   refine λa xs H' H0' I h1 h2 h3 r2=>q _ H' _ (x1.trans (I.show h1 h2 h3 x1.sub)) ?_;exact(show ∃J O,V.ref a = .ref J/\SqL X.K _ J O/\Reps X.K _ fs O from⟨a,xs,rfl,SqL.of zE,r2.mono (zU h2 _)⟩)
theorem zbp(G:FnOk X.prog X.w X.K X.mg X.base CX0 k f fd ps (spF X.K ps.length F))(ha:PAD X es g)(J : ∀γ ds,g γ=some ds->ds.length=ps.length)
 (O : ∀{t:TA},PA X es t->PE X (.Call (.Name x p) es [] pos) (VF (spF X.K ps.length F) [] E0 t)):PO X (.Call (.Name x p) es [] pos) (zX F g):=
 j5 (O ha) λσ H Q S=>by
  obtain⟨H0,γ,fs,rc,I,q⟩:=S;obtain⟨ds,e1,I⟩:=bind_some I;obtain⟨r,U,I⟩:=bind_some I;refine⟨H0,γ,ds,rc,e1,λvs H1 Y x1 Z=>⟨Y,ds,r,x1.sub,by simpa using Z,J γ ds e1,U,?_⟩⟩;cases r with
  | val d=>cases I
  | own gs=>
   cases I;exact λa xs H' H0' x2 h1 h2 h3 r2=>q a xs H' H0' (x1.trans x2) (by
    cases z:H a with
    | none=>rfl
    | some o=>rw [x1.s1 a o z]at h1;cases h1) h2 h3 r2
end
structure Walk(K:PySem.W.Frag)(H0 Hs:Hp)(J:It)(ds:List D):Prop where
 go : ∀i H1,Same Hs H1->i<ds.length->J.go i H1
 stop : ∀H1,Same Hs H1->J.stop ds.length H1
 yld : ∀i H1 x H1',Same Hs H1->i<ds.length->J.yld i H1 x H1'->∃d,ds[i]? = some d/\∀G0,Same H0 G0->Same G0 H1->∃G0',Ext G0 H1 G0' H1'/\Rep K G0' d x
theorem Walk.weak{K:PySem.W.Frag}{H0 Hs z:Hp}{J:It}{ds:List D}(w:Walk K H0 Hs J ds)(s:Same Hs z):Walk K H0 z J ds:=
 ⟨λi H1 h=>w.go i H1 (s.trans h),λH1 h=>w.stop H1 (s.trans h),λi H1 x H1' h=>w.yld i H1 x H1' (s.trans h)⟩
theorem wA{k:Sk}{K:PySem.W.Frag}{H0 Hs:Hp}{a:Addr}{xs:List V}{ds:List D}(h:SqK k K Hs a xs)(r:Reps K H0 ds xs):Walk K H0 Hs (Itk k K a) ds:=by
 have J:=r.length;refine⟨λi H1 s hi=>?_,λH1 s=>?_,λi H1 x H1' s hi y=>?_⟩
 ·have hx:i<xs.length:=by omega
  cases k with
  | L=>exact⟨xs,xs[i],s.seq h,zg0 hx⟩
  | T=>exact⟨xs,xs[i],sameT s h,zg0 hx⟩
 ·cases k with
  | L=>exact⟨xs,s.seq h,by omega⟩
  | T=>exact⟨xs,sameT s h,by omega⟩
 ·have e:H1'=H1/\xs[i]? = some x:=by
   cases k with
   | L=>exact⟨y.1,y.2 xs (s.seq h)⟩
   | T=>exact⟨y.1,y.2 xs (sameT s h)⟩
  obtain⟨e1,z⟩:=e;subst e1;obtain⟨d,hd,I⟩:=r.getV z;exact⟨d,hd,λG0 s1 s2=>⟨G0,Ext.refl s2,I.mono s1⟩⟩
theorem k9(lo:Int)(n:Nat):(qE lo n).length=n:=by simp [qE]
theorem vQ{K:PySem.W.Frag}{H0 Hs:Hp}(lo:Int)(n:Nat):Walk K H0 Hs (Itr lo n) (qE lo n):=by
 refine⟨λi H1 s hi=>?_,λH1 s=>?_,λi H1 x H1' s hi y=>?_⟩
 ·rw [k9]at hi;exact hi
 ·rw [k9];exact zg3 _
 ·rw [k9]at hi
  obtain⟨e1,z⟩:=y;subst e1 z;exact⟨.int (lo+i),by simp [qE,hi],λG0 s1 s2=>⟨G0,Ext.refl s2,(show V.int (lo+i) = .int (lo+i)from rfl)⟩⟩
theorem Vu{I J:Sk}{K:PySem.W.Frag}{H0 Hs:Hp}{a b:Addr}{xs ys:List V}{ds es:List D}(h1:SqK I K Hs a xs)(O:Reps K H0 ds xs)(h2:SqK J K Hs b ys)(r2:Reps K H0 es ys) :
 Walk K H0 Hs (Itz I J K a b) (vD ds es):=by
 have l1:=O.length;have l2:=r2.length;have U:(vD ds es).length=min ds.length es.length:=by simp [vD]
 refine⟨λi H1 s hi=>?_,λH1 s=>?_,λi H1 x H1' s hi y=>?_⟩
 ·exact⟨xs,ys,Zy s h1,Zy s h2,by omega,by omega⟩
 ·refine⟨xs,ys,Zy s h1,Zy s h2,?_⟩
  rw [U];omega
 ·obtain⟨p,u,v,e1,z,Y,Z,g2⟩:=y
  obtain⟨d,hd,hr⟩:=O.getV (Z xs (Zy s h1));obtain⟨c,hc,a2⟩:=r2.getV (g2 ys (Zy s h2));refine⟨.tup [d,c],?_,λG0 s1 s2=>⟨upd G0 p (.tup [u,v]),?_,?_⟩⟩
  ·have a3:(ds.zip es)[i]? = some (d,c):=List.getElem?_zip_eq_some.mpr ⟨hd,hc⟩
   simp [vD,a3]
  ·rw [Y];exact Ext.alloc s2 z _
  ·rw [e1]
   exact(show ∃Q S,V.ref p = .ref Q/\SqT K _ Q S/\Reps K _ [d,c] S from⟨p,[u,v],rfl,SqT.of zE,Reps.cons ((hr.mono s1).mono (zU (jv s2 z) _)) (Reps.cons ((a2.mono s1).mono (zU (jv s2 z) _)) Reps.nil)⟩)
def tIc(K:PySem.W.Frag)(src:CO (List D)):TI:=λσ H R=>∃H0 γ ds,RC K H0 H σ γ/\src γ=some ds/\∀J H' H0',Ext H0 H H0' H'->Walk K H0' H' J ds->R J H'
def tIf(K:PySem.W.Frag)(src:CO (List D)):TI:=λσ H R=>∃H0 γ ds,RC K H0 H σ γ/\src γ=some ds/\∀J H' H0',Ext H0 H H0' H'->Walk K H0' H0' J ds->R J H'
abbrev PIC(X:Cx)(tg e:Expr)(src:CO (List D)):Prop:=PI X tg e (tIc X.K src)
abbrev PIF(X:Cx)(tg e:Expr)(src:CO (List D)):Prop:=PI X tg e (tIf X.K src)
section
variable{X:Cx}{tg e a b:Expr}{pos p:Pos}
theorem PIF.c{src:CO (List D)}(h:PIF X tg e src):PIC X tg e src:=ZM h λσ H R ⟨H0,γ,ds,rc,z,q⟩=>⟨H0,γ,ds,rc,z,λJ H' H0' x w=>q J H' H0' x (w.weak x.sub)⟩
theorem jA{f:CO (Sk×List D)}(h:PQ X e f):PIC X tg e (zD f):=ZM (zas h) λσ H R z=>by
 obtain⟨H0,γ,ds,rc,I,q⟩:=z;obtain⟨⟨k,es⟩,e1,J⟩:=zB I;subst J;exact⟨H0,γ,k,es,rc,e1,λa xs H' H0' x h1 _ r=>⟨a,k,rfl,⟨xs,h1⟩,q _ H' H0' x (wA h1 r)⟩⟩
theorem zbr{f:CO D}(h:PV X e f):PIF X tg e (zD (zA f)):=ZM (zas h) λσ H R J=>by
 obtain⟨H0,γ,ds,rc,O,q⟩:=J;obtain⟨⟨k,es⟩,e1,z⟩:=zB O;subst z;obtain⟨d,Q,e1⟩:=bind_some e1;refine⟨H0,γ,d,rc,Q,λv H' H0' x r=>?_⟩;cases d with
 | tup fs=>
  obtain⟨z,I⟩:k = .T/\es=fs:=by simp [jw]at e1;exact⟨e1.1.symm,e1.2.symm⟩
  subst z I;obtain⟨a,xs,rfl,h1,h2⟩:=(show ∃a xs,v = .ref a/\SqT X.K H0' a xs/\Reps X.K H0' es xs from r);exact⟨a,.T,rfl,⟨xs,sameT x.sub h1⟩,q _ H' H0' x (wA (k:= .T) h1 h2)⟩
 | lst fs=>
  obtain⟨z,I⟩:k = .L/\es=fs:=by simp [jw]at e1;exact⟨e1.1.symm,e1.2.symm⟩
  subst z I;obtain⟨a,xs,rfl,h1,h2⟩:=(show ∃a xs,v = .ref a/\SqL X.K H0' a xs/\Reps X.K H0' es xs from r);exact⟨a,.L,rfl,⟨xs,x.sub.seq h1⟩,q _ H' H0' x (wA (k:= .L) h1 h2)⟩
 | _=>simp [jw]at e1
theorem qJ{d:D}{i:Int}(h:asI d=some i):d = .int i:=by cases d<;>simp [asI]at h;rw [h]
theorem wY{i:Int}(h:inR i=true) : -(2 ^ 62)<=i/\i<2 ^ 62:=by
 unfold inR at h;have h:=of_decide_eq_true h;omega
theorem XB{f:CO D}(O:Gl X "range")(Q:X.mg "range" = none)(ha:PV X a f)(J:starEach [a] X.env=[(false,eval a X.env)]:=by rfl):PIF X tg (.Call (.Name "range" p) [a] [] pos) (ji f):=
 ZM (K3 O Q (zS ha jM J) J) λσ H R S=>by
  obtain⟨H0,γ,ds,rc,z,q⟩:=S;obtain⟨n,e1,z⟩:=bind_some z;obtain⟨d,U,e1⟩:=bind_some e1;by_cases I:inR n=true
  ·rw [if_pos I]at z;cases z
   refine⟨H0,γ,d,rc,U,λv H' H0' x r=>?_⟩;rw [qJ e1]at r;obtain⟨h1,h2⟩:=wY I;exact⟨n,by rw [show v = .int n from r],h1,h2,q _ H' H0' x (vQ 0 n.toNat)⟩
  ·rw [if_neg I]at z;cases z
theorem XA{f g:CO D}(S:Gl X "range")(U:X.mg "range" = none)(ha:PV X a f)(Y:PV X b g)(Q:starEach [a,b] X.env=[(false,eval a X.env),(false,eval b X.env)]:=by rfl)(J:starEach [b] X.env=[(false,eval b X.env)]:=by rfl) :
 PIF X tg (.Call (.Name "range" p) [a,b] [] pos) (kg f g):=
 ZM (K2 S U (zS ha (zS Y jM J) (by rw [Q,J])) Q J) λσ H R Z=>by
  obtain⟨H0,γ,ds,rc,z,q⟩:=Z;obtain⟨m,e1,z⟩:=bind_some z;obtain⟨d,e0,e1⟩:=bind_some e1;obtain⟨n,O,z⟩:=bind_some z;obtain⟨c,e2,O⟩:=bind_some O;by_cases I:inR m=true/\inR n=true
  ·rw [if_pos I]at z;cases z
   refine⟨H0,γ,d,rc,e0,λv H' H0' x r=>⟨H0',γ,c,rc.ext x,e2,λv2 H2 a3 x2 r2=>?_⟩⟩;rw [qJ e1]at r;rw [qJ O]at r2;obtain⟨h1,h2⟩:=wY I.1;obtain⟨h3,h4⟩:=wY I.2;exact⟨m,n,by rw [show v = .int m from r,show v2 = .int n from r2],⟨h1,h2,h3,h4⟩,q _ H2 a3 (x.trans x2) (vQ m (n - m).toNat)⟩
  ·rw [if_neg I]at z;cases z
theorem Kt{K:PySem.W.Frag}{H:Hp}{d:D}{v:V}{k:Sk}{ds:List D}(r:Rep K H d v)(e:jw d=some (k,ds)) : ∃a xs,v = .ref a/\SqK k K H a xs/\Reps K H ds xs:=by
 cases d with
 | tup fs=>simp [jw]at e;obtain⟨e1,z⟩:=e;subst e1 z;exact r
 | lst fs=>simp [jw]at e;obtain⟨e1,z⟩:=e;subst e1 z;exact r
 | _=>simp [jw]at e
theorem zbq{f g:CO D}{elts:List Expr}{x1:Nat}{tpos:Pos}(Y:Gl X "zip")(Z:X.mg "zip" = none)(ha:PV X a f)(hb:PV X b g)(Q:starEach [a,b] X.env=[(false,eval a X.env),(false,eval b X.env)]:=by rfl)(J:starEach [b] X.env=[(false,eval b X.env)]:=by rfl) :
 PIF X (.Tuple elts x1 tpos) (.Call (.Name "zip" p) [a,b] [] pos) (Qn f g):=
 ZM (zdb Y Z (zS ha (zS hb jM J) (by rw [Q,J])) PyProof.Rows.boot_zip Q J) λσ H R hZ=>by
  obtain⟨H0,γ,ds,rc,z,q⟩:=hZ;obtain⟨⟨k1,m⟩,e1,z⟩:=bind_some z;obtain⟨d,e0,e1⟩:=bind_some e1;obtain⟨⟨k2,n⟩,O,z⟩:=zB z;obtain⟨c,e2,O⟩:=bind_some O;subst z;refine⟨H0,γ,d,rc,e0,λv H' H0' x r=>⟨H0',γ,c,rc.ext x,e2,λv2 H2 a8 I r2=>?_⟩⟩;obtain⟨a1,xs,rfl,S,g2⟩:=Kt (r.mono I.s0) e1;obtain⟨a2,ys,rfl,U,g4⟩:=Kt r2 O;exact⟨k1,k2,a1,a2,rfl,⟨xs,Zy I.sub S⟩,⟨ys,Zy I.sub U⟩,q _ H2 a8 (x.trans I) (Vu S g2 U g4)⟩
end
def setAll:List Nat->List V->St->St
 | i::is,v::vs,σ=>setAll is vs (σ.set i (some v))
 | _,_,σ=>σ
def gs:List Nat->TGs
 | []=>zgc
 | i::is=>zdQ (xR i) (gs is)
def gOf(K:PySem.W.Frag):Tg->TG
 | .nm i=>xR i
 | .tp is=>zgb K is.length (gs is)
theorem JT : ∀{is:List Nat} {vs:List V} {σ:St} {H:Hp} {Q:St->Hp->Prop},vs.length=is.length->Q (setAll is vs σ) H->gs is vs σ H Q
 | [],[],_,_,_,_,q=>⟨rfl,q⟩
 | i::is,v::vs,σ,H,Q,hl,q=>⟨v,vs,rfl,JT (by simpa using hl) q⟩
 | [],_::_,_,_,_,hl,_=>by simp at hl
 | _::_,[],_,_,_,hl,_=>by simp at hl
theorem RS.setAll{K:PySem.W.Frag}{E0 E H0 H:Hp} : ∀{is:List Nat} {ds:List D} {vs:List V} {σ:St} {γ:Ctx},RS K E0 E H0 H σ γ->Reps K H0 ds vs->RS K E0 E H0 H (setAll is vs σ) (j1 is ds γ)
 | [],ds,vs,σ,γ,r,h=>by cases ds<;>cases vs<;>exact r
 | i::is,[],vs,σ,γ,r,h=>by rw [h.inv_nil];exact r
 | i::is,d::ds,vs,σ,γ,r,h=>by
  obtain⟨x,t,e,h1,h2⟩:=h.inv_cons;subst e;show RS K E0 E H0 H (DL.setAll is t (σ.set i (some x))) (j1 is ds (γ.set i (.val d)));exact RS.setAll (r.setVal h1) h2
theorem RC.setAll{K:PySem.W.Frag}{H0 H:Hp} : ∀{is:List Nat} {ds:List D} {vs:List V} {σ:St} {γ:Ctx},RC K H0 H σ γ->Reps K H0 ds vs->RC K H0 H (setAll is vs σ) (j1 is ds γ)
 | [],ds,vs,σ,γ,r,h=>by cases ds<;>cases vs<;>exact r
 | i::is,[],vs,σ,γ,r,h=>by rw [h.inv_nil];exact r
 | i::is,d::ds,vs,σ,γ,r,h=>by
  obtain⟨x,t,e,h1,h2⟩:=h.inv_cons;subst e;show RC K H0 H (DL.setAll is t (σ.set i (some x))) (j1 is ds (γ.set i (.val d)));exact RC.setAll (r.setVal h1) h2
theorem vj{K:PySem.W.Frag}{H0 H:Hp}{T:Tg}{d:D}{v:V}{σ:St}{γ γ1:Ctx}{Q:St->Hp->Prop}(s:Same H0 H)(h:Rep K H0 d v)(e:jQ T d γ=some γ1)
 (q : ∀z,(RC K H0 H σ γ->RC K H0 H z γ1)->(∀E0 E,RS K E0 E H0 H σ γ->RS K E0 E H0 H z γ1)->Q z H):gOf K T v σ H Q:=by
 cases T with
 | nm i=>cases e;exact q _ (λr=>r.setVal h) λE0 E r=>r.setVal h
 | tp is=>
  cases d with
  | tup ds=>
   simp only [jQ]at e;by_cases I:ds.length=is.length
   ·rw [if_pos I]at e;cases e
    obtain⟨a,xs,rfl,h1,h2⟩:=(show ∃a xs,v = .ref a/\SqT K H0 a xs/\Reps K H0 ds xs from h);have hx:xs.length=is.length:=by rw [h2.length,I]
    exact⟨a,xs,rfl,sameT s h1,hx,JT hx (q _ (λr=>r.setAll h2) λE0 E r=>r.setAll h2)⟩
   ·rw [if_neg I]at e;cases e
  | _=>simp [jQ]at e
theorem Ext.rebase{E0 E z H0 H B:Hp}(e:Ext E0 E z B)(x:Ext z E H0 H):Ext E0 E H0 H:=
 ⟨e.s0.trans x.s0,x.s1,x.sub,λa h1 h2=>x.new a (e.new a h1 h2) h2⟩
theorem Ext.base{E0 E z B:Hp}(e:Ext E0 E z B):Ext z E z B:=⟨Same.refl _,e.s1,e.sub,λa h _=>h⟩
theorem Sat.rebase{K:PySem.W.Frag}{E0 E I B:Hp}{D:Ends}{z:Fl}(e:Ext E0 E I B)(h:Sat K E0 E D z):Sat K I E D z:=by
 cases z with
 | next γ=>exact λσ H H0 r=>h σ H H0 ⟨r.rc,e.rebase r.ext,r.fresh,r.fr2⟩
 | brk γ=>exact λσ H H0 r=>h σ H H0 ⟨r.rc,e.rebase r.ext,r.fresh,r.fr2⟩
 | cont γ=>exact λσ H H0 r=>h σ H H0 ⟨r.rc,e.rebase r.ext,r.fresh,r.fr2⟩
 | ret r=>
  cases r with
  | val d=>exact λv H H0 x q=>h v H H0 (e.rebase x) q
  | own es=>exact λa xs H H0 x h1 h2 J q=>h a xs H H0 (e.rebase x) h1 h2 J q
section
variable{X:Cx}{tg iter:Expr}{body:List Stmt}{pos:Pos}
theorem qX{src:CO (List D)}{T:Tg}{F:CO Fl}(hp:PassesOwn (model X.prog X.w) X.A X.env X.xe)(hc:X.calm=true)(hi:PIF X tg iter src)(hg:PG X tg (gOf X.K T))(hb:Ka X body F)
 (hs : ∀x,foldedSetIterable iter X.env x=pure x:=by intro _;rfl):PSD X (.For tg iter body [] pos) (yk src T F):=
 xQ (zao hp hc hi hg hb hs) λD σ H hZ=>by
  obtain⟨E0,E,H0,γ,I,O,z,S⟩:=hZ;obtain⟨ds,e1,z⟩:=bind_some z;refine⟨H0,γ,ds,O.rc,e1,λJ H1 Q x1 wk=>?_⟩;have Y:=O.step x1;have ex:=Y.ext;refine⟨λi m σ H=>m=ds.length - i/\i<=ds.length/\∃H0 γ I,RS X.K Q E H0 H σ γ/\qh T F (ds.drop i) γ=some I/\Sat X.K Q E D I,⟨_,rfl,zh7 _,Q,γ,I,⟨Y.rc,ex.base,Y.fresh,Y.fr2⟩,z,S.rebase ex⟩,?_⟩;rintro i m σ H ⟨rfl,hi,H0,γ,I,O,z,S⟩;have a1:Same Q H:=O.ext.s0.trans O.ext.sub;by_cases U:i<ds.length
  ·refine .inr ⟨wk.go i H a1 U,λσ H=>i+1<=ds.length/\∃H0 γ I,RS X.K Q E H0 H σ γ/\qh T F (ds.drop (i+1)) γ=some I/\Sat X.K Q E D I,λσ' H' n=>⟨ds.length - (i+1),by omega,rfl,n.1,n.2⟩,λx H' y=>?_⟩
   obtain⟨d,hd,hx⟩:=wk.yld i H x H' a1 U y;obtain⟨G0,xg,rg⟩:=hx H0 O.ext.s0 O.rc.sub;have ac:ds.drop i=d::ds.drop (i+1):=by
    have ad:d=ds[i]:=by rw [zg0 U]at hd;exact(zhS hd).symm
    rw [ad];exact zjO U
   rw [ac]at z;simp only [qh]at z;obtain⟨γ1,eb,z⟩:=bind_some z;obtain⟨f1,eF,z⟩:=bind_some z;refine vj xg.sub rg eb λσ1 _ ag=>⟨Q,E,G0,γ1,f1,ag Q E (O.step xg),eF,?_⟩;cases f1 with
   | next Z=>exact λσ2 H2 a2 r2=>⟨U,a2,Z,I,r2,z,S⟩
   | cont Z=>exact λσ2 H2 a2 r2=>⟨U,a2,Z,I,r2,z,S⟩
   | brk Z=>cases z;exact S
   | ret r=>cases z;cases r<;>exact S
  ·have e:i=ds.length:=by omega
   subst e;rw [zkH]at z;cases z;exact .inl ⟨wk.stop H a1,S σ H H0 O⟩
end
theorem qt{n:Nat}{fr:List Nat}{γ:Ctx}{i:Nat}{c:Cell}(h:(z6 n fr γ)[i]? = some c):c = .no\/(∃d j,c = .val d/\n<=i/\fr[i - n]? = some j/\γ[j]? = some (.val d)):=by
 unfold z6 at h;by_cases hi:i<n
 ·rw [zhX (by simpa using hi),zjd,if_pos hi]at h
  exact .inl (zhS h).symm
 ·rw [zhL (by simpa using hi),zhD,List.length_replicate]at h
  cases e:fr[i - n]? with
  | none=>rw [e]at h;cases h
  | some j=>
   rw [e]at h;have h':qb (γ[j]?.getD .no)=c:=by simpa using h
   cases e2:γ[j]? with
   | none=>rw [e2]at h';exact .inl h'.symm
   | some z=>
    rw [e2]at h';cases z with
    | no=>exact .inl h'.symm
    | own ds=>exact .inl h'.symm
    | nest rows=>exact .inl h'.symm
    | val d=>exact .inr ⟨d,j,h'.symm,by omega,rfl,e2⟩
theorem RC.pull{K:PySem.W.Frag}{H0 H:Hp}{σ:St}{γ:Ctx}{own:List Str}{fr:List (Str×Nat)}(r:RC K H0 H σ γ):RC K H0 H (L2.pull own fr σ) (z6 own.length (fr.map (·.2)) γ):=by
 refine⟨r.sub,by simp [L2.pull,z6],λi d h=>?_,λi ds h=>?_,λi j a ds es h _ _ _=>?_,NestOk.nil0 λi rows h=>?_⟩
 ·rcases qt h with z | ⟨d',j,z,hi,I,J⟩
  ·cases z
  ·cases z
   obtain⟨v,h1,h2⟩:=r.val j d J;refine⟨v,?_,h2⟩;rw [zhD]at I;cases q:fr[i - own.length]? with
   | none=>rw [q]at I;cases I
   | some p=>
    rw [q]at I;have O:p.2=j:=by simpa using I
    unfold L2.pull;rw [zhL (by simpa using hi),zhD,zhk,q];simp [O,h1]
 ·rcases qt h with z | ⟨d',j,z,_⟩<;>cases z
 ·rcases qt h with z | ⟨d',j,z,_⟩<;>cases z
 ·rcases qt h with z | ⟨d',j,z,_⟩<;>cases z
theorem RC.weak{K:PySem.W.Frag}{H0 H:Hp}{σ:St}{γ γ':Ctx}(r:RC K H0 H σ γ)(I:γ'.length=γ.length)(J : ∀(i:Nat) d,γ'[i]? = some (.val d)->γ[i]? = some (.val d))(z : ∀(i:Nat) ds,γ'[i]? ≠ some (.own ds))(O : ∀(i:Nat) rows,γ'[i]? ≠ some (.nest rows)):RC K H0 H σ γ':=
 ⟨r.sub,by rw [I];exact r.len,λi d h=>r.val i d (J i d h),λi ds h=>absurd h (z i ds),λi j a ds es h _ _ _=>absurd h (z i ds),NestOk.nil0 O⟩
theorem RC.upd{K:PySem.W.Frag}{H0 H:Hp}{σ:St}{γ:Ctx}{D:Addr}{o:HO}(r:RC K H0 H σ γ)(J:H0 D=none)(I : ∀(i:Nat) ds,γ[i]? ≠ some (.own ds))(O : ∀(i:Nat) rows,γ[i]? ≠ some (.nest rows)):RC K H0 (upd H D o) σ γ:=
 ⟨λb u q=>by rw [zH (λz=>by rw [z,J]at q;cases q)];exact r.sub b u q,r.len,r.val,λi ds h=>absurd h (I i ds),λi j a ds es h _ _ _=>absurd h (I i ds),NestOk.nil0 O⟩
theorem yR : ∀{is:List Nat} {ds:List D} {γ:Ctx},(j1 is ds γ).length=γ.length
 | [],ds,γ=>by cases ds<;>rfl
 | i::is,[],γ=>rfl
 | i::is,d::ds,γ=>by show(j1 is ds (γ.set i (.val d))).length=_;rw [yR];simp
theorem yS : ∀{is:List Nat} {ds:List D} {γ:Ctx} {i:Nat},i∉is->(j1 is ds γ)[i]? = γ[i]?
 | [],ds,γ,i,_=>by cases ds<;>rfl
 | j::is,[],γ,i,_=>rfl
 | j::is,d::ds,γ,i,h=>by
  show(j1 is ds (γ.set j (.val d)))[i]? = _;rw [yS (λz=>h (zhg _ z)),zg7 (λz=>h (by rw [<- z];exact zhj))]
theorem Y9{T:Tg}{d:D}{γ γ1:Ctx}(h:jQ T d γ=some γ1):γ1.length=γ.length/\∀i,i∉T.idx->γ1[i]? = γ[i]? :=by
 cases T with
 | nm j=>cases h;exact⟨by simp,λi hi=>zg7 (λz=>hi (by simp [Tg.idx,z]))⟩
 | tp is=>
  cases d with
  | tup ds=>
   simp only [jQ]at h;by_cases I:ds.length=is.length
   ·rw [if_pos I]at h;cases h;exact⟨yR,λi hi=>yS hi⟩
   ·rw [if_neg I]at h;cases h
  | _=>simp [jQ]at h
section
variable{K:PySem.W.Frag}{own:List Str}{fr:List (Str×Nat)}{src:CO (List D)}{T:Tg}{k:CO Bool}{f:CO D}
theorem kQ(hT : ∀i∈T.idx,i<own.length){tt:TT}(aw : ∀σ H Q,tT K k σ H Q->tt σ H Q) : ∀σ H Q,tO K (zF src T own.length (fr.map (·.2)) k f) σ H Q->VE (tIc K src) own fr (gOf K T) tt (tV K f) σ H Q:=λσ H Q hZ=>by
 obtain⟨H0,γ,ds,rc,S,q⟩:=hZ;obtain⟨items,e1,S⟩:=bind_some S;by_cases hl:items.length<=lim
 ·rw [if_pos hl]at S
  refine⟨H0,γ,items,rc,e1,λJ H1 a5 x1 wk D Z=>?_⟩;have a7 : ∀(i:Nat) es,(z6 own.length (fr.map (·.2)) γ)[i]? ≠ some (.own es):=λi es h=>by rcases qt h with z | ⟨d',j,z,_⟩<;>cases z
  have a8 : ∀(i:Nat) rows,(z6 own.length (fr.map (·.2)) γ)[i]? ≠ some (.nest rows):=λi es h=>by rcases qt h with z | ⟨d',j,z,_⟩<;>cases z
  have ag:a5 D=none:=jv x1.sub Z;have ay:H D=none:=by
   cases z:H D with
   | none=>rfl
   | some o=>rw [x1.s1 D o z]at Z;cases Z
  refine⟨λi m ys σ' H'=>m=items.length - i/\i<=items.length/\ys.length<=i/\H' D=some (.lst ys)/\∃H0' a0 a2,RC K H0' H' σ' (z6 own.length (fr.map (·.2)) γ)/\H0' D=none/\Ext a5 H1 H0' H'/\Reps K H0' a0 ys/\zL T k f (z6 own.length (fr.map (·.2)) γ) (items.drop i)=some a2/\ds=a0++a2,
   ⟨_,rfl,zh7 _,zg3 _,zE,a5,[],ds,((rc.ext x1).pull).upd ag a7 a8,ag,Ext.hide x1.sub Z _,Reps.nil,S,rfl⟩,?_⟩
  rintro i m ys σ' H' ⟨rfl,hi,hy,a3,H0',a0,a2,a9,ai,U,r',I,rfl⟩;refine⟨a3,?_⟩;by_cases Y:i<items.length
  ·refine .inr ⟨wk.go i H' U.s1 Y,?_,λx aa y=>?_⟩
   ·have:=kj (zg3 lim);omega
   obtain⟨d,hd,hx⟩:=wk.yld i H' x aa U.s1 Y y;obtain⟨G0,O,rg⟩:=hx H0' U.s0 a9.sub;have b0:items.drop i=d::items.drop (i+1):=by
    have b9:d=items[i]:=by rw [zg0 Y]at hd;exact(zhS hd).symm
    rw [b9];exact zjO Y
   rw [b0]at I;simp only [zL]at I;obtain⟨γ1,eb,I⟩:=bind_some I;obtain⟨b,ek,I⟩:=bind_some I;have bb:G0 D=none:=O.new D ai (by rw [a3];simp);have ak:aa D=some (.lst ys):=O.s1 _ _ a3;obtain⟨bl,bg⟩:=Y9 eb;have al : ∀{σ2:St} {G2 H2:Hp},RC K G2 H2 σ2 γ1->RC K G2 H2 σ2 (z6 own.length (fr.map (·.2)) γ):=λr=>r.weak bl.symm (λj d' hj=>by
    by_cases hm:j∈T.idx
    ·rcases qt hj with z | ⟨d2,j2,_,hn,_⟩
     ·cases z
     ·exact absurd (hT j hm) ⋯
    ·rw [bg j hm];exact hj) a7 a8
   refine vj O.sub rg eb λσ1 aq _=>aw σ1 aa _ ⟨G0,γ1,b,aq (a9.ext O),ek,λH3 ab x3=>?_⟩;have ac:=(aq (a9.ext O)).ext x3;have xa:=U.trans (O.trans x3);have as:ab D=none:=x3.new D bb (by rw [ak];simp);have ad:H3 D=some (.lst ys):=x3.s1 _ _ ak;cases b with
   | true=>
    dsimp only;rw [if_pos rfl]at I ⊢;obtain⟨e,ee,I⟩:=bind_some I;obtain⟨rest,er,I⟩:=zB I;refine⟨ab,γ1,e,ac,ee,λv H4 au x4 r4=>?_⟩;have ae:au D=none:=x4.new D as (by rw [ad];simp);have bm:H4 D=some (.lst ys):=x4.s1 _ _ ad;have xb:=xa.trans x4;refine⟨bm,items.length - (i+1),by omega,rfl,Y,by rw [zh3,zjt];omega,zE,au,a0++[e],rest,(al (ac.ext x4)).upd ae a7 a8,ae,?_,(r'.mono ((O.trans (x3.trans x4)).s0)).append (Reps.cons r4 Reps.nil),er,?_⟩
    ·exact⟨xb.s0,λc o z=>by rw [zH (λw=>by rw [w,Z]at z;cases z)];exact xb.s1 c o z,λc o z=>by rw [zH (λw=>by rw [w,ae]at z;cases z)];exact xb.sub c o z,xb.new⟩
    ·rw [<- I];simp
   | false=>
    dsimp only;rw [if_neg zhf]at I ⊢;exact⟨items.length - (i+1),by omega,rfl,Y,by omega,ad,ab,a0,a2,al ac,as,xa,r'.mono ((O.trans x3).s0),I,rfl⟩
  ·have e:i=items.length:=by omega
   subst e;rw [zkH]at I;cases I;rw [zkc]at q;exact .inl ⟨wk.stop H' U.s1,q D ys H' H0' (x1.trans U) ay ai a3 r'⟩
 ·rw [if_neg hl]at S;cases S
end
section
variable{X:Cx}{scope:Scope}{own:List Str}{fr:List (Str×Nat)}{elt tg iter c:Expr}{pos:Pos}{src:CO (List D)}{T:Tg}{k:CO Bool}{f:CO D}
theorem jT(z:X.calm=true)(ok:CompOk X scope fr)(I : ∀i∈T.idx,i<own.length)(hi:PIC X tg iter src)(J : ∀fp s2 H2,PG (jg X scope (own++fr.map (·.1)) fp s2 H2) tg (gOf X.K T))
 (O : ∀fp s2 H2,PV (jg X scope (own++fr.map (·.1)) fp s2 H2) elt f) (S : ∀x,foldedSetIterable iter X.env x=pure x:=by intro _;rfl) :
 PO X (.ListComp elt [⟨tg,iter,[],0⟩] scope pos) (zF src T own.length (fr.map (·.2)) ja f):=
 j5 (JH z ok hi J (λ_ _ _=>Qy) O S) (kQ I λσ H Q ⟨H0,γ,b,rc,U,q⟩=>by cases U;exact q H H0 (Ext.refl rc.sub))
theorem KZ(z:X.calm=true)(ok:CompOk X scope fr)(I : ∀i∈T.idx,i<own.length)(hi:PIC X tg iter src)(J : ∀fp s2 H2,PG (jg X scope (own++fr.map (·.1)) fp s2 H2) tg (gOf X.K T))
 (O : ∀fp s2 H2,PTD (jg X scope (own++fr.map (·.1)) fp s2 H2) c k) (S : ∀fp s2 H2,PV (jg X scope (own++fr.map (·.1)) fp s2 H2) elt f) (U : ∀x,foldedSetIterable iter X.env x=pure x:=by intro _;rfl) :
 PO X (.ListComp elt [⟨tg,iter,[c],0⟩] scope pos) (zF src T own.length (fr.map (·.2)) k f):=
 j5 (JH z ok hi J (λfp s2 H2=>Qx (O fp s2 H2)) S U) (kQ I λσ H Q h=>h)
theorem V4{y:Str}{z I:Pos}{i:Nat}(J:X.N.Nodup)(O:X.N[i]? = some y)(S:Loc X.env.scope y)(U:X.fn y=true\/X.env.scope.names.lookup y=some .local)
 (Y:X.calm=true) (ok:CompOk X scope fr) (Z : ∀i∈T.idx,i<own.length) (hi:PIC X tg iter src) (hg : ∀fp s2 H2,PG (jg X scope (own++fr.map (·.1)) fp s2 H2) tg (gOf X.K T))
 (he : ∀fp s2 H2,PV (jg X scope (own++fr.map (·.1)) fp s2 H2) elt f) (hs : ∀x,foldedSetIterable iter X.env x=pure x:=by intro _;rfl) :
 PS X (.Assign [.Name y z] (.ListComp elt [⟨tg,iter,[],0⟩] scope pos) I) (X8 (tO X.K (zF src T own.length (fr.map (·.2)) ja f)) (xR i)):=
 xQ (v6 J O S U Y ok hi hg (λ_ _ _=>Qy) he hs) λD σ H h=>kQ Z (λσ H Q hZ=>by obtain⟨H0,γ,b,rc,ef,q⟩:=hZ;cases ef;exact q H H0 (Ext.refl rc.sub)) σ H _ h
theorem Xy{y:Str}{z I:Pos}{i:Nat}(J:X.N.Nodup)(O:X.N[i]? = some y)(S:Loc X.env.scope y)(U:X.fn y=true\/X.env.scope.names.lookup y=some .local)
 (Y:X.calm=true) (ok:CompOk X scope fr) (Z : ∀i∈T.idx,i<own.length) (hi:PIC X tg iter src) (hg : ∀fp s2 H2,PG (jg X scope (own++fr.map (·.1)) fp s2 H2) tg (gOf X.K T))
 (hk : ∀fp s2 H2,PTD (jg X scope (own++fr.map (·.1)) fp s2 H2) c k) (he : ∀fp s2 H2,PV (jg X scope (own++fr.map (·.1)) fp s2 H2) elt f) (hs : ∀x,foldedSetIterable iter X.env x=pure x:=by intro _;rfl) :
 PS X (.Assign [.Name y z] (.ListComp elt [⟨tg,iter,[c],0⟩] scope pos) I) (X8 (tO X.K (zF src T own.length (fr.map (·.2)) k f)) (xR i)):=
 xQ (v6 J O S U Y ok hi hg (λfp s2 H2=>Qx (hk fp s2 H2)) he hs) λD σ H h=>kQ Z (λσ H Q h=>h) σ H _ h
end
theorem jE{K:PySem.W.Frag}{H:Hp}{i:Int}{v:V}(h:Rep K H (.int i) v):v = .int i:=h
theorem zcK{K:PySem.W.Frag}{g:Int->Int->D}{z:Int->Int->V}(J : ∀H i j,Rep K H (g i j) (z i j)):Snd K (rI0 z) (dI g):=λH0 H x y dx O d Q s S U I q=>by
 cases dx<;>cases O<;>simp [dI]at I;subst I;exact⟨_,_,jE S,jE U,q _ H H0 (Ext.refl s) (J H0 _ _)⟩
theorem Kr{K:PySem.W.Frag}{C:Int->Int->Prop}{c:Int->Int->Bool}{g:Int->Int->D}{z:Int->Int->V}(J : ∀i j,c i j=true->C i j)(O : ∀H i j,Rep K H (g i j) (z i j)):Snd K (rI C z) (dIc c g):=λH0 H x y dx S d Q s U Y I q=>by
 cases dx<;>cases S<;>simp [dIc]at I;obtain⟨e1,Z⟩:=I;subst Z;exact⟨_,_,jE U,jE Y,J _ _ e1,q _ H H0 (Ext.refl s) (O H0 _ _)⟩
theorem zaU{K:PySem.W.Frag}:Snd K (rI0 λi j=> .int (i - j)) qP:=zcK λ_ _ _=>rfl
theorem WY{i j:Int}(h:Zg i j=true):CMul i j:=by
 unfold Zg at h;rw [zh9,decide_eq_true_eq,decide_eq_true_eq]at h;unfold CMul;omega
theorem za0{K:PySem.W.Frag}:Snd K (rI zgv λi j=> .int (i/j)) Z7:=Kr (λi j h=>by
 unfold zd1 at h;rw [Bool.and_eq_true,decide_eq_true_eq,decide_eq_true_eq]at h;exact⟨h.1,by omega⟩) λ_ _ _=>rfl
theorem zaZ{K:PySem.W.Frag}:Snd K (rI (λ_ j=>0<j) λi j=> .int (i%j)) qx:=Kr (λi j h=>by
 unfold zeC at h;exact of_decide_eq_true h) λ_ _ _=>rfl
theorem zaV{K:PySem.W.Frag}:Snd K (rI zgu λi j=> .int (i ^ j.toNat)) zb1:=Kr (λi j h=>by
 unfold zd0 at h;rw [Bool.and_eq_true,Bool.and_eq_true,decide_eq_true_eq,decide_eq_true_eq,decide_eq_true_eq]at h;exact⟨h.1.1,by omega,h.2⟩) λ_ _ _=>rfl
theorem zad{K:PySem.W.Frag}:Snd K (rI0 λi j=> .bl (decide (j<i))) dGt:=zcK λ_ _ _=>rfl
section
variable{X:Cx}
def zaj(K:PySem.W.Frag):R2:=λx y H Q=>∃a b xs ys,x = .ref a/\y = .ref b/\SqT K H a xs/\SqT K H b ys/\xs.length+ys.length<=sizeLine/\
 (xs=[]->Q (.ref b) H)/\(ys=[]->Q (.ref a) H)/\∀p,H p=none->Q (.ref p) (upd H p (.tup (xs++ys)))
theorem Wd:OpR X (binaryOp .Add) (zaj X.K):=by
 intro pins s σ H x y v u Q I rx ry h;obtain⟨a,b,xs,ys,rfl,rfl,ha,hb,S,q0,q1,q2⟩:=h;cases rx;cases ry;obtain⟨J,r,U,z1⟩:=I.tuple ha;obtain⟨aa,r2,Y,z2⟩:=I.tuple hb;by_cases O:xs=[]
 ·have e1:J=[]:=(r.nil_iff).mpr O
  obtain⟨⟨cls,dd,data,sl⟩,Z,hc,n,hd⟩:=id U;obtain⟨⟨af,ac,data2,ad⟩,a1,a2,n2,a3⟩:=id Y;simp only at hc hd a2 a3;subst hc hd a2 a3;exact zkR ⟨_,Z,rfl⟩ ⟨_,a1,rfl⟩ zkS seq_tuple_add zjY zjU (zjJ _ _)
   (tuple_addW0 a b J.toArray aa.toArray n n2 dd ac sl ad (by simp [e1])) ⟨Z,a1,⟨.ref b,H,I,rfl,q0 O⟩⟩
 ·have e1:J ≠ []:=λz=>O ((r.nil_iff).mp z)
  refine HT.cat_tup U Y e1 (λz=>⟨.ref a,H,I,rfl,q1 ((r2.nil_iff).mp z)⟩) (λ_=>?_) (by rw [<- r.length,<- r2.length];exact S);refine⟨.ref s.heap.objs.size,_,I.laid (t':=s.toks) (o:= .tup (xs++ys)) (λc ob q=>zgY _ q) (zg3 _) ?_,rfl,q2 _ (I.hok.fresh (zg3 _))⟩;exact⟨by rw [zh3];exact S,_,r.append r2,IsTupD.new _ _⟩
def zcY(K:PySem.W.Frag):R2:=λx y H Q=>∃l b xs zs,x = .ref l/\y = .ref b/\SqL K H l xs/\SqL K H b zs/\xs.length+zs.length<=sizeLine/\∀p,H p=none->Q (.ref p) (upd H p (.lst (xs++zs)))
theorem We:OpR X (binaryOp .Add) (zcY X.K):=by
 intro pins s σ H x y v u Q I rx ry h;obtain⟨l,b,xs,zs,rfl,rfl,hH,hB,hz,q⟩:=h;cases rx;cases ry;obtain⟨z,r,⟨o,n,e,O,S,U⟩,z1⟩:=I.list hH;obtain⟨J,r2,⟨o2,n2,Y,Z,d2,d3⟩,z2⟩:=I.list hB;have l1:=r.length;have l2:=r2.length;obtain⟨cls,dct,dt,sl⟩:=o;obtain⟨ae,af,ag,a8⟩:=o2;simp only at O S U Z d2 d3;subst O S U Z d2 d3;have a9:EP X pins σ Q (.ref s.heap.objs.size) {s with heap:=s.heap.push {cls:= .type "list",data:= .seq (z++J).toArray}}:=
  ⟨.ref _,_,I.lnew (t':=s.toks) (r.append r2) (by rw [zh3];omega),rfl,q _ I.fresh⟩
 have ea:z.toArray++J.toArray=(z++J).toArray:=by simp
 refine zkR ⟨_,e,rfl⟩ ⟨_,Y,rfl⟩ noFill_list_add seq_list_add PySem.F.slot_list_add PySem.F.entry_list_add (PySem.F.args_list_add_2 _ _)
  (list_addW l b z.toArray J.toArray n n2 none none sl a8 (by rw [zg9,zg9];omega)) ⟨e,Y,?_⟩
 rw [ea];exact a9
end
def kC(scope sc:Scope):Scope:={scope with names:=scope.names.map λp=>if p.2==NameKind.free && sc.kind == .function && sc.names.lookup p.1==some .cell then (p.1,ziH)else (p.1,p.2)}
theorem Xw(scope:Scope)(env:Env):relabel scope env=kC scope env.scope:=by
 unfold relabel kC;rfl
structure SX(X:Cx)(sc:Scope)(N T:List Str)(k:Nat):Prop where
 esc:X.env.scope=sc
 eN:X.N=N
 nd:N.Nodup
 calm:X.calm=true
 room:Room k X.A
 fn : ∀x∈T,X.fn x=true\/sc.names.lookup x=some .local
def Vw(sc:Scope)(N:List Str)(i:Nat)(x:Str):Bool:=
 decide (N[i]? = some x) && (decide (sc.names.lookup x=some .local) || decide (sc.names.lookup x=some .cell) || decide (sc.names.lookup x=some .free)) && !(x==("__debug__" : Str)) && !(x==("__classdict__" : Str))
def Xh(sc:Scope)(N T:List Str)(i:Nat)(x:Str):Bool:=decide (x∈T) && decide (N[i]? = some x) && (decide (sc.names.lookup x=some .local) || decide (sc.names.lookup x=some .cell))
def wo(sc:Scope)(x:Str):Bool:=decide (sc.names.lookup x=some .globalImplicit) && !(x==("__name__" : Str)) && !(x==("__debug__" : Str))
section
variable{X:Cx}{sc:Scope}{N T:List Str}{k:Nat}{i:Nat}{x:Str}{pos:Pos}
theorem SX.var(h:SX X sc N T k)(c:Vw sc N i x=true):PE X (.Name x pos) (vG i):=by
 unfold Vw at c;simp only [Bool.and_eq_true,zh9,decide_eq_true_eq,ziL]at c;obtain⟨⟨⟨h1,h2⟩,z⟩,I⟩:=c;refine zde (by rw [h.eN];exact h1) ?_ z I;unfold Vis;rw [h.esc];rcases h2 with(h2 | h2) | h2
 ·exact .inl h2
 ·exact .inr (.inl h2)
 ·exact .inr (.inr h2)
theorem SX.loc(h:SX X sc N T k)(c:Xh sc N T i x=true):X.N[i]? = some x/\L2.Loc X.env.scope x/\(X.fn x=true\/X.env.scope.names.lookup x=some .local):=by
 unfold Xh at c;simp only [Bool.and_eq_true,zh9,decide_eq_true_eq]at c;refine⟨by rw [h.eN];exact c.1.2,?_,?_⟩
 ·unfold L2.Loc;rw [h.esc];exact c.2
 ·rw [h.esc];exact h.fn x c.1.1
theorem SX.ndX(h:SX X sc N T k):X.N.Nodup:=by rw [h.eN];exact h.nd
theorem SX.tgt(h:SX X sc N T k)(i:Nat)(c:Xh sc N T i x=true):PG X (.Name x pos) (xR i):=by
 obtain⟨h1,h2,z⟩:=h.loc c;exact K4 h.ndX h1 h2 z
theorem SX.tgts(h:SX X sc N T k){es:List Expr}{is:List Nat}{j:Nat}(g:PGs X es (gs is))(z:(assignEach es X.env).length=is.length:=by rfl)(I:(assignEach es X.env).findIdx? (·.1)=none:=by rfl):PG X (.Tuple es j pos) (gOf X.K (.tp is)):=
 zdd h.calm g z I
theorem SX.set(h:SX X sc N T k)(i:Nat){e:Expr}{te:TE}{pos':Pos}(c:Xh sc N T i x=true)(z:PE X e te)(I:swapsWith e (some (.Name x pos')) pos.line X.env=pure false:=by rfl):PS X (.Assign [.Name x pos'] e pos) (X8 te (xR i)):=by
 obtain⟨h1,h2,J⟩:=h.loc c;exact zc9 h.ndX h1 h2 z I J
theorem SX.gl(h:SX X sc N T k)(c:wo sc x=true):Gl X x/\x ≠ "__name__"/\(x==("__debug__" : Str))=false:=by
 unfold wo at c;simp only [Bool.and_eq_true,decide_eq_true_eq,ziL]at c;refine⟨?_,?_,c.2⟩
 ·show X.env.scope.names.lookup x=_
  rw [h.esc];exact c.1.1
 ·intro e;rw [e]at c;simp at c
def YZ(sc scope:Scope)(N:List Str)(fr:List (Str×Nat)):Bool:=
 decide (scope.kind = .function) && decide ((scope.names.map (·.1)).Nodup) && scope.names.all (λp=> !(p.2==NameKind.free) || decide (sc.names.lookup p.1=some .cell) || decide (sc.names.lookup p.1=some .free)) &&
 fr.all λp=>decide (scope.names.lookup p.1=some .free) && decide (N[p.2]? = some p.1)
def zf3(own:List Str)(scope:Scope)(fr:List (Str×Nat)):Bool:=decide ((own++fr.map (·.1)).Nodup) && own.all (λx=>decide (scope.names.lookup x=some .local) || decide (scope.names.lookup x=some .cell))
theorem SX.compOk(h:SX X sc N T k){scope:Scope}{fr:List (Str×Nat)}(c:YZ sc scope N fr=true):CompOk X scope fr:=by
 unfold YZ at c;simp only [Bool.and_eq_true,decide_eq_true_eq,zjx,zh9,ziL]at c;obtain⟨⟨⟨J,O⟩,Q⟩,I⟩:=c;refine⟨J,O,λp z S=>?_,λp z=>⟨(I p z).1,by rw [h.eN];exact(I p z).2⟩⟩;have e:X.env.kindOf p.1=sc.names.lookup p.1:=by show X.env.scope.names.lookup p.1=_;rw [h.esc]
 rw [e];rcases Q p z with(q | q) | q
 ·rw [S]at q;exact absurd q ⋯
 ·exact .inl q
 ·exact .inr q
theorem y8(scope sc:Scope)(x:Str):(kC scope sc).names.lookup x=(scope.names.lookup x).map λk=>if (k==NameKind.free && sc.kind == .function && sc.names.lookup x==some .cell)then ziH else k:=by
 unfold kC;dsimp only;generalize scope.names=l
 induction l with
 | nil=>rfl
 | cons p r I=>
  obtain⟨n,J⟩:=p;rw [zhq];cases hx:x==n with
  | true=>
   have e:x=n:=by simpa using hx
   subst e;dsimp only;split
   ·rename_i z;rw [zhQ,zhQ,beq_self_eq_true];dsimp only [zku];rw [if_pos z]
   ·rename_i z;rw [zhQ,zhQ,beq_self_eq_true];dsimp only [zku];rw [if_neg z]
  | false=>
   dsimp only;split
   ·rw [zhQ,zhQ,hx];exact I
   ·rw [zhQ,zhQ,hx];exact I
theorem SX.comp(h:SX X sc N T k){scope:Scope}{own:List Str}{fr:List (Str×Nat)}{fp:List Addr}{s2:Shared}{H2:Hp}(c:zf3 own scope fr=true) :
 SX (jg X scope (own++fr.map (·.1)) fp s2 H2) (kC scope sc) (own++fr.map (·.1)) own k:=by
 unfold zf3 at c;simp only [Bool.and_eq_true,decide_eq_true_eq,zjx,zh9]at c;refine⟨?_,rfl,c.1,h.calm,h.room,λx hx=>?_⟩
 ·show relabel scope X.env=_
  rw [Xw,h.esc]
 ·rcases c.2 x hx with q | q
  ·right;rw [y8,q];rfl
  ·left
   show(scope.names.lookup x==some .cell)=true;rw [q];rfl
theorem SX.cq(h:SX X sc N T k){scope:Scope}(own:List Str)(fr:List (Str×Nat))(fp:List Addr)(s2:Shared)(H2:Hp)(c:zf3 own scope fr=true) :
 SX (jg X scope (own++fr.map (·.1)) fp s2 H2) (kC scope sc) (own++fr.map (·.1)) own k:=h.comp c
end
mutual
def toP:D->PyData
 | .non=> .none
 | .bl b=> .bool b
 | .int i=> .int i
 | .str x=> .str x
 | .tup ds=> .tuple (toPs ds)
 | .lst ds=> .list (toPs ds)
 | .exc _ _=> .none
 | .dic _ _=> .none
 | .dct _ _=> .none
def toPs:List D->List PyData
 | []=>[]
 | d::ds=>toP d::toPs ds
end
theorem okS_exc{c:Str}{n:Option Int}(h:okS (.exc c n)=true):False:=by simp [okS]at h
theorem okS_dic{ks vs:List D}(h:okS (.dic ks vs)=true):False:=by simp [okS]at h
theorem okS_dct{ks:List (List Int)}{vs:List D}(h:okS (.dct ks vs)=true):False:=by simp [okS]at h
mutual
theorem eqv_toP : ∀x y:D,okS x=true->okS y=true->PyData.eqv (toP x) (toP y)=eqD x y
 | .non,y,_,h=>by cases y<;>first | exact(okS_exc h).elim | exact(okS_dic h).elim | exact(okS_dct h).elim | simp [toP,PyData.eqv,eqD]
 | .bl a,y,_,h=>by cases y<;>first | exact(okS_exc h).elim | exact(okS_dic h).elim | exact(okS_dct h).elim | simp [toP,PyData.eqv,eqD]
 | .int a,y,_,h=>by cases y<;>first | exact(okS_exc h).elim | exact(okS_dic h).elim | exact(okS_dct h).elim | simp [toP,PyData.eqv,eqD]
 | .str a,y,_,h=>by cases y<;>first | exact(okS_exc h).elim | exact(okS_dic h).elim | exact(okS_dct h).elim | simp [toP,PyData.eqv,eqD]
 | .exc c n,y,h,_=>(okS_exc h).elim
 | .dic c n,y,h,_=>(okS_dic h).elim
 | .dct c n,y,h,_=>(okS_dct h).elim
 | .tup xs,y,h1,h2=>by
  cases y with
  | tup ys=>simp only [okS]at h1 h2;simp only [toP,PyData.eqv,eqD];exact eqvs_toP xs ys h1 h2
  | exc c n=>exact(okS_exc h2).elim
  | dic c n=>exact(okS_dic h2).elim
  | dct c n=>exact(okS_dct h2).elim
  | _=>simp [toP,PyData.eqv,eqD]
 | .lst xs,y,h1,h2=>by
  cases y with
  | lst ys=>simp only [okS]at h1 h2;simp only [toP,PyData.eqv,eqD];exact eqvs_toP xs ys h1 h2
  | exc c n=>exact(okS_exc h2).elim
  | dic c n=>exact(okS_dic h2).elim
  | dct c n=>exact(okS_dct h2).elim
  | _=>simp [toP,PyData.eqv,eqD]
theorem eqvs_toP : ∀xs ys:List D,okSs xs=true->okSs ys=true->PyData.eqvAll (toPs xs) (toPs ys)=eqDs xs ys
 | [],ys,_,_=>by cases ys<;>simp [toPs,PyData.eqvAll,eqDs]
 | x::xs,ys,h1,h2=>by
  cases ys with
  | nil=>simp [toPs,PyData.eqvAll,eqDs]
  | cons y ys=>
   simp only [okSs,Bool.and_eq_true]at h1 h2;simp only [toPs,PyData.eqvAll,eqDs];rw [eqv_toP x y h1.1 h2.1,eqvs_toP xs ys h1.2 h2.2]
end
mutual
theorem lay_toP : ∀x:D,okS x=true->(toP x).canLay0=true
 | .non,_=>by simp [toP,PyData.canLay0]
 | .bl a,_=>by simp [toP,PyData.canLay0]
 | .int a,_=>by simp [toP,PyData.canLay0]
 | .str a,h=>by simpa [toP,PyData.canLay0,okS,PyData.strOk]using h
 | .tup xs,h=>by simp only [okS]at h;simp only [toP,PyData.canLay0];exact lays_toP xs h
 | .lst xs,h=>by simp only [okS]at h;simp only [toP,PyData.canLay0];exact lays_toP xs h
 | .exc c n,h=>(okS_exc h).elim
 | .dic c n,h=>(okS_dic h).elim
 | .dct c n,h=>(okS_dct h).elim
theorem lays_toP : ∀xs:List D,okSs xs=true->PyData.canLayAll0 (toPs xs)=true
 | [],_=>by simp [toPs,PyData.canLayAll0]
 | x::xs,h=>by
  simp only [okSs,Bool.and_eq_true]at h;simp only [toPs,PyData.canLayAll0];rw [lay_toP x h.1,lays_toP xs h.2];rfl
end
mutual
theorem depth_toP : ∀x:D,(toP x).depth=deep x
 | .non=>by simp [toP,PyData.depth,deep]
 | .bl a=>by simp [toP,PyData.depth,deep]
 | .int a=>by simp [toP,PyData.depth,deep]
 | .str a=>by simp [toP,PyData.depth,deep]
 | .exc c n=>by simp [toP,PyData.depth,deep]
 | .dic c n=>by simp [toP,PyData.depth,deep]
 | .dct c n=>by simp [toP,PyData.depth,deep]
 | .tup xs=>by simp only [toP,PyData.depth,deep];rw [depths_toP xs]
 | .lst xs=>by simp only [toP,PyData.depth,deep];rw [depths_toP xs]
theorem depths_toP : ∀xs:List D,PyData.depthAll (toPs xs)=deeps xs
 | []=>by simp [toPs,PyData.depthAll,deeps]
 | x::xs=>by simp only [toPs,PyData.depthAll,deeps];rw [depth_toP x,depths_toP xs]
end
theorem xt{d:D}(h:okD d=true):okS d=true:=by
 unfold okD at h;rw [Bool.and_eq_true]at h;exact h.2
theorem ku{d:D}(h:okD d=true):SeqAt.shaped (toP d)=true:=by
 unfold okD at h;rw [Bool.and_eq_true,decide_eq_true_eq]at h;unfold SeqAt.shaped;rw [lay_toP d h.2,Bool.true_and,depth_toP];exact decide_eq_true ⋯
section
variable{X:Cx}{pins:List (Addr×Obj)}{σ:St}{H0 H:Hp}{s:Shared}
mutual
theorem reads_of(I:Inv X pins σ H s)(sub:Same H0 H) : ∀{d:D} {v:V} {u:Value},okS d=true->Rep X.K H0 d v->RelV v u->∃z,Reads s.heap u (toP d) z
 | .non,v,u,_,h,r=>by cases (show v = .non from h);cases r;exact⟨_,.none⟩
 | .bl b,v,u,_,h,r=>by cases (show v = .bl b from h);cases r;exact⟨_,.bool b⟩
 | .int i,v,u,_,h,r=>by cases (show v = .int i from h);obtain⟨t,rfl⟩:=r;exact⟨_,.int i t⟩
 | .str x,v,u,_,h,r=>by cases (show v = .str x from h);obtain⟨t,rfl⟩:=r;exact⟨_,.str x t⟩
 | .exc c n,v,u,o,_,_=>(okS_exc o).elim
 | .dic c n,v,u,o,_,_=>(okS_dic o).elim
 | .dct c n,v,u,o,_,_=>(okS_dct o).elim
 | .tup ds,v,u,o,h,r=>by
  obtain⟨a,xs,rfl,h1,h2⟩:=(show ∃a xs,v = .ref a/\SqT X.K H0 a xs/\Reps X.K H0 ds xs from h);cases r;simp only [okS]at o;obtain⟨U,J,⟨ob,O,Q,n,hd⟩,Y⟩:=I.tuple (sameT sub h1);obtain⟨z,S⟩:=readsAll_of I sub o h2 J;exact⟨z,.tuple O Q hd (by simpa using S)⟩
 | .lst ds,v,u,o,h,r=>by
  obtain⟨a,xs,rfl,h1,h2⟩:=(show ∃a xs,v = .ref a/\SqL X.K H0 a xs/\Reps X.K H0 ds xs from h);cases r;simp only [okS]at o;obtain⟨U,J,p,Y⟩:=I.list (sub.seq h1);obtain⟨ob,O,Q,n,hd⟩:=p.isList;obtain⟨z,S⟩:=readsAll_of I sub o h2 J;exact⟨_,.list O Q hd (by simpa using S)⟩
theorem readsAll_of(I:Inv X pins σ H s)(sub:Same H0 H) : ∀{ds:List D} {xs:List V} {us:List Value},okSs ds=true->Reps X.K H0 ds xs->Vals xs us->∃z,ReadsAll s.heap us (toPs ds) z
 | [],xs,us,_,h,r=>by rw [h.inv_nil]at r;cases r;exact⟨_,.nil⟩
 | d::ds,xs,us,o,h,r=>by
  obtain⟨x,t,e,h1,h2⟩:=h.inv_cons;subst e;simp only [okSs,Bool.and_eq_true]at o;cases r with
  | cons J r2=>
   obtain⟨z,O⟩:=reads_of I sub o.1 h1 J;obtain⟨bs,Q⟩:=readsAll_of I sub o.2 h2 r2;exact⟨_,.cons O Q⟩
end
end
def zf8(K:PySem.W.Frag):R2:=λx y H Q=>∃H0 dx z,Same H0 H/\Rep K H0 dx x/\Rep K H0 z y/\okD dx=true/\okD z=true/\Q (.bl (eqD dx z)) H
def zf7(K:PySem.W.Frag):R2:=λx y H Q=>∃H0 dx z,Same H0 H/\Rep K H0 dx x/\Rep K H0 z y/\okD dx=true/\okD z=true/\Q (.bl (!eqD dx z)) H
theorem zav{X:Cx}(O:X.A.units+64<cLine):OpR X (compareOp .Eq) (zf8 X.K):=by
 intro pins s σ H x y v u Q I S U h;obtain⟨H0,dx,dy,sub,Y,r2,z,J,q⟩:=h;obtain⟨as,Z⟩:=reads_of I sub (xt z) Y S;obtain⟨bs,rb⟩:=reads_of I sub (xt J) r2 U;exact eq_dataH Z rb (ku z) (ku J) O ⟨.bl _,H,I,by rw [eqv_toP _ _ (xt z) (xt J)];rfl,q⟩
theorem zdq{X:Cx}(O:X.A.units+64<cLine):OpR X (compareOp .NotEq) (zf7 X.K):=by
 intro pins s σ H x y v u Q I S U h;obtain⟨H0,dx,dy,sub,Y,r2,z,J,q⟩:=h;obtain⟨as,Z⟩:=reads_of I sub (xt z) Y S;obtain⟨bs,rb⟩:=reads_of I sub (xt J) r2 U;exact ne_dataH Z rb (ku z) (ku J) O ⟨.bl _,H,I,by rw [eqv_toP _ _ (xt z) (xt J)];rfl,q⟩
theorem Ks{K:PySem.W.Frag}:Snd K (zf8 K) dEq:=λH0 H x y dx I d Q s J O z q=>by
 unfold dEq at z;split at z
 ·rename_i h;cases z;exact⟨H0,dx,I,s,J,O,h.1,h.2,q _ H H0 (Ext.refl s) rfl⟩
 ·cases z
theorem zaX{K:PySem.W.Frag}:Snd K (zf7 K) dNe:=λH0 H x y dx I d Q s J O z q=>by
 unfold dNe at z;split at z
 ·rename_i h;cases z;exact⟨H0,dx,I,s,J,O,h.1,h.2,q _ H H0 (Ext.refl s) rfl⟩
 ·cases z
theorem SX.u64{X:Cx}{sc:Scope}{N T:List Str}{k:Nat}(h:SX X sc N T k):X.A.units+64<cLine:=by have:=h.room.un;omega
section
variable{X:Cx}{sc:Scope}{N T:List Str}{k:Nat}{a b c:Expr}{pos p:Pos}{fa fb fc:CO D}
theorem j6(ha:PV X a fa)(z:PV X b fb):PV X (.BinOp a .Sub b pos) (zu qP fa fb):=v0 zdn zaU ha z
theorem yT(ha:PV X a fa)(z:PV X b fb):PV X (.BinOp a .FloorDiv b pos) (zu Z7 fa fb):=v0 zby za0 ha z
theorem qg(ha:PV X a fa)(z:PV X b fb):PV X (.BinOp a .Mod b pos) (zu qx fa fb):=v0 zdr zaZ ha z
theorem KP(ha:PV X a fa)(z:PV X b fb):PV X (.BinOp a .Pow b pos) (zu zb1 fa fb):=v0 zdo zaV ha z
theorem ze7(ha:PV X a fa)(z:PV X b fb):PV X (.Compare a [.Gt] [b] pos) (zu dGt fa fb):=zak zds zad ha z (v9 b)
theorem ze8(h:SX X sc N T k)(ha:PV X a fa)(z:PV X b fb):PV X (.Compare a [.Eq] [b] pos) (zu dEq fa fb):=zak (zav h.u64) Ks ha z (v9 b)
theorem zam(ha:PV X a fa)(z:PV X b fb):PTD X (.Compare a [.Gt] [b] pos) (sB (zu dGt fa fb)):=wL zds zad ha z (v9 b)
theorem v5(h:SX X sc N T k)(ha:PV X a fa)(z:PV X b fb):PTD X (.Compare a [.Eq] [b] pos) (sB (zu dEq fa fb)):=wL (zav h.u64) Ks ha z (v9 b)
theorem zal(h:SX X sc N T k)(ha:PV X a fa)(z:PV X b fb):PTD X (.Compare a [.NotEq] [b] pos) (sB (zu dNe fa fb)):=wL (zdq h.u64) zaX ha z (v9 b)
theorem xn{K:PySem.W.Frag}{H:Hp}{ds:List D}{v:V}(h:Rep K H (.tup ds) v) : ∃a xs,v = .ref a/\SqT K H a xs/\Reps K H ds xs:=h
theorem qa{K:PySem.W.Frag}{H:Hp}{ds:List D}{a:Addr}{xs:List V}(h1:SqT K H a xs)(h2:Reps K H ds xs):Rep K H (.tup ds) (.ref a):=⟨a,xs,rfl,h1,h2⟩
theorem JA{K:PySem.W.Frag}{H:Hp}{ds:List D}{a:Addr}{xs:List V}(h1:SqL K H a xs)(h2:Reps K H ds xs):Rep K H (.lst ds) (.ref a):=⟨a,xs,rfl,h1,h2⟩
theorem za1{K:PySem.W.Frag}:Snd K (λx y H Q=>rI0 (λi j=> .int (i+j)) x y H Q\/zaj K x y H Q) jq:=λH0 H x y dx Z d Q s O S I q=>by
 cases dx<;>cases Z<;>simp [jq]at I
 ·subst I;exact .inl ⟨_,_,jE O,jE S,q _ H H0 (Ext.refl s) rfl⟩
 ·rename_i ds es
  obtain⟨hl,rfl⟩:=I;obtain⟨a,xs,rfl,h1,h2⟩:=xn O;obtain⟨b,ys,rfl,U,z⟩:=xn S;refine .inr ⟨a,b,xs,ys,rfl,rfl,sameT s h1,sameT s U,kj (by rw [h2.length,z.length];exact hl),λe=>?_,λe=>?_,λp Y=>?_⟩
  ·have J:ds=[]:=by
    have:=h2.length;rw [e]at this;exact zhy this.symm
   subst J;exact q _ H H0 (Ext.refl s) (qa U z)
  ·have J:es=[]:=by
    have:=z.length;rw [e]at this;exact zhy this.symm
   subst J;exact q _ H H0 (Ext.refl s) (by rw [zkc];exact qa h1 h2)
  ·exact q _ _ _ (Ext.alloc s Y _) (qa (SqT.of zE) ((h2.append z).mono (zU (jv s Y) _)))
theorem ju(ha:PV X a fa)(z:PV X b fb):PV X (.BinOp a .Add b pos) (zu jq fa fb):=v0 (op_add.or Wd) za1 ha z
end
theorem Qe{P:Program}{w:World}{A:Around}(J:A.handled=none)(k:Sk)(I z:Addr)(O:z≠I)(items:Array Value) :
 Walks P w A I [I,z] [I] items.size (λi v=>items[i]? = some v) (λi h=>ItAt k h I z i/\SqAt k h z items):=by
 cases k
 ·exact Walks.list J I z O items
 ·exact Walks.tuple J I z O items
theorem yU(zs:List Int) : ∀n,preSum (λi=>zs.getD i 0) n=(zs.take n).sum
 | 0=>by simp [preSum]
 | n+1=>by
  have z:=yU zs n;simp only [preSum,z];by_cases h:n<zs.length
  ·rw [List.take_succ_eq_append_getElem h,List.sum_append]
   simp [h]
  ·rw [zih ⋯,zih ⋯]
   simp [h]
section
variable{X:Cx}{pins:List (Addr×Obj)}{σ:St}{H:Hp}{s:Shared}
theorem Y4(Z:X.calm=true):Zo X (.builtin "sum") (λxs H Q=>∃p k ys zs,xs=[.ref p]/\SqK k X.K H p ys/\ys=(zs:List Int).map V.int/\Q (.int zs.sum) H):=by
 intro pins s σ H vs us Q I rv h;obtain⟨p,k,ys,zs,rfl,hq,rfl,q⟩:=h;obtain⟨u,rfl,J⟩:=yJ rv;cases J;obtain⟨z,r,O,hz⟩:=I.sq hq;have lt:=O.lt;have S:=r.length;rw [zhk]at S;refine call_sum_walkG (QK O ⟨_,[_,p],[_],z.toArray.size,_,_,λi=>zs.getD i 0,rfl,Qe (A:=X.A.in1) (I.ok.hd Z) k _ p (zhz lt) z.toArray,⟨QL k _ p,O.at λo e=>zgY _ e⟩,?_,?_,?_⟩)
 ·intro b U
  rw [zhY];simp only [zhh,zhP,or_false]at U;rcases U with rfl | rfl
  ·exact zif _
  ·exact zh0 lt
 ·intro i v hv
  have Y:z[i]? = some v:=by simpa using hv
  have hi:i<zs.length:=by rw [S];exact(zhe.mp Y).1
  obtain⟨u,e1,J⟩:=r.get (i:=i) (x:= .int zs[i]) (by simp [hi]);rw [Y]at e1;cases e1;obtain⟨t,rfl⟩:=J;exact⟨t,by simp [hi]⟩
 ·intro h' tk t' hk
  have e:preSum (λi=>zs.getD i 0) z.toArray.size=zs.sum:=by
   rw [yU,zih (by rw [zg9,S];exact zg3 _)]
  refine⟨.int zs.sum,H,I.kept (t':=tk) (λb u e=>hk b u ?_ (zgY _ e)),⟨t',by rw [e]⟩,q⟩;simp only [zhh,zhP,or_false];exact zhz (zhc e)
def zcB:V->Option Bool
 | .non=>some false
 | .bl b=>some b
 | .int i=>some (i != 0)
 | _=>none
theorem VB{P:Program}{w:World}{A:Around}{E:Value->Shared->Prop}{s:Shared}{Q:Bool->Shared->Prop}{x:V}{u:Value}{b:Bool}(r:RelV x u)(e:zcB x=some b)(q:Q b s):wpAny (model P w) A (truthy u) Q E s:=by
 cases x with
 | non=>cases r;cases e;exact λ_ _ _=>q
 | bl c=>cases r;cases e;exact zj6 q
 | int i=>obtain⟨t,rfl⟩:=r;cases e;exact PyProof.Rows.truthy_int q
 | _=>cases e
def Kj:List V->Option (List Bool)
 | []=>some []
 | x::r=>(zcB x).bind λb=>(Kj r).map λl=>b::l
theorem Zt : ∀{xs:List V} {bs:List Bool},Kj xs=some bs->bs.length=xs.length/\∀(i:Nat) x,xs[i]? = some x->zcB x=some (bs.getD i false)
 | [],bs,h=>by cases h;exact⟨rfl,λi x e=>by simp at e⟩
 | y::xs,bs,h=>by
  obtain⟨b,e1,h⟩:=bind_some h;obtain⟨l,z,h⟩:=zB h;subst h;obtain⟨h1,h2⟩:=Zt z;refine⟨by simp [h1],λi x e=>?_⟩;cases i with
  | zero=>simp at e;subst e;simpa using e1
  | succ i=>simpa using h2 i x (by simpa using e)
theorem Vi(bs:List Bool):(zgX bs.length).any (λi=>bs.getD i false)=bs.any id:=by
 rw [ziA];simp only [List.any_eq_true,zgZ,id_eq];constructor
 ·rintro⟨i,hi,h⟩
  rw [zg4,zg0 hi]at h;exact⟨_,zis hi,h⟩
 ·rintro⟨b,z,h⟩
  obtain⟨i,hi,e⟩:=List.mem_iff_getElem.mp z;refine⟨i,hi,?_⟩;rw [zg4,zg0 hi,zjZ,e];exact h
theorem Y7(Y:X.calm=true):Zo X (.builtin "any") (λxs H Q=>∃p k ys bs,xs=[.ref p]/\SqK k X.K H p ys/\Kj ys=some bs/\Q (.bl (bs.any id)) H):=by
 intro pins s σ H vs us Q I Z h;obtain⟨p,k,ys,bs,rfl,hq,ht,q⟩:=h;obtain⟨u,rfl,J⟩:=yJ Z;cases J;obtain⟨z,r,O,hz⟩:=I.sq hq;have lt:=O.lt;have S:=r.length;obtain⟨a2,a3⟩:=Zt ht;refine call_any_walk (QK O ⟨_,[_,p],[_],z.toArray.size,_,_,λi=>bs.getD i false,rfl,Qe (A:=X.A.in1) (I.ok.hd Y) k _ p (zhz lt) z.toArray,⟨QL k _ p,O.at λo e=>zgY _ e⟩,?_,?_⟩)
 ·intro i v s' Q' E' hv hQ
  have U:z[i]? = some v:=by simpa using hv
  have hi:i<ys.length:=by rw [S];exact(zhe.mp U).1
  obtain⟨u,e1,J⟩:=r.get (i:=i) (x:=ys[i]) (by simp [hi]);rw [U]at e1;cases e1;exact VB J (a3 i ys[i] (by simp [hi])) hQ
 ·intro h' tk hk
  have e:(zgX z.toArray.size).any (λi=>bs.getD i false)=bs.any id:=by
   rw [zg9,<- S,<- a2];exact Vi bs
  refine⟨.bl (bs.any id),H,I.kept (t':=tk) (λb u e=>hk b u ?_ (zgY _ e)),by rw [e];rfl,q⟩;simp only [zhh,zhP,or_false];exact zhz (zhc e)
end
section
variable{X:Cx}{sc:Scope}{N T:List Str}{k:Nat}{e a b c:Expr}{pos p p2:Pos}{f g:CO D}{fq:CO (Sk×List D)}
theorem ze1{K:PySem.W.Frag}{H:Hp}{k:Sk}{a:Addr}{xs:List V}(h:SqK k K H a xs):SqL K H a xs\/SqT K H a xs:=by
 cases k
 ·exact .inl h
 ·exact .inr h
theorem kE(h:SX X sc N T k)(c:wo sc "len" = true)(z:X.mg "len" = none)(J:PQ X e fq)(I:starEach [e] X.env=[(false,eval e X.env)]:=by rfl):PV X (.Call (.Name "len" p) [e] [] pos) (k4 fq):=
 j5 (kG Z9 (h.gl c).1 z PySem.boot_len (zS J jM I) ⋯ ⋯ I rfl) λσ H Q O=>by
  obtain⟨H0,γ,d,rc,S,q⟩:=O;obtain⟨⟨kk,ds⟩,e1,U⟩:=zB S;subst U;refine⟨H0,γ,kk,ds,rc,e1,λa xs H' H0' ext h1 h2 r=>⟨a,xs,rfl,ze1 h1,?_⟩⟩;exact q _ H' H0' ext (show V.int xs.length = .int ds.length by rw [r.length])
theorem jS(h:SX X sc N T k)(c:wo sc "tuple" = true)(z:X.mg "tuple" = none)(O:PQ X e fq)(I:starEach [e] X.env=[(false,eval e X.env)]:=by rfl):PV X (.Call (.Name "tuple" p) [e] [] pos) (zN fq):=
 j5 (ZN Zf (h.gl c).1 z PyProof.Rows.boot_tuple (zS O jM I) ⋯ ⋯ I rfl) λσ H Q S=>by
  obtain⟨H0,γ,d,rc,U,q⟩:=S;obtain⟨⟨kk,ds⟩,e1,Y⟩:=zB U;subst Y;refine⟨H0,γ,kk,ds,rc,e1,λa xs H' H0' ext h1 h2 r=>⟨a,xs,rfl,?_⟩⟩;cases kk with
  | L=>exact .inl ⟨h1,λl J=>q _ _ _ (ext.trans (Ext.alloc ext.sub J _)) (qa (SqT.of zE) (r.mono (zU (jv ext.sub J) _)))⟩
  | T=>exact .inr ⟨h1,q _ H' H0' ext (qa (h2 rfl) r)⟩
theorem yX{H H':Hp}(s:Same H H'){a:Addr}(h:H' a=none):H a=none:=by
 cases z:H a with
 | none=>rfl
 | some o=>rw [s a o z]at h;cases h
theorem Zu : ∀{ds:List D} {n:Int},Vo ds=some n->∃zs:List Int,ds=zs.map D.int/\n=zs.sum
 | [],n,h=>by cases h;exact⟨[],rfl,rfl⟩
 | d::ds,n,h=>by
  cases d with
  | int i=>
   obtain⟨s,e,h⟩:=zB h;obtain⟨zs,rfl,rfl⟩:=Zu e;exact⟨i::zs,rfl,by rw [<- h];simp⟩
  | _=>cases h
theorem ZH{K:PySem.W.Frag}{H:Hp} : ∀{zs:List Int} {xs:List V},Reps K H (zs.map D.int) xs->xs=zs.map V.int
 | [],xs,h=>h.inv_nil
 | z::zs,xs,h=>by
  obtain⟨x,r,e,h1,h2⟩:=Reps.inv_cons h;rw [e,jE h1,ZH h2];rfl
theorem zc3(h:SX X sc N T k)(c:wo sc "sum" = true)(z:X.mg "sum" = none)(S:PQ X e fq)(O:starEach [e] X.env=[(false,eval e X.env)]:=by rfl):PV X (.Call (.Name "sum" p) [e] [] pos) (zcP fq):=
 j5 (kG (Y4 h.calm) (h.gl c).1 z PyProof.Rows.boot_sum (zS S jM O) ⋯ ⋯ O rfl) λσ H Q U=>by
  obtain⟨H0,γ,d,rc,I,q⟩:=U;obtain⟨⟨kk,ds⟩,e1,I⟩:=bind_some I;obtain⟨n,Y,Z⟩:=zB I;subst Z;obtain⟨zs,J,rfl⟩:=Zu Y;have J:ds=zs.map D.int:=J;subst J;exact⟨H0,γ,kk,_,rc,e1,λa xs H' H0' ext h1 h2 r=>⟨a,kk,xs,zs,rfl,h1,ZH r,q _ H' H0' ext rfl⟩⟩
theorem zaN{K:PySem.W.Frag}{H:Hp}{d:D}{x:V}{b:Bool}(h:Rep K H d x)(e:zeR d=some b):zcB x=some b:=by
 cases d with
 | non=>cases (show x = .non from h);exact e
 | bl c=>cases (show x = .bl c from h);exact e
 | int i=>cases (show x = .int i from h);exact e
 | _=>cases e
theorem Qj{K:PySem.W.Frag}{H:Hp} : ∀{ds:List D} {xs:List V} {bs:List Bool},Reps K H ds xs->yL ds=some bs->Kj xs=some bs
 | [],xs,bs,h,e=>by rw [h.inv_nil];exact e
 | d::ds,xs,bs,h,e=>by
  obtain⟨x,r,z,h1,h2⟩:=h.inv_cons;obtain⟨b,e1,e⟩:=bind_some e;obtain⟨l,I,e⟩:=zB e;subst z e;show(zcB x).bind _=_;rw [zaN h1 e1];show((Kj r).map λl=>b::l)=_;rw [Qj h2 I];rfl
theorem zc5(h:SX X sc N T k)(c:wo sc "any" = true)(z:X.mg "any" = none)(O:PQ X e fq)(J:starEach [e] X.env=[(false,eval e X.env)]:=by rfl):PV X (.Call (.Name "any" p) [e] [] pos) (zag fq):=
 j5 (kG (Y7 h.calm) (h.gl c).1 z PyProof.Rows.boot_any (zS O jM J) ⋯ ⋯ J rfl) λσ H Q S=>by
  obtain⟨H0,γ,d,rc,I,q⟩:=S;obtain⟨⟨kk,ds⟩,e1,I⟩:=bind_some I;obtain⟨bs,U,Y⟩:=zB I;subst Y;exact⟨H0,γ,kk,_,rc,e1,λa xs H' H0' ext h1 h2 r=>⟨a,kk,xs,bs,rfl,h1,Qj r U,q _ H' H0' ext rfl⟩⟩
theorem zbf(h:SX X sc N T k)(c:wo sc "int" = true)(z:X.mg "int" = none)(S:PV X e f)(J:starEach [e] X.env=[(false,eval e X.env)]:=by rfl):PV X (.Call (.Name "int" p) [e] [] pos) (KA f):=
 j5 (ZN Y6 (h.gl c).1 z PyProof.Rows.boot_int (zS S jM J) ⋯ ⋯ J rfl) λσ H Q U=>by
  obtain⟨H0,γ,d,rc,I,q⟩:=U;obtain⟨O,e1,I⟩:=bind_some I;refine⟨H0,γ,O,rc,e1,λv H' H0' ext r=>?_⟩;cases O with
  | int i=>cases I;exact .inl ⟨i,by rw [jE r],q _ H' H0' ext rfl⟩
  | bl b=>cases I;exact .inr ⟨b,by rw [show v = .bl b from r],q _ H' H0' ext rfl⟩
  | _=>cases I
end
section
variable{X:Cx}{sc:Scope}{N T:List Str}{k:Nat}{e a b c:Expr}{pos p p2:Pos}{f g:CO D}{fq:CO (Sk×List D)}
theorem zaC{n:Nat}{i:Int}{j:Nat}(h:ixD n i=some j):ixN n i=some j:=by
 unfold ixD at h;unfold ixN;split at h
 ·rename_i h1;rw [if_pos h1.1,if_pos h1.2];exact h
 ·split at h
  ·rename_i h1 h2;rw [if_neg ⋯,if_pos ⋯];exact h
  ·cases h
theorem zW(ha:PQ X a fq)(U:PV X b g)(Y:J8 b:=by intro _ _;rfl):PV X (.Subscript a b pos) (sIx fq g):=
 j5 (zdh (ix_list.or zdH) ha U Y) λσ H Q Z=>by
  obtain⟨H0,γ,d,rc,z,q⟩:=Z;obtain⟨⟨kk,ds⟩,e1,z⟩:=bind_some z;obtain⟨i,J,z⟩:=bind_some z;obtain⟨di,e3,J⟩:=bind_some J;obtain⟨j,e4,z⟩:=bind_some z;refine⟨H0,γ,kk,ds,rc,e1,λp xs H' H0' ext h1 h2 r=>⟨H0',γ,di,rc.ext ext,e3,λv2 H2 a3 I r2=>?_⟩⟩;rw [qJ J]at r2;obtain⟨x,hx,rx⟩:=r.get z;have O:atI xs i=some x:=by
   unfold atI;rw [r.length,zaC e4];exact hx
  have S:=q x H2 a3 (ext.trans I) (rx.mono I.s0);cases kk with
  | L=>exact .inl ⟨p,xs,i,x,rfl,jE r2,I.s1.seq h1,O,S⟩
  | T=>exact .inr ⟨p,xs,i,x,rfl,jE r2,sameT I.s1 h1,O,S⟩
theorem yh{P:Program}{w:World}{A:Around}{E:Value->Shared->Prop}{s:Shared}{t sl:Addr}{items:Array Value}{I J:Value}{lo hi:Option Int}{Q:Value->Shared->Prop}(z:IsTup s.heap t items)(O:s.heap.IsSliceOf sl I J .none)(pl:IsPart I lo)(S:IsPart J hi)
 (hw:HT.sIx items.size 0 lo=0/\HT.sIx items.size items.size hi=items.size) (h:Q (.ref t) s):wpAny (model P w) A (getItem (.ref t) (.ref sl)) Q E s:=by
 obtain⟨os,U,Y,a1⟩:=id O;have Z:s.TypeIs (.ref sl) "slice":=⟨os,U,Y⟩;unfold getItem
 try with_reducible refine zi3 ?_
 first | refine zgV (zg1 ?_) | skip
 refine zgV (wpAny_sequenceKey z.typeIs ⋯ ?_);refine zgV (zhN (name:=zhK "__getitem__") z.typeIs zh4
  (zhH zh4 z.typeIs entry_tuple_getitem ?_ (args_tuple_getitem _ _)))
 show wpAny _ _ (Builtin.Tuple.tupleItemsOf (.ref t) >>= _) _ _ s;refine zgV (zkd z ?_);refine zgV (zjh Z ?_);rw [if_pos ⋯];refine zgV (HT.sliceApplied_gen O pl S ?_);have a0:(((HT.sIx items.size 0 lo:Nat):Int)==0 && (1:Int)==1 && (HT.sIx items.size items.size hi - HT.sIx items.size 0 lo)==items.size)=true:=by
  rw [hw.1,hw.2];simp
 show wpAny _ _ (if (((HT.sIx items.size 0 lo:Nat):Int)==0 && (1:Int)==1 && (HT.sIx items.size items.size hi - HT.sIx items.size 0 lo)==items.size)=true then _ else _) _ _ s;rw [if_pos a0];refine zgV (m:=ziS _) ?_;unfold ziS;refine zgV (zjh z.typeIs (zg1 ?_));rw [if_pos ⋯];exact zgV (zji (zg1 ⟨_,rfl,zg1 h⟩))
def ze5(K:PySem.W.Frag):V->Option Int->Option Int->Hp->VK->Prop:=λx lo hi H Q=>∃a xs,x = .ref a/\SqT K H a xs/\(HT.sIx xs.length 0 lo=0/\HT.sIx xs.length xs.length hi=xs.length->Q (.ref a) H)/\∀p,H p=none->Q (.ref p) (upd H p (.tup (zb3 xs lo hi)))
theorem za2:SlR X (ze5 X.K):=by
 intro pins s σ H x v U Y lo hi sl Q I z J pl O h;obtain⟨a,xs,rfl,hx,Z,q2⟩:=h;by_cases hw:HT.sIx xs.length 0 lo=0/\HT.sIx xs.length xs.length hi=xs.length
 ·cases z
  obtain⟨a1,r,S,hz⟩:=I.tuple hx;have a2:a1.toArray.size=xs.length:=by rw [zg9];exact r.length.symm
  refine⟨"tuple",_,zh4.lookup,S.typeIs,?_⟩;exact yh S J pl O (by rw [a2];exact hw) ⟨.ref a,H,I,rfl,Z hw⟩
 ·exact zcL pins s σ H (.ref a) v U Y lo hi sl Q I z J pl O ⟨a,xs,rfl,hx,hw,q2⟩
theorem yA(n d:Nat)(o:Option Int):J2 n d o=HT.sIx n d o:=by cases o<;>rfl
theorem VV{K:PySem.W.Frag}{H:Hp}{ds:List D}{xs:List V}(r:Reps K H ds xs)(lo hi:Option Int):Reps K H (QX ds lo hi) (zb3 xs lo hi):=by
 unfold QX zb3;rw [<- yA,<- yA,r.length];exact(r.drop _).take _
theorem YX{ds:List D}{lo hi:Option Int}(h:HT.sIx ds.length 0 lo=0/\HT.sIx ds.length ds.length hi=ds.length):QX ds lo hi=ds:=by
 unfold QX;rw [yA,yA,h.1,h.2];simp
def tB(K:PySem.W.Frag)(f:CO (Option Int)):TO:=λσ H Q=>∃H0 γ o,RC K H0 H σ γ/\f γ=some o/\∀H' H0',Ext H0 H H0' H'->Q o H'
theorem wO:L2.PO X none (tB X.K X9):=λpins s σ H Q I ⟨H0,γ,o,rc,z,q⟩=>zbo pins s σ H Q I (by cases z;exact q H H0 (Ext.refl rc.sub))
theorem yb(h:PV X e f):L2.PO X (some e) (tB X.K (sBd f)):=λpins s σ H Q I ⟨H0,γ,o,rc,z,q⟩=>zbn h pins s σ H Q I (by
 obtain⟨i,e1,J⟩:=zB z;obtain⟨d,O,e1⟩:=bind_some e1;subst J;refine⟨H0,γ,d,rc,O,λv H' H0' x r=>?_⟩;rw [qJ e1]at r;exact⟨i,jE r,q H' H0' x⟩)
theorem ZJ{lo hi:Option Expr}{J O:CO (Option Int)}(ha:PV X a f)(Z:L2.PO X lo (tB X.K J))(hh:L2.PO X hi (tB X.K O)):PV X (.Subscript a (.Slice lo hi none p2) pos) (Qo f J O):=
 j5 (V9 za2 ha Z hh) λσ H Q hZ=>by
  obtain⟨H0,γ,d,rc,z,q⟩:=hZ;obtain⟨S,e1,z⟩:=bind_some z;obtain⟨l,e2,z⟩:=bind_some z;obtain⟨u,e3,z⟩:=bind_some z;refine⟨H0,γ,S,rc,e1,λv H' H0' x r=>⟨H0',γ,l,rc.ext x,e2,λH2 a5 I=>⟨a5,γ,u,(rc.ext x).ext I,e3,λH3 a7 x3=>?_⟩⟩⟩;have U:=x.trans (I.trans x3);cases S with
  | tup ds=>
   cases z;obtain⟨a1,xs,rfl,h1,h2⟩:=xn (r.mono (I.trans x3).s0);have a9:=h2.length;refine⟨a1,xs,rfl,sameT x3.sub h1,λhw=>?_,λp Y=>?_⟩
   ·rw [a9]at hw
    exact q _ H3 a7 U (by rw [YX hw];exact qa h1 h2)
   ·exact q _ _ _ (U.trans (Ext.alloc x3.sub Y _)) (qa (SqT.of zE) ((VV h2 _ _).mono (zU (jv x3.sub Y) _)))
  | _=>cases z
theorem Qs{K:PySem.W.Frag}{H:Hp}{ds:List D}{xs:List V}(r:Reps K H ds xs) : ∀n:Nat,Reps K H (zg2 n ds).flatten (zg2 n xs).flatten
 | 0=>Reps.nil
 | n+1=>by rw [zij,zij,ziK,ziK];exact r.append (Qs r n)
theorem K0{S:CO (Sk×List D)}(ha:PQ X a fq)(hb:PQ X b S):PO X (.BinOp a .Add b pos) (kA fq S):=
 j5 (zbt We ha hb) λσ H Q hZ=>by
  obtain⟨H0,γ,ds,rc,z,q⟩:=hZ;obtain⟨⟨k1,U⟩,e1,z⟩:=bind_some z;obtain⟨⟨k2,Y⟩,e2,z⟩:=bind_some z;cases k1<;>cases k2<;>try (simp at z;done)
  dsimp only at z;by_cases J:U.length+Y.length<=lim
  ·rw [if_pos J]at z;cases z
   refine⟨H0,γ,.L,U,rc,e1,λa1 xs H1 a8 x1 h1 h2 Z=>⟨a8,γ,.L,Y,rc.ext x1,e2,λa2 ys H2 aa I h3 h4 r2=>⟨a1,a2,xs,ys,rfl,rfl,I.s1.seq h1,h3,kj (by rw [Z.length,r2.length];exact J),λp O=>?_⟩⟩⟩;exact q p (xs++ys) _ aa (x1.trans (I.trans (Ext.hide I.sub O _))) (yX (x1.trans I).s1 O) (jv I.sub O) zE ((Z.mono I.s0).append r2)
  ·rw [if_neg J]at z;cases z
end
section
variable{X:Cx}{sc:Scope}{N L:List Str}{k:Nat}{e a b c:Expr}{pos p p2:Pos}{f g:CO D}{fq:CO (Sk×List D)}
theorem qe{tg:Expr}(h:SX X sc N L k)(c:wo sc "range" = true)(z:X.mg "range" = none)(ha:PV X a f)(I:starEach [a] X.env=[(false,eval a X.env)]:=by rfl):PIF X tg (.Call (.Name "range" p) [a] [] pos) (ji f):=XB (h.gl c).1 z ha I
theorem QA{tg:Expr}(h:SX X sc N L k)(c:wo sc "range" = true)(z:X.mg "range" = none)(ha:PV X a f)(I:PV X b g)(J:starEach [a,b] X.env=[(false,eval a X.env),(false,eval b X.env)]:=by rfl)(O:starEach [b] X.env=[(false,eval b X.env)]:=by rfl) :
 PIF X tg (.Call (.Name "range" p) [a,b] [] pos) (kg f g):=XA (h.gl c).1 z ha I J O
theorem Qz{elts:List Expr}{x1:Nat}{tpos:Pos}(h:SX X sc N L k)(c:wo sc "zip" = true)(z:X.mg "zip" = none)(ha:PV X a f)(I:PV X b g)(J:starEach [a,b] X.env=[(false,eval a X.env),(false,eval b X.env)]:=by rfl)(O:starEach [b] X.env=[(false,eval b X.env)]:=by rfl) :
 PIF X (.Tuple elts x1 tpos) (.Call (.Name "zip" p) [a,b] [] pos) (Qn f g):=zbq (h.gl c).1 z ha I J O
theorem VZ(ha:PQ X a fq)(I : ∀z,isTrue a X.env z=(do let v <- z;standAt a.pos;holding [v] (truthy v)):=by intro _;rfl):PTD X a (VM fq):=
 V1 (V0 ha I) λσ H Q J=>by
  obtain⟨H0,γ,t,rc,O,q⟩:=J;obtain⟨⟨kk,ds⟩,e1,S⟩:=zB O;subst S;refine⟨H0,γ,kk,ds,rc,e1,λp xs H' H0' ext h1 h2 r=>⟨!ds.isEmpty,?_,q H' H0' ext⟩⟩;have e:xs.isEmpty=ds.isEmpty:=by
   have:=r.length;cases xs<;>cases ds<;>simp_all
  rw [<- e];cases kk with
  | L=>exact .inl ⟨xs,h1,rfl⟩
  | T=>exact .inr (.inl ⟨xs,h1,rfl⟩)
theorem JD(i:Nat){x:Str}{apos cpos np:Pos}(h:SX X sc N L k)(c:Vw sc N i x=true)(ha:PV X a f)(z:starEach [a] X.env=[(false,eval a X.env)]:=by rfl)
 (I:attributeBase (.Name x np) "append" X.env (eval (.Name x np) X.env)=eval (.Name x np) X.env:=by rfl)
 (J:((backTo cpos (starEach [a] X.env)).all (λx=> !x.1) && (backToKw cpos (keywordEach [] X.env)).all (λx=>x.1.isSome)
   && decide ([a].length+([]:List Keyword).length+(if ([]:List Keyword).isEmpty then 0 else 1)<30))=true:=by rfl)
 (O:(apos.endLine==cpos.line)=true:=by rfl) (Q:swapsWith (.Call (.Attribute (.Name x np) "append" apos) [a] [] cpos) none pos.line X.env=pure false:=by rfl) :
 PSD X (.Expr (.Call (.Attribute (.Name x np) "append" apos) [a] [] cpos) pos) (qs i f):=
 Xx i (zdj PySem.F.plainAttrs_list PySem.F.slot_list_append PySem.F.type_list_append Yc (h.var c) (zS ha jM z) I J O z rfl) Q
theorem jL(i:Nat){st:Stmt}{f:CO (List D)}(h:PS X st (X8 (tO X.K f) (xR i))):PSD X st (zQ i (jk f)):=xQ h λD σ H J=>by
 obtain⟨E0,E,H0,γ,U,z,I,O⟩:=J;obtain⟨d,e1,I⟩:=zB I;obtain⟨ds,Q,e1⟩:=zB e1;subst I e1;exact⟨H0,γ,ds,z.rc,Q,λa xs H' H0' x h1 h2 S r=>O _ _ _ ((z.step (x.show h1 h2 S z.rc.sub)).setVal (JA (SqL.of zE) (r.mono (zU h2 _))))⟩
theorem psc{scope:Scope}{own:List Str}{fr:List (Str×Nat)}{elt tg iter:Expr}{cpos z I:Pos}{src:CO (List D)}{T:Tg}{y:Str}(i:Nat)(h:SX X sc N L k)(c:Xh sc N L i y=true)
 (J:X.calm=true) (ok:CompOk X scope fr) (O : ∀i∈T.idx,i<own.length) (hi:PIC X tg iter src) (Q : ∀fp s2 H2,PG (jg X scope (own++fr.map (·.1)) fp s2 H2) tg (gOf X.K T))
 (S : ∀fp s2 H2,PV (jg X scope (own++fr.map (·.1)) fp s2 H2) elt f) (U : ∀x,foldedSetIterable iter X.env x=pure x:=by intro _;rfl) :
 PS X (.Assign [.Name y I] (.ListComp elt [⟨tg,iter,[],0⟩] scope cpos) z) (X8 (tO X.K (zF src T own.length (fr.map (·.2)) ja f)) (xR i)):=by
 obtain⟨h1,h2,Y⟩:=h.loc c;exact V4 h.ndX h1 h2 Y J ok O hi Q S U
theorem ze9{scope:Scope}{own:List Str}{fr:List (Str×Nat)}{elt tg iter z:Expr}{cpos I J:Pos}{src:CO (List D)}{T:Tg}{y:Str}{kk:CO Bool}(i:Nat)(h:SX X sc N L k)(c:Xh sc N L i y=true)
 (O:X.calm=true) (ok:CompOk X scope fr) (Q : ∀i∈T.idx,i<own.length) (hi:PIC X tg iter src) (S : ∀fp s2 H2,PG (jg X scope (own++fr.map (·.1)) fp s2 H2) tg (gOf X.K T))
 (U : ∀fp s2 H2,PTD (jg X scope (own++fr.map (·.1)) fp s2 H2) z kk) (Y : ∀fp s2 H2,PV (jg X scope (own++fr.map (·.1)) fp s2 H2) elt f) (Z : ∀x,foldedSetIterable iter X.env x=pure x:=by intro _;rfl) :
 PS X (.Assign [.Name y J] (.ListComp elt [⟨tg,iter,[z],0⟩] scope cpos) I) (X8 (tO X.K (zF src T own.length (fr.map (·.2)) kk f)) (xR i)):=by
 obtain⟨h1,h2,h3⟩:=h.loc c;exact Xy h.ndX h1 h2 h3 O ok Q hi S U Y Z
theorem Qw{tg:Expr}{T:Tg}(J:PG X tg (gOf X.K T))(O:PV X e f)(Q:swapsWithSole [tg] e pos.line X.env=pure false:=by rfl)(hw:swappedStores [tg] e X.env=pure none:=by rfl)
 (h1:(assignEach [tg] X.env).map (·.2)=[assign tg X.env]:=by rfl):PSD X (.Assign [tg] e pos) (Jv T f):=
 xQ (zaq O J Q hw h1) λD σ H S=>by
  obtain⟨E0,E,H0,γ,fl,I,z,U⟩:=S;obtain⟨d,e1,z⟩:=bind_some z;obtain⟨γ1,Y,z⟩:=zB z;subst z;refine⟨H0,γ,d,I.rc,e1,λv H' H0' x r=>?_⟩;exact vj x.sub r Y λZ _ a0=>U Z H' H0' (a0 E0 E (I.step x))
end
structure FnD(P:Program)(w:World)(K:PySem.W.Frag)(mg:Str->Option Value)(base:Heap)(k:Nat)(x:Str)(n:Nat)(F:List D->Option Res):Prop where
 ex : ∃(f:Addr) (fd:FuncData) (ps:List Str),ps.length=n/\FnOk P w K mg base CX0 k f fd ps (spF K ps.length F)/\mg x=some (.ref f)/\PySem.W.keepIn K (.ref f)=true/\Binds K fd ps []
structure DefAt(K:PySem.W.Frag)(mg:Str->Option Value)(x:Str)(st:Stmt)(ps:List Str):Prop where
 ex : ∃(f:Addr) (fd:FuncData),L2.Fun K x x st f fd/\(∀us:List Value,us.length=ps.length->bindArgs fd ⟨us,[]⟩=pure (ps.zip us))/\mg x=some (.ref f)
def PAn(X:Cx)(es:List Expr)(n:Nat)(g:CO (List D)):Prop:=PAD X es g/\∀γ ds,g γ=some ds->ds.length=n
section
variable{X:Cx}{sc:Scope}{N L:List Str}{k:Nat}{e:Expr}{es:List Expr}{f:CO D}{g:CO (List D)}{n:Nat}{pos p:Pos}{x:Str}
theorem zk:PAn X [] 0 zo:=⟨zbw,λγ ds h=>by cases h;rfl⟩
theorem zb(ha:PV X e f)(z:PAn X es n g)(I:starEach (e::es) X.env=(false,eval e X.env)::starEach es X.env:=by rfl):PAn X (e::es) (n+1) (za f g):=
 ⟨Wc ha z.1 I,λγ ds h=>by
  obtain⟨y,e1,h⟩:=bind_some h;obtain⟨r,J,h⟩:=zB h;subst h;rw [zhE,z.2 γ r J]⟩
variable{j:Nat}{F:List D->Option Res}
theorem jt(z:FnD X.prog X.w X.K X.mg X.base j x n F)(I:j<=k)(h:SX X sc N L k)(c:wo sc x=true)(ha:PAn X (e::es) n g)
 (J:starEach (e::es) X.env=(false,eval e X.env)::starEach es X.env:=by rfl) (O:(backTo pos (starEach es X.env)).any (·.1)=false:=by rfl):PV X (.Call (.Name x p) (e::es) [] pos) (zq F g):=by
 obtain⟨fa,fd,ps,Q,G,S,U,Y⟩:=z.ex;subst Q;exact zbh (A0:=[]) G ha.1 ha.2 λ{t} Z=>yW G (h.room.mono I) (h.gl c).1 S U Y .nil ZO Z (h.gl c).2.2 J O
theorem wN(z:FnD X.prog X.w X.K X.mg X.base j x n F)(I:j<=k)(h:SX X sc N L k)(c:wo sc x=true)(ha:PAn X (e::es) n g)
 (J:starEach (e::es) X.env=(false,eval e X.env)::starEach es X.env:=by rfl) (O:(backTo pos (starEach es X.env)).any (·.1)=false:=by rfl):PO X (.Call (.Name x p) (e::es) [] pos) (zX F g):=by
 obtain⟨fa,fd,ps,Q,G,S,U,Y⟩:=z.ex;subst Q;exact zbp G ha.1 ha.2 λ{t} Z=>yW G (h.room.mono I) (h.gl c).1 S U Y .nil ZO Z (h.gl c).2.2 J O
end
section
variable{P:Program}{w:World}{K:PySem.W.Frag}{mg:Str->Option Value}{base:Heap}
def J0(N ps:List Str)(st:Stmt):Bool:=
 decide ((defScope st).kind = .function) && decide ((defScope st).isCoroutine=false) && decide ((defScope st).isGenerator=false) && decide N.Nodup && decide (N.take ps.length=ps) &&
 ps.all (λx=>decide ((defScope st).names.lookup x=some .local) || decide ((defScope st).names.lookup x=some .cell)) && (defScope st).names.all (λy=> !(y.2==NameKind.free))
theorem kx{N ps:List Str}{st:Stmt}(h:J0 N ps st=true):FnScope N ps (defScope st):=by
 unfold J0 at h;simp only [Bool.and_eq_true,decide_eq_true_eq,zjx,zh9,ziL]at h;obtain⟨⟨⟨⟨⟨⟨h1,h2⟩,z⟩,I⟩,J⟩,O⟩,Q⟩:=h;exact⟨h1,h2,z,I,J,O,λy S e=>by have:=Q y S;rw [e]at this;exact absurd this ⋯⟩
theorem xV{X:Cx}(hx:X.xe=λ_ _=>False):PassesOwn (model X.prog X.w) X.A X.env X.xe:=by rw [hx];exact PassesOwn.never
theorem kN{x:Str}{st:Stmt}{N ps:List Str}{k:Nat}{F:CO Fl}(A:DefAt K mg x st ps)(hd:J0 N ps st=true)
 (I : ∀X:Cx,X.prog=P->X.w=w->X.K=K->X.mg=mg->X.base=base->SX X (defScope st) N N k->X.xe=(λ_ _=>False)->Ka X (defBody st) F) :
 FnD P w K mg base (k+1) x ps.length (z5 N.length F):=by
 obtain⟨f,fd,z,J,O⟩:=A.ex;have S:=kx hd;refine⟨f,fd,ps,rfl,zdR z S λcdv A outer s H E Q=>?_,O,z.kp,.all J⟩;exact I _ rfl rfl rfl rfl rfl ⟨rfl,rfl,S.nd,rfl,Q,λ_ _=> .inl rfl⟩ rfl
theorem def_mk{h:Heap}{x:Str}{st:Stmt}{ps:List Str}{f:Addr}{oc:Value}{od an:Option Addr}{osl:Array (Option Value)}{kV doc pm cdv ct:Value}(z:K.In h)(G:h.Ns mainGlobals mg)
 (a:zjB K mainGlobals x=some (some (.ref f))) (l:K.lookup f=some ⟨oc,od,.func (PySem.W.fnOf x x (defArgs st) (defBody st) (defScope st) .none kV doc pm an cdv ct),osl⟩)
 (c:PySem.W.codeIn K cdv x=true) (kp:PySem.W.keepIn K (.ref f)=true)
 (b : ∀(kV doc pm:Value) (an:Option Addr) (cdv ct:Value) (us:List Value),us.length=ps.length->bindArgs (PySem.W.fnOf x x (defArgs st) (defBody st) (defScope st) .none kV doc pm an cdv ct) ⟨us,[]⟩=pure (ps.zip us)):DefAt K mg x st ps:=
 ⟨f,_,QP l c kp,b kV doc pm an cdv ct,zkj z G a⟩
theorem zfx{x:Str}{st:Stmt}{f:Addr}{fd:FuncData}{N ps:List Str}{k:Nat}{F:CO Fl}(z:L2.Fun K x x st f fd)(hd:J0 N ps st=true)
 (I : ∀X:Cx,X.prog=P->X.w=w->X.K=K->X.mg=mg->X.base=base->SX X (defScope st) N N k->X.xe=(λ_ _=>False)->Ka X (defBody st) F) :
 FnOk P w K mg base CX0 (k+1) f fd ps (spF K ps.length (z5 N.length F)):=by
 have S:=kx hd;exact zdR z S λcdv A outer s H E J=>I _ rfl rfl rfl rfl rfl ⟨rfl,rfl,S.nd,rfl,J,λ_ _=> .inl rfl⟩ rfl
theorem law_true{F:List D->Option Res}{H:Hp}{a:Addr}{ns:List Int}(z:SqL K H a (ns.map V.int))(I:F [.lst (ns.map D.int)]=some (.val (.bl true))) :
 spF K 1 F [.ref a] H (λv _=>v = .bl true) λ_ _ _=>False:=by
 refine⟨H,[.lst (ns.map D.int)],.val (.bl true),Same.refl _,Reps.cons (JA z ?_) Reps.nil,rfl,I,λv H' H0' _ r=>r⟩;clear I z
 induction ns with
 | nil=>exact Reps.nil
 | cons n ns J=>exact Reps.cons rfl J
end
end DL
namespace DL
open PySem PySem.Spec PyProof.Rows L2
open AutoSeq1 (wpAny_loadPart')
theorem yp:fillsNumberSlot (.type "tuple") "mul" = pure false:=
 PySem.fillsNumberSlot_seq (id:="tuple.__mul__") (r:=some (.builtin "tuple.__rmul__")) zjA.lookup ⋯ F.slot_tuple_rmul.lookup ⋯
theorem ZI:seqRepeat? (.type "tuple")=pure (some (.builtin "tuple.__mul__")):=by
 unfold seqRepeat?;rw [PySem.seqSlot_of (T:="tuple") (name:="__mul__") (id:="tuple.__mul__") zjA.lookup ⋯,PySem.seqSlot_of (T:="tuple") (name:="__rmul__") (id:="tuple.__rmul__") F.slot_tuple_rmul.lookup ⋯];rfl
theorem vM(a:Int)(t:Tok)(l:Addr)(items:Array Value)(n:Nat)(z:Option Addr)(sl:Array (Option Value)) :
 Meets (Builtin.«int.__rmul__» ⟨[.int a t,.ref l],[]⟩) (λ_ R s=>s.heap.get? l=some {cls:= .type "tuple",dict:=z,data:= .seq items n,slots:=sl}/\R (.ok (.ret Value.notImplemented)) s):=
 .of_wp λprog w A R s h=>by obtain⟨I,g,d,tk,os⟩:=s;obtain⟨J,h⟩:=h;wp_walk;exact⟨_,rfl,h⟩
theorem wC(a:Int)(t:Tok)(l:Addr)(items:Array Value)(n:Nat)(I:Option Addr)(sl:Array (Option Value))(h1 : ¬(decide (a < -(2 ^ 63)) || decide (a>=2 ^ 63))=true)(h2 : ¬(items.isEmpty || a==1)=true)
 (J : ¬(decide (a<=0) || items.isEmpty)=true) (O : ¬((items.size:Int)*a>(2 ^ 63 - 1)/8)) (Q : ¬Builtin.Tuple.tupleTooMany ((items.size:Int)*a)=true) (S:((zg2 a.toNat items).foldl (· ++ ·) #[]).size<=sizeLine) :
 Meets (Builtin.«tuple.__mul__» ⟨[.ref l,.int a t],[]⟩) (λ_ R s=>s.heap.get? l=some {cls:= .type "tuple",dict:=I,data:= .seq items n,slots:=sl}/\
  R (.ok (.ret (.ref s.heap.objs.size))) {s with heap:=s.heap.push {cls:= .type "tuple",data:= .seq ((zg2 a.toNat items).foldl (· ++ ·) #[])}}):=
 .of_wp λprog w A R s h=>by
  obtain⟨U,g,d,tk,os⟩:=s;obtain⟨z,h⟩:=h
  wp_walk using zjp z
  rw [if_neg h1];refine zgV (zkd (s:=⟨U,g,d,tk,os⟩) ⟨_,z,rfl,n,rfl⟩ ?_);dsimp only;rw [if_neg h2,if_neg J,if_neg O,if_neg Q];refine zgV (m:=zhW _) (zho ?_ S);exact zg1 ⟨_,rfl,h⟩
theorem vF(a:Int)(t:Tok)(l:Addr)(items:Array Value)(n:Nat)(I:Option Addr)(sl:Array (Option Value))(h1 : ¬(decide (a < -(2 ^ 63)) || decide (a>=2 ^ 63))=true)(h2 : ¬(items.isEmpty || a==1)=true)
 (J:(decide (a<=0) || items.isEmpty)=true) :
 Meets (Builtin.«tuple.__mul__» ⟨[.ref l,.int a t],[]⟩) (λ_ R s=>s.heap.get? l=some {cls:= .type "tuple",dict:=I,data:= .seq items n,slots:=sl}/\
  R (.ok (.ret (.ref s.heap.objs.size))) {s with heap:=s.heap.push {cls:= .type "tuple",data:= .seq #[]}}):=
 .of_wp λprog w A R s h=>by
  obtain⟨O,g,d,tk,os⟩:=s;obtain⟨z,h⟩:=h
  wp_walk using zjp z
  rw [if_neg h1];refine zgV (zkd (s:=⟨O,g,d,tk,os⟩) ⟨_,z,rfl,n,rfl⟩ ?_);dsimp only;rw [if_neg h2,if_pos J];refine zgV (m:=zhW _) (zho ?_ (zh7 _));exact zg1 ⟨_,rfl,h⟩
theorem vE(a:Int)(t:Tok)(l:Addr)(items:Array Value)(n:Nat)(I:Option Addr)(sl:Array (Option Value))(h1 : ¬(decide (a < -(2 ^ 63)) || decide (a>=2 ^ 63))=true)(h2:(items.isEmpty || a==1)=true) :
 Meets (Builtin.«tuple.__mul__» ⟨[.ref l,.int a t],[]⟩) (λ_ R s=>s.heap.get? l=some {cls:= .type "tuple",dict:=I,data:= .seq items n,slots:=sl}/\R (.ok (.ret (.ref l))) s):=
 .of_wp λprog w A R s h=>by
  obtain⟨J,g,d,tk,os⟩:=s;obtain⟨z,h⟩:=h
  wp_walk using zjp z
  rw [if_neg h1];refine zgV (zkd (s:=⟨J,g,d,tk,os⟩) ⟨_,z,rfl,n,rfl⟩ ?_);dsimp only;rw [if_pos h2];refine zgV (m:=ziS _) ?_;unfold ziS;refine zgV (zjh (T:="tuple") ⟨_,z,rfl⟩ (zg1 ?_));rw [if_pos ⋯];exact zgV (zji (zg1 ⟨_,rfl,h⟩))
section
variable{X:Cx}
def zcX(K:PySem.W.Frag):R2:=λx y H Q=>∃l k xs,x = .ref l/\y = .int k/\SqT K H l xs/\ -(2 ^ 62)<=k/\k<2 ^ 62/\xs.length*k.toNat<=sizeLine/\(xs=[]\/k=1->Q (.ref l) H)/\
 ∀p,H p=none->Q (.ref p) (upd H p (.tup (zg2 k.toNat xs).flatten))
theorem zbx:OpR X (binaryOp .Mult) (zcX X.K):=by
 intro pins s σ H x y v u Q I rx ry h;obtain⟨l,k,xs,rfl,rfl,hq,h1,h2,hz,q1,q2⟩:=h;cases rx;obtain⟨t,rfl⟩:=ry;obtain⟨z,r,ht,z1⟩:=I.tuple hq;obtain⟨⟨cls,S,data,sl⟩,J,hc,n,hd⟩:=id ht;simp only at hc hd;subst hc hd;have ab:=r.length;have Y : ¬(decide (k < -(2 ^ 63)) || decide (k>=2 ^ 63))=true:=by simp;omega
 refine wpAny_binaryOp_repeat_ref (T:="tuple") (U:="int") ⋯ ⟨_,J,rfl⟩ (λs'=>typeIs_int s' k t) yp F.fills_int_mul F.slot_int_rmul ZI F.slot_int_index.lookup
  (zj7 F.slot_int_rmul (typeIs_int s k t) F.entry_int_rmul (F.args_int_rmul_2 _ _) (vM k t l z.toArray n S sl) ⟨J,rfl,⟨_,J,rfl⟩,?_⟩)
 have f0 : ∀m:Nat,List.foldl (λx1 Z=>x1++Z) #[] (zg2 m z.toArray)=(zg2 m z).flatten.toArray:=λm=>by
  have:=Z4 z m [];rw [List.nil_append]at this;exact this
 by_cases g2:(z.toArray.isEmpty || k==1)=true
 ·refine zj7 zjA ⟨_,J,rfl⟩ zkM (zkD _ _) (vE k t l z.toArray n S sl Y g2) ⟨J,⟨.ref l,H,I,rfl,q1 ?_⟩⟩
  rw [zh9]at g2;rcases g2 with g | g
  ·left
   have:z=[]:=by simpa using g
   exact(r.nil_iff).mp this
  ·right;simpa using g
 ·have a0:=g2
  simp only [zh9,not_or]at a0;have ac:z ≠ []:=by intro e;exact a0.1 (by rw [e];rfl)
  have ae:0<z.length:=List.length_pos_iff.mpr ac;by_cases O:(decide (k<=0) || z.toArray.isEmpty)=true
  ·have hk:k.toNat=0:=by
    rw [zh9]at O;rcases O with g | g
    ·have:=of_decide_eq_true g;omega
    ·exact absurd g a0.1
   refine zj7 zjA ⟨_,J,rfl⟩ zkM (zkD _ _) (vF k t l z.toArray n S sl Y g2 O) ⟨J,?_⟩;refine⟨.ref s.heap.objs.size,_,I.laid (t':=s.toks) (o:= .tup (zg2 k.toNat xs).flatten) (λc ob q=>zgY _ q) (zg3 _) ?_,rfl,q2 _ (I.hok.fresh (zg3 _))⟩;rw [hk];exact⟨zh7 _,[],.nil,IsTupD.new _ _⟩
  ·have hk : ¬k<=0:=by intro g;exact O (by rw [zh9];exact .inl (decide_eq_true g))
   have hsz:z.length*k.toNat<=sizeLine:=by rw [<- ab];exact hz
   have af:((z.toArray.size:Nat):Int)*k<=(sizeLine:Int):=by
    rw [zg9];have e:((z.length*k.toNat:Nat):Int)=(z.length:Int)*k:=by
     rw [Int.natCast_mul,zjD ⋯]
    omega
   have ag:sizeLine=16777216:=sizeLine_eq;have ad:(List.foldl (λx1 Z=>x1++Z) #[] (zg2 k.toNat z.toArray)).size<=sizeLine:=by
    rw [f0,zg9,Yj,zkE];exact hsz
   refine zj7 zjA ⟨_,J,rfl⟩ zkM (zkD _ _) (wC k t l z.toArray n S sl Y g2 O ⋯ (by unfold Builtin.Tuple.tupleTooMany;simp only [decide_eq_true_eq];omega) ad) ⟨J,?_⟩;rw [f0];refine⟨.ref s.heap.objs.size,_,I.laid (t':=s.toks) (o:= .tup (zg2 k.toNat xs).flatten) (λc ob q=>zgY _ q) (zg3 _) ?_,rfl,q2 _ (I.hok.fresh (zg3 _))⟩;exact⟨by rw [Yj,zkE];exact hz,_,r.rep k.toNat,IsTupD.new _ _⟩
theorem zaY{K:PySem.W.Frag}:Snd K (λx y H Q=>rI CMul (λi j=> .int (i*j)) x y H Q\/zcX K x y H Q) qI:=λH0 H x y dx U d Q s J O z q=>by
 cases dx<;>cases U<;>simp [qI]at z
 ·obtain⟨e1,I⟩:=z
  subst I;exact .inl ⟨_,_,jE J,jE O,WY e1,q _ H H0 (Ext.refl s) rfl⟩
 ·rename_i ds j
  obtain⟨⟨Y,Z⟩,rfl⟩:=z;obtain⟨a,xs,rfl,h1,h2⟩:=xn J;obtain⟨q1,q2⟩:=wY Z;refine .inr ⟨a,j,xs,rfl,jE O,sameT s h1,q1,q2,kj (by rw [h2.length];exact Y),λe=>?_,λp S=>?_⟩
  ·refine q _ H H0 (Ext.refl s) ?_
   rcases e with e | e
   ·have I:ds=[]:=by
     have:=h2.length;rw [e]at this;exact zhy this.symm
    subst I;rw [show(zg2 j.toNat ([]:List D)).flatten=[]by simp];exact qa h1 h2
   ·subst e
    rw [show(zg2 (1:Int).toNat ds).flatten=ds by simp];exact qa h1 h2
  ·exact q _ _ _ (Ext.alloc s S _) (qa (SqT.of zE) ((Qs h2 _).mono (zU (jv s S) _)))
theorem qm{a b:Expr}{pos:Pos}{fa fb:CO D}(ha:PV X a fa)(z:PV X b fb):PV X (.BinOp a .Mult b pos) (zu qI fa fb):=v0 (op_mul.or zbx) zaY ha z
end
end DL
namespace DL
open PySem PySem.Spec PyProof.Rows L2
theorem RC.lendAt{K:PySem.W.Frag}{H0 H:Hp}{σ:St}{γ:Ctx}{i:Nat}{ds:List D}{a:Addr}{xs:List V}(r:RC K H0 H σ γ)(e:γ[i]? = some (.own ds))(h1:σ[i]? = some (some (.ref a)))(h2:H0 a=none)(Y:H a=some (.lst xs))(Z:Reps K H0 ds xs):RC K (L2.upd H0 a (.lst xs)) H σ (γ.set i (.val (.lst ds))):=by
 refine⟨λb o q=>?_,by simp [r.len],λj d g=>?_,λj es g=>?_,λj k b es fs e1 I e3 e4=>?_,⟨λj rows g=>?_,λj k r1 r2 e1 I=>?_⟩⟩
 ·by_cases z:b=a
  ·subst z;rw [zE]at q;rw [Y];exact q
  ·rw [zH z]at q;exact r.sub b o q
 ·rcases zJ g with⟨rfl,z,hl⟩ | ⟨J,z⟩
  ·cases z;exact⟨_,h1,JA (SqL.of zE) (Z.mono (zU h2 _))⟩
  ·obtain⟨v,O,g2⟩:=r.val j d z
   exact⟨v,O,g2.mono (zU h2 _)⟩
 ·rcases zJ g with⟨_,z,_⟩ | ⟨J,z⟩
  ·cases z
  ·obtain⟨b,ys,O,g2,g3,g4⟩:=r.own j es z
   refine⟨b,ys,O,?_,g3,g4.mono (zU h2 _)⟩;rw [zH (λq=>J (r.ne j i a es ds z e (by rw [O,q]) h1))];exact g2
 ·rcases zJ e1 with⟨_,z,_⟩ | ⟨J,z1⟩
  ·cases z
  ·rcases zJ I with⟨_,z,_⟩ | ⟨hk,z2⟩
   ·cases z
   ·exact r.ne j k b es fs z1 z2 e3 e4
 ·rcases zJ g with⟨_,z,_⟩ | ⟨J,z⟩
  ·cases z
  ·obtain⟨b,bs,f1,S,U⟩:=r.nst.1 j rows z
   have a6:=U i ds a e h1;refine⟨b,bs,f1,S.move (zU h2 _) (λc Q=>by rw [zH (λq=>a6 (by rw [<- q];exact Q))];exact(S.at Q).1) (λc Q=>rfl),λk fs c e1 I=>?_⟩;rcases zJ e1 with⟨_,z,_⟩ | ⟨_,z1⟩
   ·cases z
   ·exact U k fs c z1 I
 ·rcases zJ e1 with⟨_,z,_⟩ | ⟨_,z1⟩
  ·cases z
  ·rcases zJ I with⟨_,z,_⟩ | ⟨_,z2⟩
   ·cases z
   ·exact r.nst.2 j k r1 r2 z1 z2
end DL
namespace L2
open PySem PySem.Spec PyProof.Rows
open AutoSeq1 (wpAny_loadPart')
theorem ZV{prog:Program}{w:World}{A:Around}{E:Value->Shared->Prop}{s:Shared}{z it:Addr}{n:Int}{O:Value}{Q:Value->Shared->Prop}(S:IsEnum s.heap z it n O)(h:Q (.ref z) s):wpAny (model prog w) A (pyIter (.ref z)) Q E s:=by
 have I:s.TypeIs (.ref z) "enumerate":=⟨_,S,rfl⟩;refine zkO I F.slot_enumerate_iter (zhH F.slot_enumerate_iter I F.entry_enumerate_iter ?_ (F.args_enumerate_iter_1 _));have J:wpAny (model prog w) A.in1 (ret (.ref z)) (λJ s'=>∃v,J = .done (.ret v)/\∃T m,s'.TypeIs v T/\typeLookup (.type T) "__next__" = pure (some m)/\Q v s') E s:=zg1 ⟨_,rfl,"enumerate",_,I,F.slot_enumerate_next.lookup,h⟩;exact J
end L2
namespace DL
open PySem PySem.Spec PyProof.Rows L2
theorem kr : ∀{l:List Int} {us:List Value},Vals (l.map V.int) us->∀i,i<us.toArray.size->∃z u,us.toArray[i]? = some (.int z u)/\l[i]? = some z
 | [],us,r,i,hi=>by cases r;exact absurd hi (zhn _)
 | z::l,u::us,.cons r t,i,hi=>by
  cases i with
  | zero=>
   obtain⟨tk,rfl⟩:=r;exact⟨z,tk,by simp,by simp⟩
  | succ i=>
   obtain⟨I,u',e1,J⟩:=kr t i (by simpa using hi);exact⟨I,u',by simpa using e1,by simpa using J⟩
section
variable{K:PySem.W.Frag}{E0 E H0 H:Hp}{σ:St}{γ:Ctx}
theorem RS.forget{i:Nat}{v:Option V}(r:RS K E0 E H0 H σ γ):RS K E0 E H0 H (σ.set i v) (γ.set i .no):=by
 have J : ∀{j:Nat} {ds:List D} {b:Addr},(γ.set i .no)[j]? = some (.own ds)->γ[j]? = some (.own ds)/\(σ.set i v)[j]? = σ[j]? :=λ{j ds b} g=>by
  rcases zJ g with⟨_,z,_⟩ | ⟨O,z⟩
  ·cases z
  ·exact⟨z,zg7 (zhO O)⟩
 have Q : ∀{j:Nat} {rows:List (List D)},(γ.set i .no)[j]? = some (.nest rows)->γ[j]? = some (.nest rows)/\(σ.set i v)[j]? = σ[j]? :=λ{j rows} g=>by
  rcases zJ g with⟨_,z,_⟩ | ⟨O,z⟩
  ·cases z
  ·exact⟨z,zg7 (zhO O)⟩
 refine⟨⟨r.rc.sub,by simp [r.rc.len],λj d' g=>?_,λj ds g=>?_,λj k b ds fs e1 S Y Z=>?_,⟨λj rows g=>?_,λj k r1 r2 I g2=>r.rc.nst.2 j k r1 r2 (Q I).1 (Q g2).1⟩⟩,r.ext,λj ds b I g2=>?_,λj rows b xs I g2 g3=>?_⟩
 ·rcases zJ g with⟨_,z,_⟩ | ⟨O,z⟩
  ·cases z
  ·obtain⟨v',I,g2⟩:=r.rc.val j d' z
   exact⟨v',by rw [zg7 (zhO O)];exact I,g2⟩
 ·obtain⟨z1,z2⟩:=J (b:=0) g
  rw [z2];exact r.rc.own j ds z1
 ·obtain⟨z1,z2⟩:=J (b:=0) e1
  obtain⟨z3,U⟩:=J (b:=0) S;rw [z2]at Y;rw [U]at Z;exact r.rc.ne j k b ds fs z1 z3 Y Z
 ·obtain⟨z1,z2⟩:=Q g
  obtain⟨a,bs,h1,h2,h3⟩:=r.rc.nst.1 j rows z1;refine⟨a,bs,by rw [z2];exact h1,h2,λk ds c e1 S=>?_⟩;obtain⟨z3,U⟩:=J (b:=0) e1;rw [U]at S;exact h3 k ds c z3 S
 ·obtain⟨z1,z2⟩:=J (b:=0) I
  rw [z2]at g2;exact r.fresh j ds b z1 g2
 ·obtain⟨z1,z2⟩:=Q I
  rw [z2]at g2;exact r.fr2 j rows b xs z1 g2 g3
end
section
variable{K:PySem.W.Frag}{E0 E H0 H:Hp}{σ:St}{γ:Ctx}
theorem RS.freeze{i:Nat}{ds:List D}(r:RS K E0 E H0 H σ γ)(e:γ[i]? = some (.own ds)) : ∃H0',RS K E0 E H0' H σ (γ.set i (.val (.lst ds))):=by
 obtain⟨a,xs,h1,h2,Q,S⟩:=r.rc.own i ds e;have U:=r.fresh i ds a e h1;obtain⟨H0',s0,O⟩ : ∃H0',H0'=upd H0 a (.lst xs)/\RC K H0' H σ (γ.set i (.val (.lst ds))):=by
  refine⟨_,rfl,?_⟩;exact RC.lendAt r.rc e h1 h2 Q S
 subst s0;refine⟨_,O,⟨r.ext.s0.trans (zU h2 _),r.ext.s1,O.sub,λc Y I=>?_⟩,λj es b J g2=>?_,λj rows b ys J g2 Z=>?_⟩
 ·rw [zH (λz=>by rw [z,U]at I;exact I rfl)];exact r.ext.new c Y I
 ·rcases zJ J with⟨_,z,_⟩ | ⟨_,z⟩
  ·cases z
  ·exact r.fresh j es b z g2
 ·rcases zJ J with⟨_,z,_⟩ | ⟨_,z⟩
  ·cases z
  ·exact r.fr2 j rows b ys z g2 Z
end
section
variable{X:Cx}{st:Stmt}{F:CO Fl}
theorem KU(i:Nat)(h:PSD X st F):PSD X st (zcj i F):=xQ h λD σ H I=>by
 obtain⟨E0,E,H0,γ,J,O,z,Q⟩:=I;obtain⟨ds,e1,z⟩:=bind_some z;obtain⟨H0',S⟩:=O.freeze (xB e1);exact⟨E0,E,H0',_,J,S,z,Q⟩
end
section
variable{X:Cx}{sc:Scope}{N L:List Str}{k:Nat}{o e a b:Expr}{apos cpos pos p:Pos}{f g:CO D}{q:CO (Sk×List D)}
theorem wF{x:Str}(h:jj x=true):x.length<=1000:=of_decide_eq_true h
theorem vW{x:Str}(h:jj x=true):x.length<=sizeLine:=zh2 (wF h) ⋯
theorem VY(ha:PV X a f)(S:PV X b g)(U:J8 b:=by intro _ _;rfl):PV X (.Subscript a b pos) (Zz f g):=
 j5 (zdh zdI ha S U) λσ H Q Y=>by
  obtain⟨H0,γ,d,rc,I,q⟩:=Y;obtain⟨Z,e1,I⟩:=bind_some I;obtain⟨i,J,I⟩:=bind_some I;obtain⟨di,e3,J⟩:=bind_some J;cases Z with
  | str z=>
   by_cases O:jj z=true
   ·have I:(if jj z=true then (ixD z.cps.toList.length i).bind λk=>z.cps.toList[k]?.map λc=>D.str ⟨#[c]⟩else none)=some d:=I
    rw [if_pos O]at I;obtain⟨j,e4,I⟩:=bind_some I;obtain⟨c,e5,rfl⟩:=zB I;refine⟨H0,γ,_,rc,e1,λv H' H0' x r=>⟨H0',γ,di,rc.ext x,e3,λv2 H2 a4 x2 r2=>?_⟩⟩;rw [qJ J]at r2;refine⟨z,i,c,r,jE r2,vW O,?_,q _ H2 a4 (x.trans x2) rfl⟩;unfold atI;rw [zaC e4];exact e5
   ·have I:(if jj z=true then (ixD z.cps.toList.length i).bind λk=>z.cps.toList[k]?.map λc=>D.str ⟨#[c]⟩else none)=some d:=I
    rw [if_neg O]at I;cases I
  | _=>cases I
theorem zbe(h:SX X sc N L k)(c:wo sc "len" = true)(z:X.mg "len" = none)(ha:PV X e f)(O:starEach [e] X.env=[(false,eval e X.env)]:=by rfl):PV X (.Call (.Name "len" p) [e] [] pos) (Jx f):=
 j5 (kG Z8 (h.gl c).1 z PySem.boot_len (zS ha jM O) ⋯ ⋯ O rfl) λσ H Q S=>by
  obtain⟨H0,γ,d,rc,I,q⟩:=S;obtain⟨U,e1,I⟩:=bind_some I;cases U with
  | str z=>
   by_cases J:jj z=true
   ·have I:(if jj z=true then some (D.int z.length)else none)=some d:=I
    rw [if_pos J]at I;cases I;refine⟨H0,γ,_,rc,e1,λv H' H0' x r=>⟨z,by rw [show v = .str z from r],vW J,q _ H' H0' x rfl⟩⟩
   ·have I:(if jj z=true then some (D.int z.length)else none)=some d:=I
    rw [if_neg J]at I;cases I
  | _=>cases I
end
section
variable{X:Cx}{sc:Scope}{N L:List Str}{k:Nat}{b:Expr}{f:CO D}
theorem zc4{a:Expr}{g:CO D}{p pos:Pos}(h:SX X sc N L k)(c:wo sc "min" = true)(z:X.mg "min" = none)(ha:PV X a f)(U:PV X b g)(S:starEach [a,b] X.env=[(false,eval a X.env),(false,eval b X.env)]:=by rfl)(J:starEach [b] X.env=[(false,eval b X.env)]:=by rfl) :
 PV X (.Call (.Name "min" p) [a,b] [] pos) (za7 f g):=
 j5 (kG (Y5 h.calm) (h.gl c).1 z PyProof.Rows.boot_min (zS ha (zS U jM J) (by rw [S,J])) ⋯ ⋯ (by rw [S,J]) (by rw [J];rfl)) λσ H Q Y=>by
  obtain⟨H0,γ,d,rc,I,q⟩:=Y;obtain⟨i,e1,I⟩:=bind_some I;obtain⟨Z,e0,e1⟩:=bind_some e1;obtain⟨j,O,I⟩:=zB I;obtain⟨d2,e2,O⟩:=bind_some O;subst I;refine⟨H0,γ,Z,rc,e0,λv H' H0' x r=>⟨H0',γ,d2,rc.ext x,e2,λv2 H2 a3 x2 r2=>⟨i,j,?_,q _ H2 a3 (x.trans x2) rfl⟩⟩⟩;rw [qJ e1]at r;rw [qJ O]at r2;rw [jE r,jE r2]
end
def zfg(c:Xn)(od:Option Addr)(H0:Hp):Prop:=match c.2 with
 | none=>od=none
 | some i=>∃d,od=some d/\H0 d=some (.xd [(zgP c.1,.int i)])
def spX(K:PySem.W.Frag)(n:Nat)(G:List D->Option Xn):Sp:=λvs H _ E=>∃H0 ds c,Same H0 H/\Reps K H0 ds vs/\ds.length=n/\G ds=some c/\
 ∀C H' H0' od,xAll K=true->c.1∈xNames->xCls K c.1=some C->zfg c od H0'->Ext H0 H H0' H'->E (.ref C) od H'
section ap
variable(γ:Ctx)
@[simp] theorem yI(f):zA f γ=(f γ).bind jw:=rfl
@[simp] theorem Q7(f):jk f γ=(f γ).map D.lst:=rfl
@[simp] theorem zcd(f):jz f γ=(f γ).map λds=>(Sk.L,ds):=rfl
@[simp] theorem qo(i):zc i γ=J3 γ[i]? :=rfl
@[simp] theorem qO(i):zf i γ=xA γ[i]? :=rfl
@[simp] theorem kX(d):zg d γ=some d:=rfl
@[simp] theorem Q9(F a b):zu F a b γ=(a γ).bind λx=>(b γ).bind λy=>F x y:=rfl
@[simp] theorem zgq(f):sB f γ=(f γ).bind asB:=rfl
@[simp] theorem zfY(f g):za8 f g γ=(f γ).bind λb=>if b=true then g γ else some false:=rfl
@[simp] theorem zgi(f g):za6 f g γ=(f γ).bind λb=>if b=true then some true else g γ:=rfl
@[simp] theorem zfM(f):xl f γ=(f γ).map λb=> !b:=rfl
@[simp] theorem zgo(f g):zeg f g γ=((f γ).bind asB).bind λb=>if b=true then g γ else some (.bl false):=rfl
@[simp] theorem zgj(f):zf4 f γ=((f γ).bind asB).map λb=> .bl (!b):=rfl
@[simp] theorem zaH(c f g):Zp c f g γ=(c γ).bind λb=>if b=true then f γ else g γ:=rfl
@[simp] theorem kW:zo γ=some []:=rfl
@[simp] theorem xh(f g):za f g γ=(f γ).bind λx=>(g γ).map λr=>x::r:=rfl
@[simp] theorem zaF(f):jp f γ=(f γ).bind λds=>if ds.length<=lim then some (.tup ds)else none:=rfl
@[simp] theorem zfP(f):qj f γ=(f γ).bind λds=>if ds.length<=lim then some ds else none:=rfl
@[simp] theorem zfN:j4 γ=some (.next γ):=rfl
@[simp] theorem zaG(f):jR f γ=(f γ).map λd=> .ret (.val d):=rfl
@[simp] theorem Vh(f):qW f γ=(f γ).map λd=> .ret (.own d):=rfl
@[simp] theorem zfK(i):kz i γ=Ze γ[i]? :=rfl
@[simp] theorem zfV:VO γ=some (.cont γ):=rfl
@[simp] theorem zgR(k F G):sIf k F G γ=(k γ).bind λb=>if b=true then F γ else G γ:=rfl
@[simp] theorem Jh(i f):zQ i f γ=(f γ).map λd=> .next (γ.set i (.val d)):=rfl
@[simp] theorem J5(i f):qL i f γ=(f γ).map λds=> .next (γ.set i (.own ds)):=rfl
@[simp] theorem vx(i f):qs i f γ=(qz γ[i]?).bind λds=>(f γ).bind λd=>if ds.length<lim then some (.next (γ.set i (.own (ds++[d]))))else none:=rfl
@[simp] theorem yj(F g):zq F g γ=(g γ).bind λds=>(F ds).map zej:=rfl
@[simp] theorem W3(F g):zX F g γ=(g γ).bind λds=>(F ds).bind zck:=rfl
@[simp] theorem kY(f):zD f γ=(f γ).map (·.2):=rfl
@[simp] theorem vw(f):ji f γ=((f γ).bind asI).bind λn=>if inR n=true then some (qE 0 n.toNat)else none:=rfl
@[simp] theorem zd7(f g):kg f g γ=((f γ).bind asI).bind λm=>((g γ).bind asI).bind λn=>if inR m=true/\inR n=true then some (qE m (n - m).toNat)else none:=rfl
@[simp] theorem zgf(f g):Qn f g γ=((f γ).bind jw).bind λm=>((g γ).bind jw).map λn=>vD m.2 n.2:=rfl
@[simp] theorem Q8(src T F):yk src T F γ=(src γ).bind λds=>qh T F ds γ:=rfl
@[simp] theorem yi(src T n fr k f):zF src T n fr k f γ=(src γ).bind λds=>if ds.length<=lim then zL T k f (z6 n fr γ) ds else none:=rfl
@[simp] theorem zgg:ja γ=some true:=rfl
@[simp] theorem zfW(f g):kA f g γ=(f γ).bind λa=>(g γ).bind λb=>match a.1,b.1 with
 | .L,.L=>if a.2.length+b.2.length<=lim then some (a.2++b.2)else none
 | _,_=>none:=rfl
@[simp] theorem zfL(f g):za5 f g γ=(f γ).bind λa=>((g γ).bind asI).bind λj=>match a.1 with
 | .L=>if a.2.length*j.toNat<=lim/\inR j=true then some (zg2 j.toNat a.2).flatten else none
 | _=>none:=rfl
@[simp] theorem Ji(f g):sIx f g γ=(f γ).bind λa=>((g γ).bind asI).bind λi=>(ixD a.2.length i).bind λk=>a.2[k]? :=rfl
@[simp] theorem zeF(i g f):Kz i g f γ=(f γ).bind λd=>(qz γ[i]?).bind λds=>((g γ).bind asI).bind λk=>(ixD ds.length k).map λj=> .next (γ.set i (.own (ds.set j d))):=rfl
@[simp] theorem zgk:X9 γ=some none:=rfl
@[simp] theorem zfX(f):sBd f γ=((f γ).bind asI).map some:=rfl
@[simp] theorem zd6(f l h):Qo f l h γ=(f γ).bind λd=>(l γ).bind λlo=>(h γ).bind λhi=>match d with
 | .tup xs=>some (.tup (QX xs lo hi))
 | _=>none:=rfl
@[simp] theorem zgl(f):k4 f γ=(f γ).map λa=> .int a.2.length:=rfl
@[simp] theorem zgQ(T f):sIs T f γ=(f γ).map λd=> .bl (zey T d):=rfl
@[simp] theorem X4(f):zN f γ=(f γ).map λa=> .tup a.2:=rfl
@[simp] theorem zd8(f):Jw f γ=(f γ).map λa=>a.2:=rfl
@[simp] theorem zgh(f):zcP f γ=(f γ).bind λa=>(Vo a.2).map D.int:=rfl
@[simp] theorem zgp(f):zeh f γ=(f γ).bind λa=>(yL a.2).map λs=> .bl (s.all id):=rfl
@[simp] theorem zgn(f):zag f γ=(f γ).bind λa=>(yL a.2).map λs=> .bl (s.any id):=rfl
@[simp] theorem zfR(f):KA f γ=(f γ).bind λd=>match d with
 | .int i=>some (.int i)
 | .bl b=>some (.int (if b then 1 else 0))
 | _=>none:=rfl
@[simp] theorem zfJ(f):VM f γ=(f γ).map λa=> !a.2.isEmpty:=rfl
theorem zO(F G):zI F G γ=(F γ).bind λz=>match z with
 | .next γ'=>G γ'
 | f=>some f:=rfl
end ap
@[simp] theorem Ve(ds):jw (.tup ds)=some (.T,ds):=rfl
@[simp] theorem Q5(ds):jw (.lst ds)=some (.L,ds):=rfl
@[simp] theorem zT(d):J3 (some (.val d))=some d:=rfl
@[simp] theorem jC(d):xA (some (.val d))=jw d:=rfl
@[simp] theorem zb6(d):xA (some (.own d))=some (.L,d):=rfl
@[simp] theorem qy(d):qz (some (.own d))=some d:=rfl
@[simp] theorem zb7(d):Ze (some (.val d))=some (.ret (.val d)):=rfl
@[simp] theorem zb8(d):Ze (some (.own d))=some (.ret (.own d)):=rfl
@[simp] theorem zge(b):asB (.bl b)=some b:=rfl
@[simp] theorem qA(b):asI (.int b)=some b:=rfl
@[simp] theorem kB(d):zej (.val d)=d:=rfl
@[simp] theorem zei(d):zej (.own d) = .lst d:=rfl
@[simp] theorem wI(d):zck (.own d)=some d:=rfl
@[simp] theorem WQ(i j):qP (.int i) (.int j)=some (.int (i - j)):=rfl
@[simp] theorem QU(i j):jq (.int i) (.int j)=some (.int (i+j)):=rfl
@[simp] theorem zeA(i j):qx (.int i) (.int j)=if 0<j then some (.int (i%j))else none:=by
 show(if zeC i j=true then _ else _)=_;simp [zeC]
@[simp] theorem WU(i j):Z7 (.int i) (.int j)=if 0<j/\j<1073741824 then some (.int (i/j))else none:=by
 show(if zd1 i j=true then _ else _)=_;have e:(zd1 i j=true)=(0<j/\j<1073741824):=by
  unfold zd1;rw [Bool.and_eq_true,decide_eq_true_eq,decide_eq_true_eq];apply propext;constructor<;>intro h<;>exact⟨h.1,by omega⟩
 simp only [e]
@[simp] theorem WS(i j):qI (.int i) (.int j)=if Zg i j=true then some (.int (i*j))else none:=rfl
@[simp] theorem zez(i j):zb1 (.int i) (.int j)=if zd0 i j=true then some (.int (i ^ j.toNat))else none:=rfl
@[simp] theorem zfC(i j):dLt (.int i) (.int j)=some (.bl (decide (i<j))):=rfl
@[simp] theorem zfD(i j):dLe (.int i) (.int j)=some (.bl (decide (i<=j))):=rfl
@[simp] theorem zfE(i j):dGt (.int i) (.int j)=some (.bl (decide (j<i))):=rfl
@[simp] theorem zfF(i j):dGe (.int i) (.int j)=some (.bl (decide (j<=i))):=rfl
@[simp] theorem zfG(i j):dEq (.int i) (.int j)=some (.bl (decide (i=j))):=by
 unfold dEq;rw [if_pos ⟨rfl,rfl⟩];exact congrArg (λb=>some (D.bl b)) (by rw [ziA];simp [eqD])
@[simp] theorem zfB(i j):dNe (.int i) (.int j)=some (.bl (!decide (i=j))):=by
 unfold dNe;rw [if_pos ⟨rfl,rfl⟩];exact congrArg (λb=>some (D.bl !b)) (by rw [ziA];simp [eqD])
@[simp] theorem zcO(i is d ds γ):j1 (i::is) (d::ds) γ=j1 is ds (γ.set i (.val d)):=rfl
@[simp] theorem zcN(ds γ):j1 [] ds γ=γ:=by cases ds<;>rfl
@[simp] theorem xO(i d γ):jQ (.nm i) d γ=some (γ.set i (.val d)):=rfl
@[simp] theorem kU(i j a b γ):jQ (.tp [i,j]) (.tup [a,b]) γ=some ((γ.set i (.val a)).set j (.val b)):=rfl
@[simp] theorem qV(γ:Ctx)(G:CO Fl):(some (Fl.next γ)).bind (λz=>match z with
 | .next γ'=>G γ'
 | f=>some f)=G γ:=rfl
theorem Q1(i j:Int)(h1 : -(2 ^ 64)<j)(h2:j<2 ^ 64):Zg i j=true:=by
 unfold Zg;rw [zh9];right;exact decide_eq_true ⋯
theorem kc(i j:Int)(h1 : -(2 ^ 64)<i)(h2:i<2 ^ 64):Zg i j=true:=by
 unfold Zg;rw [zh9];left;exact decide_eq_true ⋯
theorem QM{i:Int}(h1 : -(2 ^ 62)<i)(h2:i<2 ^ 62):inR i=true:=by
 unfold inR;exact decide_eq_true ⋯
@[simp] theorem j3(n k:Nat):ixD n (k:Int)=if k<n then some k else none:=by
 unfold ixD;by_cases h:k<n
 ·rw [if_pos ⟨Int.natCast_nonneg k,by omega⟩,if_pos h];simp
 ·rw [if_neg ⋯,if_neg ⋯,if_neg h]
theorem jf:lim=2500:=rfl
@[simp] theorem zew:0<=lim:=zh7 _
@[simp] theorem zev:1<=lim:=by decide
@[simp] theorem zeu:2<=lim:=by decide
@[simp] theorem zet:3<=lim:=by decide
@[simp] theorem zes:4<=lim:=by decide
@[simp] theorem zeq:5<=lim:=by decide
@[simp] theorem zep:6<=lim:=by decide
@[simp] theorem zeo:7<=lim:=by decide
@[simp] theorem zen:8<=lim:=by decide
@[simp] theorem zem:0<lim:=by decide
@[simp] theorem wX{n:Nat}(h:n<=lim):inR (n:Int)=true:=QM ⋯ (by have:=jf;omega)
@[simp] theorem ix0(n:Nat):ixD (n+1) 0=some 0:=j3 (n+1) 0 ▸ rfl
@[simp] theorem ix1(n:Nat):ixD (n+2) 1=some 1:=by
 have:=j3 (n+2) 1;simpa using this
@[simp] theorem ix2(n:Nat):ixD (n+3) 2=some 2:=by
 have:=j3 (n+3) 2;simpa using this
theorem zv{α:Type}{T:Tg}{k:CO Bool}{f:CO D}{γ:Ctx}{g:α->D}(r:α->D) : ∀(l:List α),(∀x∈l,zL T k f γ [g x]=some [r x])->zL T k f γ (l.map g)=some (l.map r)
 | [],_=>rfl
 | x::l,h=>by
  have h1:=h x zhj;have h2:=zv r l λy z=>h y (zhg _ z);simp only [zhq,zL]at h1 ⊢;cases e1:jQ T (g x) γ with
  | none=>rw [e1]at h1;simp at h1
  | some γ1=>
   rw [e1]at h1;simp only [zg5]at h1 ⊢;cases e2:k γ1 with
   | none=>rw [e2]at h1;simp at h1
   | some b=>
    rw [e2]at h1;simp only [zg5]at h1 ⊢;cases b with
    | false=>simp at h1
    | true=>
     simp only [if_pos]at h1 ⊢;cases e3:f γ1 with
     | none=>rw [e3]at h1;simp at h1
     | some e=>
      rw [e3]at h1;simp at h1;rw [h2];simp [h1]
theorem zw{k:CO Bool}{f:CO D}{γ γ1:Ctx}{T:Tg}{d e:D}(h1:jQ T d γ=some γ1)(h2:k γ1=some true)(z:f γ1=some e):zL T k f γ [d]=some [e]:=by
 simp [zL,h1,h2,z]
theorem jD(T F d ds γ):qh T F (d::ds) γ=(jQ T d γ).bind λγ1=>(F γ1).bind λI=>match I with
 | .next z=>qh T F ds z
 | .cont z=>qh T F ds z
 | .brk z=>some (.next z)
 | .ret r=>some (.ret r):=rfl
theorem xu{T:Tg}{F:CO Fl}(P:Nat->Ctx->Prop) : ∀(ds:List D) (k:Nat) (γ:Ctx),P k γ->(∀i d γ,ds[i]? = some d->P (k+i) γ->∃γ',((jQ T d γ).bind F=some (.next γ')\/(jQ T d γ).bind F=some (.cont γ'))/\P (k+i+1) γ')->
 ∃γ',qh T F ds γ=some (.next γ')/\P (k+ds.length) γ'
 | [],k,γ,h,_=>⟨γ,rfl,h⟩
 | d::ds,k,γ,h,step=>by
  obtain⟨γ1,e,h1⟩:=step 0 d γ rfl h;obtain⟨γ',z,h2⟩:=xu P ds (k+1) γ1 (by simpa using h1) (λi d' I hd J=>by
   have:=step (i+1) d' I (by simpa using hd) (by rw [show k+(i+1)=k+1+i by omega];exact J);rw [show k+(i+1)+1=k+1+i+1 by omega]at this;exact this)
  refine⟨γ',?_,by rw [show k+(d::ds).length=k+1+ds.length by simp;omega];exact h2⟩;rw [jD];cases eb:jQ T d γ with
  | none=>rw [eb]at e;simp at e
  | some O=>
   rw [eb]at e;simp only [zg5]at e ⊢;rcases e with e | e<;>rw [e]<;>exact z
def zz(n:Nat)(f:Nat->Int):List D:=(zgX n).map λi=>D.int (f i)
theorem z9(n f):zz n f=(zgX n).map λi=>D.int (f i):=rfl
def zM(h w:Nat)(f:Nat->Nat->Int):List D:=(zgX h).map λi=>D.tup (zz w (f i))
def jV(h w:Nat)(f:Nat->Nat->Int):D:= .tup [.int h,.int w,.tup (zM h w f)]
@[simp] theorem xc(n f):(zz n f).length=n:=by simp [zz]
@[simp] theorem Za(h w f):(zM h w f).length=h:=by simp [zM]
@[simp] theorem zfy{n i:Nat}(f)(h:i<(zz n f).length):(zz n f)[i] = .int (f i):=by simp [zz]
theorem xN{n i:Nat}(f)(h:i<n):(zz n f)[i]? = some (.int (f i)):=by simp [zz,h]
@[simp] theorem zfA{h w i:Nat}(f)(hi:i<(zM h w f).length):(zM h w f)[i] = .tup (zz w (f i)):=by simp [zM]
theorem kO{n:Nat}{f g:Nat->Int}(h : ∀i,i<n->f i=g i):zz n f=zz n g:=by
 unfold zz;apply zhi;intro i hi;rw [h i (zgZ.mp hi)]
theorem jK(n:Nat):qE 0 n=zz n λi=>(i:Int):=by simp [qE,zz]
theorem yu(n:Nat)(f g:Nat->Int):vD (zz n f) (zz n g)=(zgX n).map λi=>D.tup [.int (f i),.int (g i)]:=by
 unfold vD zz;rw [zjy];simp
def sumTo(f:Nat->Int):Nat->Int
 | 0=>0
 | n+1=>sumTo f n+f n
theorem yN : ∀(xs:List Int) (y:Int),Vo (xs.map D.int++[.int y])=(Vo (xs.map D.int)).map λs=>s+y
 | [],y=>by simp [Vo]
 | x::xs,y=>by
  simp only [zhq,zkI,Vo];rw [yN xs y];cases e:Vo (xs.map D.int)<;>simp [Int.add_assoc]
theorem Zv(f:Nat->Int) : ∀n,Vo (zz n f)=some (sumTo f n)
 | 0=>rfl
 | n+1=>by
  have z:=Zv f n;have e : ∀m,zz m f=((zgX m).map f).map D.int:=λm=>by simp [zz]
  rw [e]at z ⊢;rw [zh5,zhG,zhG,List.map_singleton,List.map_singleton,yN,z];simp [sumTo]
def F_rests:List D->Option Res:=z5 2 (jR (zN (jz (zF (zD (zf 1)) (.nm 0) 1 [0] ja (zu qx (zc 0) (zc 1))))))
def F_led:List D->Option Res:=z5 3 (jR (zq F_rests (za (zc 0) (za (jk (zF (zD (zA (sIx (zf 1) (zg (.int 2))))) (.nm 0) 1 [2] ja (zcP (jz (zF (Qn (zc 0) (zc 1)) (.tp [0,1]) 2 [] ja (zu qI (zc 0) (zc 1))))))) zo))))
def F_turned_over:List D->Option Res:=z5 2 (zI (zQ 1 (jk (zF (ji (sIx (zf 0) (zg (.int 1)))) (.nm 0) 1 [0] ja (zN (jz (zF (zD (zA (sIx (zf 1) (zg (.int 2))))) (.nm 0) 1 [0] ja (sIx (zf 0) (zc 1)))))))) (jR (jp (za (sIx (zf 0) (zg (.int 1))) (za (sIx (zf 0) (zg (.int 0))) (za (zN (zf 1)) zo))))))
def F_same_table:List D->Option Res:=z5 2 (zI (zQ 1 (jk (zF (ji (zc 0)) (.nm 0) 1 [0] ja (zN (jz (zF (ji (zc 1)) (.nm 0) 1 [0] ja (Zp (sB (zu dEq (zc 1) (zc 0))) (zg (.int 1)) (zg (.int 0))))))))) (jR (jp (za (zc 0) (za (zc 0) (za (zN (zf 1)) zo))))))
def F_nought_table:List D->Option Res:=z5 2 (jR (jp (za (zc 0) (za (zc 1) (za (zu qI (jp (za (zu qI (jp (za (zg (.int 0)) zo)) (zc 1)) zo)) (zc 0)) zo)))))
def F_inverse:List D->Option Res:=z5 3 (zI (yk (kg (zg (.int 1)) (zc 0)) (.nm 2) (sIf (sB (zu dEq (zu qx (zu qI (zc 1) (zc 2)) (zc 0)) (zg (.int 1)))) (kz 2) j4)) ZA)
def F_cleared:List D->Option Res:=z5 5 (zI (zQ 4 (sIx (zf 1) (zc 3))) (zI (sIf (sB (zu dEq (zc 4) (zg (.int 0)))) (kz 1) j4) (jR (zq F_rests (za (zc 0) (za (jk (zF (Qn (zc 1) (zc 2)) (.tp [0,1]) 2 [4] ja (zu qP (zc 0) (zu qI (zc 2) (zc 1))))) zo))))))
def F_base_of:List D->Option Res:=z5 9 (zI (zQ 3 (jk (zF (zD (zf 2)) (.nm 0) 1 [0] ja (zq F_rests (za (zc 1) (za (zc 0) zo)))))) (zI (qL 4 (qj zo)) (zI (yk (ji (zc 1)) (.nm 5) (zI (zQ 6 (jk (zF (zD (zf 3)) (.nm 0) 1 [5] (sB (zu dNe (sIx (zf 0) (zc 1)) (zg (.int 0)))) (zc 0)))) (zI (sIf (xl (VM (zf 6))) VO j4) (zI (zQ 7 (zq F_inverse (za (zc 0) (za (sIx (zA (sIx (zf 6) (zg (.int 0)))) (zc 5)) zo)))) (zI (zQ 8 (zq F_rests (za (zc 0) (za (jk (zF (zD (zA (sIx (zf 6) (zg (.int 0))))) (.nm 0) 1 [7] ja (zu qI (zc 1) (zc 0)))) zo)))) (zI (zQ 3 (jk (zF (zD (zf 3)) (.nm 0) 1 [0,5,8] ja (zq F_cleared (za (zc 1) (za (zc 0) (za (zc 3) (za (zc 2) zo)))))))) (qL 4 (kA (jz (zF (zD (zf 4)) (.nm 0) 1 [0,5,8] ja (zq F_cleared (za (zc 1) (za (zc 0) (za (zc 3) (za (zc 2) zo))))))) (jz (qj (za (zc 8) zo))))))))))) (kz 4))))
def ww:List D->Option Res:=z5 13 (zI (zQ 3 (jk (qj zo))) (zI (yk (zD (zA (zc 2))) (.nm 4) (zI (zQ 5 (jk (Jw (zf 4)))) (zI (yk (zD (zA (zc 3))) (.tp [6,7]) (zI (zQ 8 (sIx (zf 5) (zc 6))) (zQ 5 (jk (zF (Qn (zc 5) (zc 7)) (.tp [0,1]) 2 [0,8] ja (zu qx (zu qP (zc 0) (zu qI (zc 3) (zc 1))) (zc 2))))))) (zI (zQ 9 (jk (zF (ji (zc 1)) (.nm 0) 1 [5] (sB (zu dNe (sIx (zf 1) (zc 0)) (zg (.int 0)))) (zc 0)))) (sIf (sB (zu dGt (k4 (zf 9)) (zg (.int 0)))) (zI (zQ 6 (sIx (zf 9) (zg (.int 0)))) (zI (zQ 10 (sIx (jz (zF (kg (zg (.int 1)) (zc 0)) (.nm 0) 1 [0,5,6] (sB (zu dEq (zu qx (zu qI (zc 0) (sIx (zf 2) (zc 3))) (zc 1)) (zg (.int 1)))) (zc 0))) (zg (.int 0)))) (zI (zQ 5 (jk (zF (zD (zf 5)) (.nm 0) 1 [0,10] ja (zu qx (zu qI (zc 2) (zc 0)) (zc 1))))) (zI (qL 11 (qj zo)) (zI (yk (zD (zA (zc 3))) (.tp [12,7]) (zI (zQ 8 (sIx (zf 7) (zc 6))) (qs 11 (jp (za (zc 12) (za (jk (zF (Qn (zc 7) (zc 5)) (.tp [0,1]) 2 [0,8] ja (zu qx (zu qP (zc 0) (zu qI (zc 3) (zc 1))) (zc 2)))) zo)))))) (zQ 3 (jk (Ju (jz (kA (zf 11) (jz (qj (za (jp (za (zc 6) (za (zc 5) zo))) zo))))))))))))) j4))))) (qW (zF (zD (zf 3)) (.tp [0,1]) 2 [] ja (zN (zf 1))))))
def F_behind_noughts:List D->Option Res:=z5 2 (qW (zF (zD (zf 1)) (.nm 0) 1 [0] (xl (sB (zag (zA (Qo (zc 0) X9 (sBd (zc 1))))))) (Qo (zc 0) (sBd (zc 1)) X9)))
def F_led_into:List D->Option Res:=z5 5 (zI (zQ 3 (jk (zF (Qn (sIx (zA (zq F_turned_over (za (zc 1) zo))) (zg (.int 2))) (sIx (zA (zq F_same_table (za (sIx (zf 1) (zg (.int 1))) zo))) (zg (.int 2)))) (.tp [0,1]) 2 [] ja (zu jq (zc 0) (zc 1))))) (zI (zQ 4 (jk (zF (zD (zf 2)) (.nm 0) 1 [1] ja (zu jq (zc 0) (zu qI (jp (za (zg (.int 0)) zo)) (sIx (zf 1) (zg (.int 1)))))))) (qW (zX F_behind_noughts (za (sIx (zf 1) (zg (.int 0))) (za (jk (zX F_base_of (za (zc 0) (za (zu jq (sIx (zf 1) (zg (.int 0))) (sIx (zf 1) (zg (.int 1)))) (za (jk (kA (zf 3) (zf 4))) zo))))) zo))))))
def xj:List D->Option Res:=z5 2 (qW (zX F_led_into (za (zc 0) (za (zc 1) (za (jk (qj zo)) zo)))))
def kq:List D->Option Res:=z5 2 (qW (zX F_base_of (za (zc 0) (za (sIx (zf 1) (zg (.int 0))) (za (sIx (zA (zq F_turned_over (za (zc 1) zo))) (zg (.int 2))) zo)))))
def jJ:List D->Option Res:=z5 1 (jR (sIx (jz (zF (VN (zc 0)) (.tp [0,1]) 2 [] (sB (zu dNe (zc 1) (zg (.int 0)))) (zc 0))) (zg (.int 0))))
def xP:List D->Option Res:=z5 7 (zI (zQ 3 (sIx (zf 1) (zg (.int 1)))) (zI (qL 4 (za5 (jz (qj (za (zg (.int 0)) zo))) (zc 3))) (zI (yk (zD (zA (jk (zX F_base_of (za (zc 0) (za (zu jq (zc 3) (zg (.int 1))) (za (jk (zF (Qn (sIx (zf 1) (zg (.int 2))) (zc 2)) (.tp [0,1]) 2 [] ja (zu jq (zc 0) (jp (za (zc 1) zo))))) zo))))))) (.nm 5) (zI (zQ 6 (zq jJ (za (zc 5) zo))) (zI (sIf (sB (zu dEq (zc 6) (zc 3))) (jR (zg .non)) j4) (Kz 4 (zc 6) (sIx (zf 5) (zc 3)))))) (jR (zN (zf 4))))))
section
variable(γ:Ctx)
@[simp] theorem zfT(f):VN f γ=(f γ).bind λd=>match d with
 | .tup ds=>some (qM ds)
 | _=>none:=rfl
@[simp] theorem zeK(F G a b c):Qq F G a b c γ=(a γ).bind λx=>(b γ).bind λy=>((F x y).bind asB).bind λk=>if k=true then (c γ).bind λz=>G y z else some (.bl false):=rfl
@[simp] theorem Vg(T f):Jv T f γ=(f γ).bind λd=>(jQ T d γ).map .next:=rfl
end
section
variable(γ:Ctx)
@[simp] theorem zaI(i F):zcj i F γ=(qz γ[i]?).bind λds=>F (γ.set i (.val (.lst ds))):=rfl
end
section
variable(γ:Ctx)
@[simp] theorem W1(f g):Zz f g γ=(f γ).bind λd=>((g γ).bind asI).bind λi=>match d with
 | .str z=>if jj z=true then (ixD z.cps.toList.length i).bind λk=>z.cps.toList[k]?.map λc=> .str ⟨#[c]⟩else none
 | _=>none:=rfl
@[simp] theorem zce(f):Jx f γ=(f γ).bind λd=>match d with
 | .str z=>if jj z=true then some (.int z.length)else none
 | _=>none:=rfl
end
def vP:List D->Option Res:=z5 2 (jR (Zp (sB (zu dEq (zc 1) (zg (.str "r")))) (zc 0) (zu jq (zc 0) (zg (.int 1)))))
def W6:List D->Option Res:=z5 2 (jR (Zp (sB (zu dEq (zc 1) (zg (.str "r")))) (zu jq (zc 0) (zg (.int 1))) (zc 0)))
def F_other_way:List D->Option Res:=z5 1 (jR (Zp (sB (zu dEq (zc 0) (zg (.str "r")))) (zg (.str "l")) (zg (.str "r"))))
def F_mirrored:List D->Option Res:=z5 2 (zI (zQ 1 (jk (zF (zec (sIx (zf 0) (zg (.int 2)))) (.nm 0) 1 [] ja (jp (za (zq F_other_way (za (sIx (zf 0) (zg (.int 0))) zo)) (za (sIx (zf 0) (zg (.int 1))) zo)))))) (jR (jp (za (sIx (zf 0) (zg (.int 0))) (za (wG (sIx (zf 0) (zg (.int 1)))) (za (zN (zf 1)) zo))))))
def F_opposite:List D->Option Res:=z5 2 (zI (zQ 1 (jk (zF (zD (zA (sIx (zf 0) (zg (.int 2))))) (.nm 0) 1 [] ja (jp (za (zq F_other_way (za (sIx (zf 0) (zg (.int 0))) zo)) (za (zq F_turned_over (za (sIx (zf 0) (zg (.int 1))) zo)) zo)))))) (jR (jp (za (sIx (zf 0) (zg (.int 0))) (za (sIx (zf 0) (zg (.int 1))) (za (zN (zf 1)) zo))))))
def ze2(f:CO D):CO D:=λγ=>(f γ).map λd=> .bl (zey .list d || zey .tuple d)
def X6:List D->Option Res:=z5 1 (jR (zeg (sIs .int (zc 0)) (zf4 (sIs .bool (zc 0)))))
def Jn:List D->Option Res:=z5 2 (jR (zeg (zq X6 (za (zc 1) zo)) (Qq dLe dLt (zg (.int 0)) (zc 1) (zc 0))))
def Qb:List D->Option Res:=z5 2 (jR (zeg (ze2 (zc 0)) (zu dEq (k4 (zf 0)) (zc 1))))
section
variable{X:Cx}{sc:Scope}{N L:List Str}{k:Nat}{a e:Expr}{es:List Expr}{f:CO D}{g:CO (List D)}{pos p p2:Pos}
structure GL(K:PySem.W.Frag)(mg:Str->Option Value)(x:Str)(d:D):Prop where
 ex : ∃u v,mg x=some u/\RelV v u/\∀H,Rep K H d v
end
end DL
namespace L2
open PySem PySem.Spec PyProof.Rows
theorem KC:Manifest.owners.lookup (String.ofList ['d','e','s','r','e','v','e','r'].reverse)=some Manifest.sig_reversed:=by kernel_rfl
theorem rv_next:Slot "reversed" "__next__" "reversed.__next__":= .of (owner:="reversed") (n:="__next__") (by rw [ziQ,zid];kernel_rfl) ⋯ ⋯ ⋯ (by first | exact .inl ⋯ | exact .inr ⋯) (by rw [ziN];kernel_rfl)
theorem KG:Slot "reversed" "__iter__" "reversed.__iter__":= .of (owner:="reversed") (n:="__iter__") (by rw [ziQ,zid];kernel_rfl) ⋯ ⋯ ⋯ (by first | exact .inl ⋯ | exact .inr ⋯) (by rw [ziN];kernel_rfl)
theorem rv_hint:Slot "reversed" "__length_hint__" "reversed.__length_hint__":= .of (owner:="reversed") (n:="__length_hint__") (by rw [ziQ,zid];kernel_rfl) ⋯ ⋯ ⋯ (by first | exact .inl ⋯ | exact .inr ⋯) (by rw [ziN];kernel_rfl)
theorem ZD:entryFor table "reversed.__next__" = some Builtin.«reversed.__next__» :=zkT (by kernel_rfl)
theorem KJ:entryFor table "reversed.__length_hint__" = some Builtin.«reversed.__length_hint__» :=zkT (by kernel_rfl)
theorem KD:entryFor table "reversed.__iter__" = some Builtin.«dict_keyiterator.__iter__» :=entryFor_alias (id':="dict_keyiterator.__iter__") (by kernel_rfl) (by first | rfl | decide +kernel | (unfold String.splitOn;simp +decide [String.splitOnAux])) ⋯ (by kernel_rfl)
theorem ZE(a:Value):argsOk "reversed.__next__" ⟨[a],[]⟩:=by
 unfold argsOk;rw [signature?_of (id:="reversed.__next__") (n:=['_','_','t','x','e','n','_','_']) (o:=['d','e','s','r','e','v','e','r']) (by kernel_rfl) KC];kernel_rfl
theorem KF(a:Value):argsOk "reversed.__iter__" ⟨[a],[]⟩:=by
 unfold argsOk;rw [signature?_of (id:="reversed.__iter__") (n:=['_','_','r','e','t','i','_','_']) (o:=['d','e','s','r','e','v','e','r']) (by kernel_rfl) KC];kernel_rfl
theorem KK(a:Value):argsOk "reversed.__length_hint__" ⟨[a],[]⟩:=by
 unfold argsOk;rw [signature?_of (id:="reversed.__length_hint__") (n:=['_','_','t','n','i','h','_','h','t','g','n','e','l','_','_']) (o:=['d','e','s','r','e','v','e','r']) (by kernel_rfl) KC];kernel_rfl
theorem VS:typeLookup (.type "reversed") "__len__" = pure none:=by rw [ziQ,zid];kernel_rfl
theorem Ki:typeLookup (.type "tuple") "__reversed__" = pure none:=by rw [ziQ,zid];kernel_rfl
theorem Xg:isSubtype (.type "tuple") (.type "dict")=pure false:=by rw [ziN];kernel_rfl
abbrev Jm(h:Heap)(z t:Addr)(i:Int):Prop:=h.get? z=some {cls:= .type "reversed",dict:=none,data:= .fields #[.ref t,rawInt i],slots:=#[]}
section
variable{prog:Program}{w:World}{A:Around}{E:Value->Shared->Prop}{s:Shared}
theorem zcT{l:Addr}{xs:Array Value}{Q₁:Value->Shared->Prop}(z:IsTup s.heap l xs)(I:(xs.size:Int)<2 ^ 63)
 (h:Q₁ (.ref s.heap.objs.size) {s with heap:=s.heap.push {cls:= .type "reversed",data:= .fields #[.ref l,rawInt ((xs.size:Int) - 1)]},toks:=s.toks+1+1}) :
 codeAny (model prog w) A (.call (.builtin "reversed.__new__") ⟨[.type "reversed",.ref l],[]⟩) (wants Q₁ E) s:=by
 refine codeAny_of_tree ?_;refine zgV (m:=checkBuiltinCall "reversed.__new__" ⟨[.type "reversed",.ref l],[]⟩) (ziC (F.newCall_reversed_1 _) (zg1 ⟨zke F.plain_reversed_new _,zjq F.entry_reversed_new ?_⟩));rw [zjw F.plain_reversed_new _];unfold Builtin.«reversed.__new__»;refine zgV (ziC (newClass_reversed _) ?_)
 try dsimp only
 refine zgV (ziC (a:=()) (by first | rfl | kernel_rfl) (zgV (ziC (a:=()) (by first | rfl | kernel_rfl) ?_)))
 try dsimp only
 refine zgV (zjo z.typeIs Ki ?_)
 try dsimp only
 refine zgV ?_;show wpAny _ _ (isInstance (.ref l) (.type "dict") >>= _) _ _ _;refine zgV (ziV (b:=false) z.typeIs Xg ?_);rw [if_neg ⋯];refine zgV (zjo z.typeIs F.slot_tuple_getitem.lookup ?_);dsimp only;rw [if_pos ⋯];refine zg1 ?_;rw [if_neg ⋯];refine zgV (len_tuple z I ?_);refine zgV (m:=asInt? _) (zg1 ?_);dsimp only;refine zgV (m:=zj4 _ _) ?_;unfold zj4;exact zho (zg1 h)
theorem za9:Slot "reversed" "__init__" "object.__init__":= .of (owner:="object") (n:="__init__") (by rw [ziQ,zid];kernel_rfl) ⋯ ⋯ ⋯ (by first | exact .inl ⋯ | exact .inr ⋯) (by rw [ziN];kernel_rfl)
theorem rv_called:TypeCalled "reversed" "reversed.__new__" "object.__init__":=⟨by decide +kernel,by decide +kernel,⟨_,_,F.mro_reversed⟩,F.made_reversed,by decide +kernel,by rw [ziN];kernel_rfl,za9⟩
theorem KL{l:Addr}{xs:Array Value}{Q:Value->Shared->Prop}(J:IsTup s.heap l xs)(O:(xs.size:Int)<2 ^ 63)
 (h:Q (.ref s.heap.objs.size) {s with heap:=s.heap.push {cls:= .type "reversed",data:= .fields #[.ref l,rawInt ((xs.size:Int) - 1)]},toks:=s.toks+1+1}):wpAny (model prog w) A (call (.type "reversed") [.ref l]) Q E s:=by
 refine callType_codes (Q₁:=λobj z=>z.TypeIs obj "reversed"/\Q obj z) rv_called (F.typeCall_reversed_1 _) F.entry_object_init (zcT J O ⟨⟨_,zg6 _ rfl,rfl⟩,h⟩) λobj z I=>?_;exact⟨I.1,F.args_object_init_2 obj _,object_init_meets rv_called.init.lookup rv_called.made ⋯ prog w A.in1 _ z ⟨I.1,rfl,I.2⟩⟩
theorem Jz{z t:Addr}{i:Int}{Q:Value->Shared->Prop}(O:Jm s.heap z t i)(h:Q (.ref z) s):wpAny (model prog w) A (pyIter (.ref z)) Q E s:=by
 have I:s.TypeIs (.ref z) "reversed":=⟨_,O,rfl⟩;refine zkO I KG (zhH KG I KD ?_ (KF _));have J:wpAny (model prog w) A.in1 (ret (.ref z)) (λJ s'=>∃v,J = .done (.ret v)/\∃T m,s'.TypeIs v T/\typeLookup (.type T) "__next__" = pure (some m)/\Q v s') E s:=zg1 ⟨_,rfl,"reversed",_,I,rv_next.lookup,h⟩;exact J
theorem KH{z t:Addr}{i:Nat}{xs:Array Value}{x:Value}{Q:Option Value->Shared->Prop}(I:Jm s.heap z t i)(J:IsTup s.heap t xs)(hx:xs[i]? = some x)(a2:(xs.size:Int)<2 ^ 63)
 (U : ∀g,Jm g z t ((i:Int) - 1)->ziD z s.heap g->Q (some x) {s with heap:=g,toks:=s.toks+1}):wpAny (model prog w) A (pyNext (.ref z)) Q E s:=by
 have O:s.TypeIs (.ref z) "reversed":=⟨_,I,rfl⟩;unfold pyNext;refine zgV (zi4 (zhN (name:=zhK "__next__") O rv_next (zhH rv_next O ZD ?_ (ZE _))));unfold Builtin.«reversed.__next__»;refine zgV (ziC (a:=(zhv z,[])) rfl ?_)
 try dsimp only
 refine zgV (zhR I rfl (x:= .ref t) rfl (zgV (zhR I rfl (x:=rawInt (i:Int)) rfl ?_)));show wpAny _ _ (if (i:Int)<0 then _ else _) _ _ s;rw [if_neg ⋯];refine zgV (zjo J.typeIs F.slot_tuple_getitem.lookup ?_);rw [if_neg ⋯];refine zgV (wpAny_mkInt ?_);have hi:i<xs.size:=(Array.getElem?_eq_some_iff.mp hx).1;have Y:IsTup ({s with toks:=s.toks+1}:Shared).heap t xs:=J;have Z:seqIndex? (i:Int) xs.size=some i:=by
  unfold seqIndex?;simp;omega
 refine zgV (zi4 (getItem_tuple (j:=i) (x:=x) Y ⋯ ⋯ Z hx ?_));have S:Jm ({s with toks:=s.toks+1}:Shared).heap z t i:=I;refine zgV (zhR S rfl (x:=rawInt (i:Int)) rfl ?_);refine zgV (m:=setField (.ref z) 1 (rawInt ((i:Int) - 1))) (ziv S ⋯ λg a0 a1=>?_);exact zg1 ⟨x,rfl,zg1 (U g a0 a1)⟩
theorem zah{z t:Addr}{i:Int}{Q:Option Value->Shared->Prop}(S:A.handled=none)(hi:i<0)(I:Jm s.heap z t i)(U : ∀g,Heap.ExtBut z s.heap g->Q none {s with heap:=g}):wpAny (model prog w) A (pyNext (.ref z)) Q E s:=by
 have J:s.TypeIs (.ref z) "reversed":=⟨_,I,rfl⟩;unfold pyNext;refine zgV (zi4 (zhN (name:=zhK "__next__") J rv_next (zhH rv_next J ZD ?_ (ZE _))));unfold Builtin.«reversed.__next__»;refine zgV (ziC (a:=(zhv z,[])) rfl ?_)
 try dsimp only
 refine zgV (zhR I rfl (x:= .ref t) rfl (zgV (zhR I rfl (x:=rawInt i) rfl ?_)));show wpAny _ _ (if i<0 then _ else _) _ _ s;rw [if_pos hi];refine zgV (zji ?_);refine zgV ?_;show wpAny _ _ (setField (.ref z) 1 (rawInt (-1)) >>= λ_=>setField (.ref z) 0 .none) _ _ _;refine zgV (ziv I ⋯ λg1 Y Z=>?_);refine ziv Y ⋯ λg2 a3 a0=>?_;have he:Heap.ExtBut z s.heap g2:=λb o O e=>a0.extBut b o O (Z.extBut b o O e);refine zgV (m:=Builtin.SmallTypes.stopIteration) ?_;show wpAny _ _ (newExc (.type "StopIteration") [] >>= _) _ _ _;refine zgV ?_;simp only [newExc,newTuple];refine zgV (zho ?_ (by size_fits));refine zgV (m:=firstArgMember _ _) (ziC (a:=zii) (by first | rfl | (simp only [firstArgMember];rfl)) ?_);refine zho ?_ (by size_fits);simp only [raiseNew];refine zgV (wpAny_handled ?_);rw [show A.in1.handled=none from S];refine zgV (zg1 (wpAny_throw ?_));refine zgV (ziV (T:="StopIteration") (b:=true) ⟨_,zg6 _ rfl,rfl⟩ isSubtype_stop ?_);exact zg1 (U _ ((he.push _).push _))
theorem VQ(hh:A.handled=none)(z t:Addr)(a1:t≠z)(xs:Array Value)(a2:(xs.size:Int)<2 ^ 63) :
 Walks prog w A z [z,t] [z] xs.size (λi v=>xs[xs.size - 1 - i]? = some v) (λi h=>i<=xs.size/\Jm h z t ((xs.size:Int) - 1 - (i:Int))/\IsTup h t xs) where
 sub:=λb I=>by simp at I;simp [I]
 frame:=λ_ _ _ x U=>⟨x.1,U z ⋯ _ x.2.1,let ⟨o,ho,r⟩:=x.2.2;⟨o,U t ⋯ o ho,r⟩⟩
 item:=λi s Q E hi x J=>by
  have e:(xs.size:Int) - 1 - (i:Int)=((xs.size - 1 - i:Nat):Int):=by omega
  have O:=x.2.1;rw [e]at O;have hx:xs[xs.size - 1 - i]? = some (xs[xs.size - 1 - i]'⋯):=ziE ⋯;refine KH O x.2.2 hx a2 λg Y Z=>?_;have e2:((xs.size - 1 - i:Nat):Int) - 1=(xs.size:Int) - 1 - ((i+1:Nat):Int):=by omega
  rw [e2]at Y;exact J _ g _ hx ⟨hi,Y,x.2.2.extBut Z.extBut a1⟩ λb o I S=>Z.extBut b o (λh=>I (by simp [h])) S
 done:=λs Q E x J=>by
  have O:=x.2.1;exact zah hh ⋯ O λg he=>J g s.toks λb o I S=>he b o (λh=>I (by simp [h])) S
 self:=λ_ _ _ _ x J=>Jz x.2.1 J
theorem KI{z t:Addr}{xs:Array Value}{Q:Value->Shared->Prop}(I:Jm s.heap z t ((xs.size:Int) - 1))(J:IsTup s.heap t xs)(O:(xs.size:Int)<2 ^ 63)
 (h : ∀u tk,s.toks<=tk->Q (.int xs.size u) {s with toks:=tk}):wpAny (model prog w) A (call (.builtin "reversed.__length_hint__") [.ref z]) Q E s:=by
 have S:s.TypeIs (.ref z) "reversed":=⟨_,I,rfl⟩;refine zhH rv_hint S KJ ?_ (KK _);unfold Builtin.«reversed.__length_hint__»;refine zgV (ziC (a:=zhv z) (by first | rfl | kernel_rfl) ?_);refine zgV (zhR I rfl (x:= .ref t) rfl ?_);rw [if_neg ⋯];refine zgV (len_tuple J O ?_);refine zgV (m:=asInt? _) (zg1 ?_);have U:Jm ({s with toks:=s.toks+1+1}:Shared).heap z t ((xs.size:Int) - 1):=I;refine zgV (zhR U rfl (x:=rawInt ((xs.size:Int) - 1)) rfl ?_);show wpAny _ _ (if (xs.size:Int)<(xs.size:Int) - 1+1 then _ else _) _ _ _;rw [if_neg ⋯];refine zgV (m:=mkInt _) (wpAny_mkInt (zg1 ⟨_,rfl,?_⟩));rw [show(xs.size:Int) - 1+1=xs.size by omega];exact h _ _ (by show s.toks<=s.toks+1+1+1;omega)
end
section
variable{prog:Program}{w:World}{A:Around}{E:Value->Shared->Prop}{s:Shared}
theorem Xt{z t:Addr}{xs:Array Value}{Q:List Value->Shared->Prop}(hh:A.handled=none)(af:t≠z)(hz:Jm s.heap z t ((xs.size:Int) - 1))(ht:IsTup s.heap t xs)(hn:xs.size<=sizeLine)
 (hQ : ∀s' acc,Moved [z] (λa b=>b=a) s s'->ItemsOf (λi v=>xs[xs.size - 1 - i]? = some v) acc xs.size->Q acc.toList s'):wpAny (model prog w) A (collect (.ref z)) Q E s:=by
 have a8:(xs.size:Int)<2 ^ 63:=by
  have:sizeLine<2 ^ 63:=by decide
  omega
 have W:=(VQ (prog:=prog) (w:=w) (A:=A.in1) hh z t af xs a8).toS;have lz:=zhc hz;have lt:=ht.lt;have a9:z<s.heap.objs.size:=lz;have ah:t<s.heap.objs.size:=lt;have ai:(λi (s:Shared)=>i<=xs.size/\Jm s.heap z t ((xs.size:Int) - 1 - ((i:Nat):Int))/\IsTup s.heap t xs) 0 s:=⟨zh7 _,by simpa using hz,ht⟩;have Y:s.heap.objs.size ∉ [z,t]:=λI=>by
  simp only [zhh,zhP,or_false]at I;rcases I with e | e
  ·exact zin a9 e
  ·exact zin ah e
 have aj:s.heap.objs.size≠z:=zin a9;unfold collect;refine zgV (wpAny_runValue (zjq F.entry_proto_collect ?_));rw [zjw F.plain_proto_collect _];show wpAny _ A.in1 (newList [] >>= λl=>again (.builtin "list.__iadd__" ⟨[l,.ref z],[]⟩)) _ _ s;refine zgV (zho (zg1 ⟨zke F.plain_list_iadd _,zjq F.entry_list_iadd ?_⟩));rw [zjw F.plain_list_iadd _];have O:=W.frame 0 s (s.heap.push {cls:= .type "list",data:= .seq ([]:List Value).toArray}) s.toks ai (zg3 _) λb _ o e=>zgY _ e;obtain⟨_,ak,al⟩:=id O;have aa:Jm (s.heap.push {cls:= .type "list",data:= .seq ([]:List Value).toArray}) z t ((xs.size:Int) - 1):=by simpa using ak
 have S:Shared.TypeIs {s with heap:=s.heap.push {cls:= .type "list",data:= .seq ([]:List Value).toArray}} (.ref z) "reversed":=⟨_,aa,rfl⟩;have Z:(s.heap.push {cls:= .type "list",data:= .seq ([]:List Value).toArray}).get? s.heap.objs.size=some {cls:= .type "list",data:= .seq ([]:List Value).toArray}:=zg6 _ rfl;have h1:Builtin.List.listSameRef (.ref s.heap.objs.size) (.ref z)=false:=by simp [Builtin.List.listSameRef,aj]
 show wpAny _ A.in1 (Builtin.List.listExtendWith (.ref s.heap.objs.size) (.ref z) (.ref s.heap.objs.size)) _ _ _;unfold Builtin.List.listExtendWith;refine zgV (zjh S ?_);rw [if_neg (by rw [h1];decide)];refine zgV (W.self 0 _ _ _ O (zgV (zi3 ?_)));unfold Builtin.List.listLengthHint;refine zgV (zjo S VS ?_);show wpAny _ A.in1 (specialOf (zhv z) (zhK "__length_hint__") >>= _) _ _ _;refine zgV (zjo S rv_hint.lookup ?_);generalize ab:("reversed.__length_hint__" : String)=am;wp_delta;rw [show splitId am=some ("reversed","__length_hint__")from by subst ab;decide +kernel];subst ab;refine zgV (ziV (b:=true) S (by rw [ziN];kernel_rfl) ?_);rw [if_neg ⋯,if_neg ⋯];refine zgV (zji (zgV (ziC (rv_hint.bind _) ?_)));dsimp only;refine zgV (zi4 (KI aa al a8 λu tk U=>?_));dsimp only;have ea:asInt? (Value.int (xs.size:Int) u)=pure (some (xs.size:Int)):=rfl;rw [ea,pure_bind];dsimp only;have hk:ziB (Int.toNat (xs.size:Int))=false:=by simp [ziB];omega
 have ap:Builtin.List.listFitsIndex (xs.size:Int)=true:=by simp [Builtin.List.listFitsIndex];omega
 rw [if_neg (by rw [ap];decide),if_neg ⋯,if_neg (by rw [hk];decide)];refine zg1 ?_;have aq:=W.frame 0 _ _ tk O U λb _ o e=>e;by_cases h0:xs.size=0
 ·have z0:((xs.size:Int) != 0)=false:=by simp [h0]
  rw [z0,if_neg ⋯];refine zg1 ⟨zke F.plain_extend_loop _,codeAny_extend_loopS W hn _ Y _ xs.size 0 _ _ _ rfl (zh7 _) aq Z (ItemsOf.nil _) λs' a1 c' I a2 a3=>?_⟩;show wpAny _ A (load s.heap.objs.size >>= _) _ _ s';exact zgV (wpAny_load a2 (zg1 (hQ s' a1 (Moved.drop_new (o:={cls:= .type "list",data:= .seq ([]:List Value).toArray}) (tk:=tk) I U) a3)))
 ·have z0:((xs.size:Int) != 0)=true:=bne_iff_ne.mpr ⋯
  rw [z0,Bool.true_or,if_pos rfl];refine zgV (zji (zgV ?_));show wpAny _ A.in1 (updateSeq s.heap.objs.size (·.push .none) >>= λ_=>updateSeq s.heap.objs.size (·.pop)) _ _ _;refine zgV (wpAny_updateSeq Z rfl ?_ ⋯ ⋯);have ac:=ziZ (zki (·.push zii)) Z rfl;refine wpAny_updateSeq ac rfl ?_ (by simp;decide) ⋯;have ad:=ziZ (zki (·.pop)) ac rfl;generalize hg:((s.heap.push {cls:= .type "list",data:= .seq ([]:List Value).toArray}).update s.heap.objs.size (zki (·.push zii))).update s.heap.objs.size (zki (·.pop))=g at ad ⊢;have oth : ∀b o,b≠s.heap.objs.size->(s.heap.push {cls:= .type "list",data:= .seq ([]:List Value).toArray}).get? b=some o->g.get? b=some o:=λb o J e=>by
   rw [<- hg];exact(zjk _ _ (zhO J)).trans ((zjk _ _ (zhO J)).trans e)
  refine zg1 ⟨zke F.plain_extend_loop _,codeAny_extend_loopS W hn _ Y _ xs.size 0 _ _ _ rfl (zh7 _)
   (W.frame 0 ({s with heap:=s.heap.push {cls:= .type "list",data:= .seq ([]:List Value).toArray}}:Shared) g tk O U λb J o e=>oth b o (λh=>Y (h ▸ J)) e) ad (ItemsOf.nil _) λs' a1 c' I a2 a3=>?_⟩
  show wpAny _ A (load s.heap.objs.size >>= _) _ _ s';have mv:Moved [s.heap.objs.size,z] (λa b=>b=a) ({s with heap:=s.heap.push {cls:= .type "list",data:= .seq ([]:List Value).toArray},toks:=tk}:Shared) ({s with heap:=g,toks:=tk}:Shared):=
   ⟨λb o J e=>oth b o (λh=>J (h ▸ zhj)) e,rfl,rfl,rfl,zg3 _⟩
  exact zgV (wpAny_load a2 (zg1 (hQ s' a1 (Moved.drop_new (o:={cls:= .type "list",data:= .seq ([]:List Value).toArray}) (tk:=tk) (Moved.trans W.gtrans mv I) U) a3)))
theorem ZC{z t:Addr}{xs:Array Value}{Q₁:Value->Shared->Prop}(Q:A.handled=none)(S:t≠z)(I:Jm s.heap z t ((xs.size:Int) - 1))(U:IsTup s.heap t xs)(J:xs.size<=sizeLine)
 (h : ∀s' acc,Moved [z] (λa b=>b=a) s s'->ItemsOf (λi v=>xs[xs.size - 1 - i]? = some v) acc xs.size->Q₁ (.ref s'.heap.objs.size) {s' with heap:=s'.heap.push {cls:= .type "tuple",data:= .seq acc}}) :
 codeAny (model prog w) A (.call (.builtin "tuple.__new__") ⟨[.type "tuple",.ref z],[]⟩) (wants Q₁ E) s:=by
 refine codeAny_of_tree ?_;refine zgV (m:=checkBuiltinCall "tuple.__new__" ⟨[.type "tuple",.ref z],[]⟩) (ziC (F.newCall_tuple_1 _) (zg1 ⟨zke F.plain_tuple_new _,zjq F.entry_tuple_new ?_⟩));rw [zjw F.plain_tuple_new _];have a0:=sub_tuple_self;have a1:=init_tuple_lookup;have a2:=madeHere_tuple;have Y:s.TypeIs (.ref z) "reversed":=⟨_,I,rfl⟩
 wp_walk using zjh Y,Xt (A:=A.in1) Q S I U J
 intro s' acc Z O;show wpAny _ _ (zhW acc.toList.toArray >>= λv=>ret v) _ _ _;unfold zhW;refine zgV (zho (zg1 ?_) (by show acc.toList.toArray.size<=sizeLine;simp only [Array.toArray_toList];rw [O.1];exact J));rw [show acc.toList.toArray=acc by simp];exact h s' acc Z O
theorem VR{z t:Addr}{xs:Array Value}{Q:Value->Shared->Prop}(O:A.handled=none)(S:t≠z)(U:Jm s.heap z t ((xs.size:Int) - 1))(Y:IsTup s.heap t xs)(Z:xs.size<=sizeLine)
 (hQ : ∀s' acc,Moved [z] (λa b=>b=a) s s'->ItemsOf (λi v=>xs[xs.size - 1 - i]? = some v) acc xs.size->Q (.ref s'.heap.objs.size) {s' with heap:=s'.heap.push {cls:= .type "tuple",data:= .seq acc}}) :
 wpAny (model prog w) A (call (.type "tuple") [.ref z]) Q E s:=by
 refine callType_codes (Q₁:=λobj I=>I.TypeIs obj "tuple"/\Q obj I) F.called_tuple (F.typeCall_tuple_1 _) F.entry_object_init
  (ZC O S U Y Z λs' acc hm a2=>⟨⟨_,zg6 _ rfl,rfl⟩,hQ s' acc hm a2⟩) λobj I J=>?_
 exact⟨J.1,F.args_object_init_2 obj _,object_init_meets F.called_tuple.init.lookup F.called_tuple.made ⋯ prog w A.in1 _ I ⟨J.1,rfl,J.2⟩⟩
end
def Itv(K:PySem.W.Frag)(a:Addr)(n:Nat):It:=
 ⟨λi H=>i<n/\∃xs,SqT K H a xs/\xs.length=n,λi H x H'=>H'=H/\∀xs,SqT K H a xs->xs[n - 1 - i]? = some x,λi H=>n<=i⟩
theorem wU{n:Nat}(h:n<=sizeLine):(n:Int)<2 ^ 63:=by
 have:sizeLine<2 ^ 63:=by decide
 omega
theorem VA{P:Program}{w:World}{K:PySem.W.Frag}{tg:Expr}(a z:Addr)(n:Nat):Turn P w K tg (Itv K a n) [z] z (λi h=>Jm h z a ((n:Int) - 1 - (i:Nat))) where
 mem:=by simp
 obj:=λi h st b J=>by
  have e:b=z:=by simpa using J
  subst e;exact⟨_,st,λv q=>by cases q⟩
 keep:=λi h h' st k=>k z ⋯ _ st
 item:=by
  intro X S hw U hc i pins s σ H E I O st Q;subst S hw U;obtain⟨hi,xs,hq,hn⟩:=Q;obtain⟨a7,rv,p,hz⟩:=I.tuple hq;have hl:=rv.length;have hx:xs[n - 1 - i]? = some (xs[n - 1 - i]'⋯):=zg0 ⋯;obtain⟨u,hu,ru⟩:=rv.get hx;obtain⟨Y,Z,f2,f3,f4,f5⟩:=O z ⋯;have ab:Jm s.heap z a ((n - 1 - i:Nat):Int):=by rwa [show((n - 1 - i:Nat):Int)=(n:Int) - 1 - (i:Nat)by omega]
  refine KH ab (show IsTup s.heap a a7.toArray from p) (x:=u) (by simpa using hu) (wU (by simp;omega)) λg a3 sb=>?_;have I1:Inv X pins σ H {s with heap:=g,toks:=s.toks+1}:=I.turned (λb o J e=>(sb.2 b J).trans e) Y Z f3 f4 f5;rw [show((n - 1 - i:Nat):Int) - 1=(n:Int) - 1 - ((i+1:Nat))by omega]at a3;exact⟨u,rfl,YC (s:={s with heap:=g,toks:=s.toks+1}) a3 rfl rfl ⋯ ⟨_,H,I1,ru,⟨rfl,λys hy=>by rw [I.tuple_inj hy hq];exact hx⟩,a3,λb J=>(O b J).1⟩⟩
 done:=by
  intro X S hw U hc i pins s σ H E I O st Q;subst S hw U;obtain⟨Y,Z,f2,f3,f4,f5⟩:=O z ⋯;have Q:n<=i:=Q;exact zah (I.ok.hd hc) ⋯ st λg eb=>⟨rfl,I.turned (t':=s.toks) (λb o J e=>eb b o J e) Y Z f3 f4 f5⟩
 self:=λ_ _ _ _ _ st h=>Jz st h
def zgN(K:PySem.W.Frag)(ta:TA):TI:=λσ H R=>ta σ H λvs H1=>∃a xs,vs=[.ref a]/\SqT K H1 a xs/\R (Itv K a xs.length) H1
theorem zdc{X:Cx}{e1 tg:Expr}{ta:TA}{p pos:Pos}(U:Gl X "reversed")(Y:X.mg "reversed" = none)(ha:PA X [e1] ta)
 (Z:starEach [e1] X.env=[(false,eval e1 X.env)]:=by rfl):PI X tg (.Call (.Name "reversed" p) [e1] [] pos) (zgN X.K ta):=by
 intro pins s σ H R I h;refine Call_ (xX I U Y PyProof.Rows.boot_reversed (zhA (thn (ha pos pins s σ H _ I h) λus s1 hZ=>?_) (by rw [Z];rfl) rfl));obtain⟨vs,H1,z,r1,q1⟩:=hZ;obtain⟨a,xs,e,a3,q⟩:=q1;subst e;obtain⟨w1,eu,a5⟩:=yJ r1;subst eu;cases a5;obtain⟨J,a6,p1,z1⟩:=z.tuple a3;have hl:=a6.length;refine KL (show IsTup s1.heap a J.toArray from p1) (wU (by simp;omega)) ?_;generalize O:s1.heap.push {cls:= .type "reversed",data:= .fields #[.ref a,rawInt ((J.toArray.size:Int) - 1)]}=g;have Q:Jm g s1.heap.objs.size a ((xs.length:Int) - 1 - (0:Nat)):=by
  rw [<- O,show((xs.length:Int) - 1 - (0:Nat))=(J.toArray.size:Int) - 1 by simp [hl]];exact zg6 _ rfl
 refine Jz (s:={s1 with heap:=g,toks:=s1.toks+1+1}) Q ?_;have I2:Inv X pins σ H1 {s1 with heap:=g,toks:=s1.toks+1+1}:=z.kept λc o e=>by rw [<- O];exact zgY _ e
 refine⟨_,[s1.heap.objs.size],_,_,H1,rfl,I2,VA a _ xs.length,Q,λc hc=>?_,q⟩;have S:s1.heap.objs.size<=c:=by
  have e:c=s1.heap.objs.size:=by simpa using hc
  rw [e];exact zg3 _
 exact z.fpOk S (z.hok.fresh S)
def zaO(K:PySem.W.Frag)(ta:TA):TE:=λσ H Q=>ta σ H λvs H1=>∃a xs,vs=[.ref a]/\SqT K H1 a xs/\∀l,H1 l=none->Q (.ref l) (upd H1 l (.tup xs.reverse))
theorem K5{X:Cx}{e1:Expr}{ta:TA}{p pos p2 pos2:Pos}(hc:X.calm=true)(hg:Gl X "tuple")(hm:X.mg "tuple" = none)(a8:Gl X "reversed")(a9:X.mg "reversed" = none)(ha:PA X [e1] ta)
 (hs:starEach [e1] X.env=[(false,eval e1 X.env)]:=by rfl) (Y:starEach [.Call (.Name "reversed" p2) [e1] [] pos2] X.env=[(false,eval (.Call (.Name "reversed" p2) [e1] [] pos2) X.env)]:=by rfl) :
 PE X (.Call (.Name "tuple" p) [.Call (.Name "reversed" p2) [e1] [] pos2] [] pos) (zaO X.K ta):=by
 intro pins s σ H Q I h;refine zi0 (xX I hg hm PyProof.Rows.boot_tuple (zhA ?_ (by rw [Y];rfl) rfl) ⋯ ⋯);rw [Y];show wpAny _ _ (spliced ((false,eval (.Call (.Name "reversed" p2) [e1] [] pos2) X.env)::backTo pos [])) _ _ s;refine zi9 (zi0 (xX I a8 a9 PyProof.Rows.boot_reversed (zhA (thn (ha pos2 pins s σ H _ I h) λus s1 hZ=>?_) (by rw [hs];rfl) rfl) ⋯ ⋯));obtain⟨vs,H1,O,r1,q1⟩:=hZ;obtain⟨a,xs,e,ae,q⟩:=q1;subst e;obtain⟨w1,eu,ag⟩:=yJ r1;subst eu;cases ag;obtain⟨z,Z,U,z1⟩:=O.tuple ae;have hl:=Z.length;have hsz:z.toArray.size<=sizeLine:=by simp;omega
 refine KL (show IsTup s1.heap a z.toArray from U) (wU hsz) ?_;generalize a0:s1.heap.push {cls:= .type "reversed",data:= .fields #[.ref a,rawInt ((z.toArray.size:Int) - 1)]}=g;have kp : ∀c o,s1.heap.get? c=some o->g.get? c=some o:=λc o e=>by rw [<- a0];exact zgY _ e
 have g4:Jm g s1.heap.objs.size a ((z.toArray.size:Int) - 1):=by rw [<- a0];exact zg6 _ rfl
 have I2:Inv X pins σ H1 {s1 with heap:=g,toks:=s1.toks+1+1}:=O.kept kp;refine zjW ?_;have pt:IsTup g a z.toArray:=IsTup.keeps U kp;refine VR (s:={s1 with heap:=g,toks:=s1.toks+1+1}) (I2.ok.hd hc) (zhz (IsTup.lt U)) g4 pt hsz λs' acc S ai=>?_;obtain⟨f0,f1,f2,f3,f4,f5⟩:=(O.fpOk (H':=H1) (zg3 _) (O.hok.fresh (zg3 _)):FpOk X pins H1 s1.heap.objs.size);have J:=I2.turned (h':=s'.heap) (it:=s1.heap.objs.size) (t':=s'.toks) (λb o hb e=>S.heap b o (by simpa using hb) e) f0 f1 f3 f4 f5;have J:Inv X pins σ H1 {s1 with heap:=s'.heap,toks:=s'.toks}:=J;have es:({s1 with heap:=s'.heap,toks:=s'.toks}:Shared)=s':=by
  obtain⟨h1,h2,h3,h4,h5⟩:=s';have e1:=S.gens;have e2:=S.drawn;have e3:=S.os;simp only at e1 e2 e3;simp only [e1,e2,e3]
 rw [es]at J;have ea:acc=z.reverse.toArray:=by
  apply Array.ext';apply zjl;intro j;obtain⟨n1,n2⟩:=ai;simp only [zg9]at n1;by_cases hj:j<z.length
  ·have a4:j<acc.size:=by omega
   have:=n2 j acc[j] (ziE a4);simp only [zg9,List.getElem?_toArray]at this;simp only [ziW,List.toList_toArray];rw [ziE a4,List.getElem?_reverse hj,this]
  ·simp only [ziW,List.toList_toArray]
   rw [Array.getElem?_eq_none ⋯,zkb (by simp;omega)]
 subst ea;have I4:Inv X pins σ (upd H1 s'.heap.objs.size (.tup xs.reverse)) {s' with heap:=s'.heap.push {cls:= .type "tuple",data:= .seq z.reverse.toArray}}:=
  J.laid (t':=s'.toks) (λb o e=>zgY _ e) (zg3 _) (show ObjOk X.prog X.w _ _ _ (.tup xs.reverse)from⟨by simp;omega,z.reverse,Z.reverse,IsTupD.new _ _⟩)
 exact⟨.ref s'.heap.objs.size,_,I4,rfl,q _ (J.hok.fresh (zg3 _))⟩
end L2
namespace DL
open PySem PySem.Spec PyProof.Rows L2
theorem xq{X:Cx}{es:List Expr}{n:Nat}{g:CO (List D)}(h:PAn X es n g):PAD X es g:=h.1
theorem Reps.rev{K:PySem.W.Frag}{H:Hp}{ds:List D}{xs:List V}(r:Reps K H ds xs):Reps K H ds.reverse xs.reverse:=by
 induction ds generalizing xs with
 | nil=>rw [r.inv_nil];exact Reps.nil
 | cons d ds z=>
  obtain⟨x,r',e,I,r2⟩:=r.inv_cons;rw [e,zjX,zjX];exact(z r2).append (Reps.cons I Reps.nil)
theorem Vv{K:PySem.W.Frag}{H0 Hs:Hp}{a:Addr}{xs:List V}{ds:List D}(h1:SqT K Hs a xs)(r:Reps K H0 ds xs):Walk K H0 Hs (Itv K a xs.length) ds.reverse:=by
 have z:=r.length;refine⟨λi H1 s hi=>?_,λH1 s=>?_,λi H1 x H1' s hi y=>?_⟩
 ·rw [zkm]at hi;exact⟨by omega,xs,sameT s h1,rfl⟩
 ·rw [zkm];exact(by omega:xs.length<=ds.length)
 ·obtain⟨e1,I⟩:=y
  subst e1;rw [zkm]at hi;obtain⟨d,hd,J⟩:=r.getV (I xs (sameT s h1));exact⟨d,by rw [List.getElem?_reverse hi,<- z];exact hd,λG0 s1 s2=>⟨G0,Ext.refl s2,J.mono s1⟩⟩
section
variable{X:Cx}{sc:Scope}{N L:List Str}{k:Nat}{a tg:Expr}{pos p pos2 p2:Pos}{f:CO D}
theorem zbs(h:SX X sc N L k)(c:wo sc "reversed" = true)(z:X.mg "reversed" = none)(ha:PV X a f)(J:starEach [a] X.env=[(false,eval a X.env)]:=by rfl):PIF X tg (.Call (.Name "reversed" p) [a] [] pos) (zec f):=
 ZM (zdc (h.gl c).1 z (zS ha jM J) J) λσ H R Q=>by
  obtain⟨H0,γ,ds,rc,I,q⟩:=Q;obtain⟨d,S,I⟩:=bind_some I;cases d with
  | tup es=>
   cases I;refine⟨H0,γ,_,rc,S,λv H' H0' x r=>?_⟩;obtain⟨U,xs,rfl,O,g2⟩:=xn r;exact⟨U,xs,rfl,sameT x.sub O,q _ H' H0' x (Vv O g2)⟩
  | _=>cases I
theorem KO(h:SX X sc N L k)(c:wo sc "tuple" = true)(z:X.mg "tuple" = none)(S:wo sc "reversed" = true)(z2:X.mg "reversed" = none)(ha:PV X a f)(J:starEach [a] X.env=[(false,eval a X.env)]:=by rfl)
 (U:starEach [.Call (.Name "reversed" p2) [a] [] pos2] X.env=[(false,eval (.Call (.Name "reversed" p2) [a] [] pos2) X.env)]:=by rfl):PV X (.Call (.Name "tuple" p) [.Call (.Name "reversed" p2) [a] [] pos2] [] pos) (wG f):=
 j5 (K5 h.calm (h.gl c).1 z (h.gl S).1 z2 (zS ha jM J) J U) λσ H Q Y=>by
  obtain⟨H0,γ,d,rc,I,q⟩:=Y;obtain⟨Z,e0,I⟩:=bind_some I;cases Z with
  | tup es=>
   cases I;refine⟨H0,γ,_,rc,e0,λv H' H0' x r=>?_⟩;obtain⟨a1,xs,rfl,g1,g2⟩:=xn r;exact⟨a1,xs,rfl,sameT x.sub g1,λl O=>q _ _ _ (x.trans (Ext.alloc x.sub O _)) (qa (SqT.of zE) (g2.rev.mono (zU (jv x.sub O) _)))⟩
  | _=>cases I
end
section
variable{K:PySem.W.Frag}{E0 E H0 H:Hp}{σ:St}{γ:Ctx}
theorem Reps.dropLast : ∀{ds:List D} {xs:List V},Reps K H ds xs->Reps K H ds.dropLast xs.dropLast
 | [],xs,r=>by rw [r.inv_nil];exact Reps.nil
 | [d],xs,r=>by
  obtain⟨x,r',e,_,r2⟩:=r.inv_cons;rw [e,r2.inv_nil];exact Reps.nil
 | d::d2::ds,xs,r=>by
  obtain⟨x,r',e,z,r2⟩:=r.inv_cons;obtain⟨J,O,I,_,_⟩:=r2.inv_cons;subst e I;exact Reps.cons z (Reps.dropLast r2)
end
end DL
namespace L2
open PySem PySem.Spec PyProof.Rows
theorem zfo(z:Str):strIterType z = "str_ascii_iterator"\/strIterType z = "str_iterator":=by unfold strIterType;split<;>simp
theorem WH{X:Cx}{pins:List (Addr×Obj)}{σ:St}{H:Hp}{s:Shared}{E:Value->Shared->Prop}{z it:Addr}{i tk:Nat}{x:Value}{v:V}{g:Heap}{elts:List Expr}{x1:Nat}{tpos:Pos}{Q:Unit->Shared->Prop}
 (I:Inv X pins σ H s) (U : ∀b ∈ [z,it],FpOk X pins H b) (Y:z<s.heap.objs.size) (hi:it<s.heap.objs.size) (Z:IsEnumOut g z it ((i:Int)+1) x s.heap.objs.size)
 (a3:IsPair g s.heap.objs.size (.int i tk) x) (a5 : ∀b o,b≠z->b≠it->s.heap.get? b=some o->g.get? b=some o) (rx:RelV v x)
 (a6 : ∀g2,IsEnum g2 z it ((i+1:Nat):Int) x->ziD z g g2->Inv X pins σ (upd H s.heap.objs.size (.tup [.int i,v])) {s with heap:=g2,toks:=tk+1}->H s.heap.objs.size=none->
   (∀b ∈ [z,it],upd H s.heap.objs.size (.tup [.int i,v]) b=none)->Q () {s with heap:=g2,toks:=tk+1}) :
 wpAny (model X.prog X.w) X.A (letOwnedTupleGo (.Tuple elts x1 tpos) (.ref z) (.ref s.heap.objs.size)) Q E {s with heap:=g,toks:=tk+1}:=by
 refine wpAny_letOwnedTupleGo_enum Z λg2 a7 S=>?_;have a8:IsPair g2 s.heap.objs.size (.int i tk) x:=S.extBut _ _ (zin Y) a3;have kk : ∀J u,J ∉ [z,it]->s.heap.get? J=some u->g2.get? J=some u:=λJ u O e=>by
  simp only [zhh,zhP,or_false,not_or]at O;exact S.extBut _ _ O.1 (a5 J u O.1 O.2 e)
 refine a6 g2 (by have:=a7;rwa [show((i:Int)+1)=((i+1:Nat):Int)by omega]at this) S (I.turnLaid (fp:=[z,it]) kk U (zg3 _) ⟨by show 2<=sizeLine;decide,[.int i tk,x],.cons ⟨_,rfl⟩ (.cons rx .nil),⟨_,a8,rfl,_,rfl⟩⟩) I.fresh λJ O=>?_;have a9:J≠s.heap.objs.size:=by
  simp only [zhh,zhP,or_false]at O;rcases O with rfl | rfl
  ·exact zhz Y
  ·exact zhz hi
 rw [zH a9];exact(U J O).1
def zf1(z:Str):It:=
 ⟨λi _=>i<z.cps.size,λi H x H'=>∃p c,x = .ref p/\H p=none/\H'=upd H p (.tup [.int i,.str ⟨#[c]⟩])/\z.cps[i]? = some c,λi _=>i=z.cps.size⟩
theorem Z6{prog:Program}{w:World}{A:Around}(z:A.handled=none)(it:Addr)(x:Str)(t:Tok) :
 Draws prog w A it [it] x.cps.size (λi v=>∃c u,x.cps[i]? = some c/\v = .str ⟨#[c]⟩ u) (λi h=>h.IsStrIter it (strIterType x) x t i):=by
 rcases zfo x with q | q
 ·rw [q];exact Draws.strAscii z it x t
 ·rw [q];exact Draws.strWide z it x t
theorem Xf{P:Program}{w:World}{K:PySem.W.Frag}{elts:List Expr}{x1:Nat}{tpos:Pos}{z it:Addr}(x:Str)(t:Tok)(Q:z≠it) :
 Turn P w K (.Tuple elts x1 tpos) (zf1 x) [z,it] z (λi h=>(∃O,IsEnum h z it i O)/\h.IsStrIter it (strIterType x) x t i) where
 mem:=by simp
 obj:=λi h ⟨⟨O,J⟩,h1⟩ y Z=>by
  simp only [zhh,zhP,or_false]at Z;rcases Z with rfl | rfl
  ·exact⟨_,J,λv q=>by cases q⟩
  ·obtain⟨o,e,c,d⟩:=h1
   exact⟨o,e,λv q=>by rw [d]at q;cases q⟩
 keep:=λi h h' ⟨⟨O,J⟩,h1⟩ k=>⟨⟨O,k z ⋯ _ J⟩,by obtain⟨o,e,r⟩:=h1;exact⟨o,k it ⋯ o e,r⟩⟩
 item:=by
  rintro X rfl rfl rfl S i pins s σ H E I U ⟨⟨O,J⟩,h1⟩ a6;have a7:it<s.heap.objs.size:=by obtain⟨o2,e2,_⟩:=h1;exact zhc e2
  have Y:=Z6 (prog:=X.prog) (w:=X.w) (A:=X.A.in1) (show X.A.in1.handled=none from I.ok.hd S) it x t;refine wpAny_pyNext_enum_itemD Y J h1 a6 Q (by simp;exact Q) λu g tk hP a1 a2 a3 a4 a5=>⟨_,rfl,?_⟩;obtain⟨c,tu,ae,rfl⟩:=hP;refine WH (v:= .str ⟨#[c]⟩) I U (zhc J) a7 a1 a3 a5 ⟨_,rfl⟩ λg2 b1 b2 I1 ag hn=>⟨.ref s.heap.objs.size,_,I1,rfl,⟨_,_,rfl,ag,rfl,ae⟩,⟨⟨_,b1⟩,?_⟩,hn⟩;obtain⟨o,e,r⟩:=a2;exact⟨o,b2.extBut _ _ Q.symm e,r⟩
 done:=by
  rintro X rfl rfl rfl S i pins s σ H E I U ⟨⟨O,J⟩,h1⟩ hi;have hi:i=x.cps.size:=hi;subst hi;have Y:=Z6 (prog:=X.prog) (w:=X.w) (A:=X.A.in1) (show X.A.in1.handled=none from I.ok.hd S) it x t;refine wpAny_pyNext_enum_endD Y J h1 λg hk=>⟨rfl,?_⟩;refine I.turnedL (t':=s.toks) (fp:=[z,it]) (λb' u hb e=>?_) U;simp only [zhh,zhP,or_false,not_or]at hb;exact hk b' u hb.2 e
 self:=λ_ _ _ _ _ st h=>ZV st.1.choose_spec h
def zdP(ta:TA):TI:=λσ H R=>ta σ H λvs H1=>∃z,vs=[.str z]/\R (zf1 z) H1
section
variable{X:Cx}{e1:Expr}{ta:TA}{p pos:Pos}{elts:List Expr}{x1:Nat}{tpos:Pos}
theorem V8(S:Gl X "enumerate")(U:X.mg "enumerate" = none)(ha:PA X [e1] ta)
 (Y:bootBuiltins "enumerate" = some (.type "enumerate")) (Z:starEach [e1] X.env=[(false,eval e1 X.env)]:=by rfl) :
 PI X (.Tuple elts x1 tpos) (.Call (.Name "enumerate" p) [e1] [] pos) (zdP ta):=by
 intro pins s σ H R I h;refine Call_ (xX I S U Y (zhA (thn (ha pos pins s σ H _ I h) λus s1 hZ=>?_) (by rw [Z];rfl) rfl));obtain⟨vs,H1,J,r1,q1⟩:=hZ;obtain⟨z,rfl,q⟩:=q1;obtain⟨w1,rfl,a3⟩:=yJ r1;obtain⟨t,rfl⟩:=a3;refine call_enumerate_str λg b1 b2 b3 b4=>ZV (s:={s1 with heap:=g}) b1 ?_;refine⟨_,[s1.heap.objs.size+1,s1.heap.objs.size],_,_,H1,rfl,J.kept (t':=s1.toks) b4,Xf z t (zin (zif _)),⟨⟨_,b1⟩,b2⟩,λc O=>?_,q⟩;have Q:s1.heap.objs.size<=c:=by
  simp only [zhh,zhP,or_false]at O;rcases O with rfl | rfl
  ·exact zh8 _ _
  ·exact zg3 _
 exact J.fpOk Q (J.hok.fresh Q)
end
end L2
namespace DL
open PySem PySem.Spec PyProof.Rows L2
theorem Zx(z:Str):(ql z).length=z.cps.size:=by simp [ql]
theorem VJ(z:Str){i c:Nat}(h:z.cps[i]? = some c):(ql z)[i]? = some (.str ⟨#[c]⟩):=by simp [ql,h]
theorem Xc{K:PySem.W.Frag}{H0 Hs:Hp}(z:Str):Walk K H0 Hs (zf1 z) (qM (ql z)):=by
 have I:(qM (ql z)).length=z.cps.size:=by simp [qM,Zx]
 refine⟨λi H1 s hi=>?_,λH1 s=>?_,λi H1 x H1' s hi y=>?_⟩
 ·rw [I]at hi;exact hi
 ·rw [I];exact rfl
 ·obtain⟨p,c,rfl,J,rfl,O⟩:=y
  refine⟨.tup [.int i,.str ⟨#[c]⟩],?_,λG0 s1 s2=>⟨upd G0 p (.tup [.int i,.str ⟨#[c]⟩]),Ext.alloc s2 J _,?_⟩⟩
  ·rw [I]at hi
   unfold qM;rw [zhD,List.getElem?_range (by rw [Zx];exact hi),zhF,VJ z O];rfl
  ·exact qa (SqT.of zE) (Reps.cons (show V.int i = .int i from rfl) (Reps.cons (show V.str ⟨#[c]⟩ = .str ⟨#[c]⟩from rfl) Reps.nil))
section
variable{X:Cx}{sc:Scope}{N L:List Str}{k:Nat}{a b e:Expr}{pos p p2:Pos}{f fa fb:CO D}
theorem K1{elts:List Expr}{x1:Nat}{tpos:Pos}(h:SX X sc N L k)(c:wo sc "enumerate" = true)(z:X.mg "enumerate" = none)(ha:PV X a f)(J:starEach [a] X.env=[(false,eval a X.env)]:=by rfl) :
 PIF X (.Tuple elts x1 tpos) (.Call (.Name "enumerate" p) [a] [] pos) (yl f):=
 ZM (V8 (h.gl c).1 z (zS ha jM J) boot_enumerate J) λσ H R Q=>by
  obtain⟨H0,γ,ds,rc,I,q⟩:=Q;obtain⟨d,S,I⟩:=bind_some I;cases d with
  | str z=>
   by_cases O:jj z=true
   ·have I:(if jj z=true then some (qM (ql z))else none)=some ds:=I
    rw [if_pos O]at I;cases I;exact⟨H0,γ,_,rc,S,λv H' H0' x r=>⟨z,by rw [show v = .str z from r],q _ H' H0' x (Xc z)⟩⟩
   ·have I:(if jj z=true then some (qM (ql z))else none)=some ds:=I
    rw [if_neg O]at I;cases I
  | _=>cases I
theorem zbg(ha:PV X a fa)(J:PV X b fb):PV X (.BinOp a .Add b pos) (VP fa fb):=
 j5 (zbt XD ha J) λσ H Q O=>by
  obtain⟨H0,γ,d,rc,z,q⟩:=O;obtain⟨x,e1,z⟩:=bind_some z;obtain⟨y,S,z⟩:=bind_some z;cases x with
  | str u=>
   cases y with
   | str w=>
    by_cases I:jj u=true/\jj w=true
    ·have z:(if jj u=true/\jj w=true then some (D.str (u++w))else none)=some d:=z
     rw [if_pos I]at z;cases z;refine⟨H0,γ,_,rc,e1,λv1 H1 U x1 Y=>⟨U,γ,_,rc.ext x1,S,λv2 H2 Z x2 r2=>⟨u,w,Y,r2,?_,q _ H2 Z (x1.trans x2) rfl⟩⟩⟩;have h1:=wF I.1;have h2:=wF I.2;have:2000<=sizeLine:=by decide
     omega
    ·have z:(if jj u=true/\jj w=true then some (D.str (u++w))else none)=some d:=z
     rw [if_neg I]at z;cases z
   | _=>cases z
  | _=>cases z
end
end DL
namespace DL
open PySem L2 PyProof.Rows
open PySem.W (KasT kas_sort kas_asc kas_desc kas_tail3 kas_descPart kas_count kas_place kas_bin kas_rev)
def Good{α:Type}(n:Nat)(P:α->Prop):KasT α->Prop
 | .ret a=>P a
 | .ask i j k=>i<n/\j<n/\∀b,Good n P (k b)
theorem Good.mono{α:Type}{n:Nat}{P z:α->Prop}(h : ∀a,P a->z a) : ∀{t:KasT α},Good n P t->Good n z t
 | .ret a,g=>h a g
 | .ask i j k,g=>⟨g.1,g.2.1,λb=>(g.2.2 b).mono h⟩
theorem Good.bind{α β:Type}{n:Nat}{P:α->Prop}{z:β->Prop}{f:α->KasT β}(I : ∀a,P a->Good n z (f a)) : ∀{t:KasT α},Good n P t->Good n z (t.bind f)
 | .ret a,g=>I a g
 | .ask i j k,g=>⟨g.1,g.2.1,λb=>(g.2.2 b).bind I⟩
theorem Good.run{α:Type}{n:Nat}{P:α->Prop}{lt:Nat->Nat->Bool} : ∀{t:KasT α},Good n P t->P (ze4 lt t)
 | .ret a,g=>g
 | .ask i j k,g=>(g.2.2 _).run
def Pm(n:Nat)(p:Array Nat):Prop:=p.toList.Perm (zgX n)
theorem Pm.lt{n:Nat}{p:Array Nat}(h:Pm n p)(z:0<n)(i:Nat):p.getD i 0<n:=by
 by_cases hi:i<p.size
 ·have e:p.getD i 0=p[i]:=by simp [Array.getD,hi]
  rw [e];exact zgZ.mp (h.mem_iff.mp ⋯)
 ·have e:p.getD i 0=0:=by simp [Array.getD,hi]
  rw [e];exact z
theorem Pm.rev{n:Nat}{p:Array Nat}(h:Pm n p)(i j:Nat):Pm n (kas_rev p i j):=(Array.perm_iff_toList_perm.mp (mirror_perm p i j _)).trans h
theorem Pm.bub{n:Nat}{p:Array Nat}(h:Pm n p)(i j:Nat):Pm n (bubble p i j):=(Array.perm_iff_toList_perm.mp (bubble_perm p i j)).trans h
theorem wZ{n:Nat}{p:Array Nat}(h:Pm n p)(z:0<n) : ∀f m,Good n (λ_=>True) (kas_asc p f m)
 | 0,m=>trivial
 | f+1,m=>⟨h.lt z _,h.lt z _,λb=>by
  cases b with
  | true=>exact trivial
  | false=>exact wZ h z f (m+1)⟩
theorem kM{n:Nat}(z:0<n) : ∀f p m q,Pm n p->Good n (λr=>Pm n r.1) (kas_desc f p m q)
 | 0,p,m,q,h=>h
 | f+1,p,m,q,h=>⟨h.lt z _,h.lt z _,λb=>by
  cases b with
  | true=>
   show Good n _ (if q>0 then _ else _);split
   ·exact kM z f _ _ _ (h.rev _ _)
   ·exact kM z f _ _ _ h
  | false=>exact⟨h.lt z _,h.lt z _,λd=>by
   cases d with
   | true=>exact h
   | false=>exact kM z f _ _ _ h⟩⟩
theorem ZZ{n:Nat}(z:0<n)(m r:Nat){p:Array Nat}(h:Pm n p):Good n (λr=>Pm n r.2) (kas_tail3 m r p):=by
 unfold kas_tail3;refine Good.bind (P:=λ_=>True) (λa _=>?_) (wZ (h.rev _ _) z _ _);exact(show Pm n (kas_rev p 0 m)from h.rev _ _)
theorem Z0{n:Nat}(z:0<n)(m r:Nat){p:Array Nat}(h:Pm n p):Good n (λr=>Pm n r.2) (kas_descPart m r p):=
 (kM z _ _ _ _ h).bind λa ha=>by
   show Good n _ (if a.2.2>0 then _ else _);split
   ·exact ZZ z _ _ (Pm.rev ha _ _)
   ·exact ZZ z _ _ ha
theorem XT{n:Nat}(z:0<n)(r:Nat){p:Array Nat}(h:Pm n p):Good n (λr=>Pm n r.2) (kas_count r p):=
 (wZ h z _ _).bind λm _=>by
   show Good n _ (if (m==r)=true then _ else if m>1 then _ else _);split
   ·exact h
   ·split
    ·exact⟨h.lt z _,h.lt z _,λc=>by
      cases c with
      | true=>exact h
      | false=>exact Z0 z _ _ (h.rev _ _)⟩
    ·exact Z0 z _ _ h
theorem yf{n:Nat}(z:0<n){p:Array Nat}(h:Pm n p)(k:Nat) : ∀f l r,Good n (λ_=>True) (kas_place p k f l r)
 | 0,l,r=>trivial
 | f+1,l,r=>by
  show Good n _ (if l>=r then _ else _);split
  ·exact trivial
  ·exact⟨h.lt z _,h.lt z _,λc=>by
    cases c with
    | true=>exact yf z h k f _ _
    | false=>exact yf z h k f _ _⟩
theorem QN{n:Nat}(z:0<n) : ∀f p k,Pm n p->Good n (Pm n) (kas_bin f p k)
 | 0,p,k,h=>h
 | f+1,p,k,h=>(yf z h k k 0 k).bind λl _=>QN z f _ _ (h.bub _ _)
theorem YB{n:Nat}(z:0<n):Good n (Pm n) (kas_sort n):=
 (XT z n (show Pm n (List.toArray (zgX n))from List.Perm.refl _)).bind λr I=>by
   show Good n _ (if r.1<n then _ else _);split
   ·exact QN z _ _ _ I
   ·exact I
theorem XC(ps:List (Int×Int)):(JG ps).Perm (zgX ps.length):=by
 unfold JG;split
 ·exact List.Perm.refl _
 ·exact(YB ⋯).run
theorem jP{α:Type}(d:α) : ∀ds:List α,(zgX ds.length).map (λi=>ds.getD i d)=ds:=λds=>by
 apply zjl;intro i;by_cases hi:i<ds.length
 ·simp [hi]
 ·simp [hi,Nat.not_lt.mp hi]
end DL
namespace DL
open PySem PySem.Spec PyProof.Rows L2
def fs2(z I:V):List (Str×V):=wK "table" I (wK "p" z [])
theorem zft(z I:V):(fs2 z I).lookup ("p" : Str)=some z:=by
 unfold fs2;rw [jU,jU,if_neg ⋯,if_pos rfl]
theorem zfs(I z:V):(fs2 I z).lookup ("table" : Str)=some z:=by
 unfold fs2;rw [jU,if_pos rfl]
theorem zfu(z I:V):(fs2 z I).lookup ("forth" : Str)=none:=by
 unfold fs2;rw [jU,jU,if_neg ⋯,if_neg ⋯];rfl
theorem yK{H:Hp}{x:Addr}{o o':HO}:upd (upd H x o) x o'=upd H x o':=by
 funext b;by_cases h:b=x
 ·subst h;rw [zE,zE]
 ·rw [zH h,zH h,zH h]
structure ClsA(K:PySem.W.Frag)(C:Addr):Prop where
 cls:Cls K C
 np:NoAttr K C "p"
 nt:NoAttr K C "table"
def yP(C:Addr):Sp:=λvs H Q _=>∃x dx z I,vs=[.ref x,z,I]/\H x=some (.ins C dx [])/\Q .non (upd H x (.ins C dx (fs2 z I)))
def spForth(K:PySem.W.Frag)(C:Addr)(F:List D->Option Res):Sp:=λvs H Q _=>∃x dx z I J H0 p t b ds,vs=[.ref x,J]/\H x=some (.ins C dx (fs2 z I))/\Same H0 H/\Rep K H0 p z/\Rep K H0 t I/\Rep K H0 b J/\F [p,t,b]=some (.own ds)/\zgs K H0 H Q (.own ds)
section
variable{P:Program}{w:World}{K:PySem.W.Frag}{mg:Str->Option Value}{base:Heap}{k:Nat}
theorem zbV{q:Str}{st:Stmt}{f C:Addr}{fd:FuncData}(J:L2.Fun K "__init__" q st f fd)(hd:J0 ["self","p","table"] ["self","p","table"] st=true)(c:ClsA K C)
 (O : ∀X:Cx,X.prog=P->X.w=w->X.K=K->X.mg=mg->X.base=base->SX X (defScope st) ["self","p","table"] ["self","p","table"] k->PSs X (defBody st) (zf2 (ze3 X.K (vG 0) (vG 1) "p") (ze3 X.K (vG 0) (vG 2) "table"))) :
 FnOk P w K mg base CX0 (k+1) f fd ["self","p","table"] (yP C):=by
 have S:=kx hd;refine J.ok S (λvs H Q E h=>by obtain⟨x,dx,z,I,rfl,_⟩:=h;rfl) λcdv A outer s H vs Q E U Y=>⟨_,O _ rfl rfl rfl rfl rfl ⟨rfl,rfl,S.nd,rfl,U,λ_ _=> .inl rfl⟩,?_⟩;obtain⟨x,dx,z,I,rfl,hx,q⟩:=Y;refine⟨z,rfl,.ref x,rfl,x,C,dx,[],rfl,hx,c.cls,c.np,by decide,?_⟩;refine⟨I,rfl,.ref x,rfl,x,C,dx,wK "p" z [],rfl,zE,c.cls,c.nt,by show 1<1000;decide,?_⟩;rw [yK];exact q
theorem QQ{q:Str}{st:Stmt}{f C:Addr}{fd:FuncData}{F:List D->Option Res}(O:L2.Fun K "forth" q st f fd)(hd:J0 ["self","base"] ["self","base"] st=true)(c:ClsA K C)
 (U : ∀X:Cx,X.prog=P->X.w=w->X.K=K->X.mg=mg->X.base=base->SX X (defScope st) ["self","base"] ["self","base"] k->
   PSs X (defBody st) (zeS (VF (spF X.K 3 F) [] E0 (yM (zeX X.K (vG 0) "p") (yM (zeX X.K (vG 0) "table") (yM (vG 1) zch)))))) :
 FnOk P w K mg base CX0 (k+1) f fd ["self","base"] (spForth K C F):=by
 have S:=kx hd;refine O.ok S (λvs H Q E h=>by obtain⟨x,dx,z,I,J,H0,p,t,b,ds,rfl,_⟩:=h;rfl) λcdv A outer s H vs Q E Y Z=>⟨_,U _ rfl rfl rfl rfl rfl ⟨rfl,rfl,S.nd,rfl,Y,λ_ _=> .inl rfl⟩,?_⟩;obtain⟨x,dx,z,I,J,H0,p,t,b,ds,rfl,hx,h0,r1,r2,r3,hF,a4⟩:=Z;refine⟨.ref x,rfl,x,C,dx,_,z,rfl,hx,c.cls,c.np,zft z I,.ref x,rfl,x,C,dx,_,I,rfl,hx,c.cls,c.nt,zfs z I,J,rfl,?_⟩;exact⟨H0,[p,t,b],.own ds,h0,Reps.cons r1 (Reps.cons r2 (Reps.cons r3 Reps.nil)),rfl,hF,a4⟩
def spBy(CR CL:Addr):Sp:=λvs H Q _=>∃z s I,vs=[z,.str s,I]/\∀x dx,H x=none->H dx=none->dx≠x->Q (.ref x) (upd (upd H dx (.own x)) x (.ins (if s=("r" : Str)then CR else CL) dx (fs2 z I)))
theorem zfw{x:Str}{st:Stmt}{f CR CL:Addr}{fd:FuncData}(O:L2.Fun K x x st f fd)(hd:J0 ["p","way","table"] ["p","way","table"] st=true)
 (U : ∀X:Cx,X.prog=P->X.w=w->X.K=K->X.mg=mg->X.base=base->SX X (defScope st) ["p","way","table"] ["p","way","table"] k->
   PSs X (defBody st) (zeS (L2.tIf (zcD (tOp rEq (vG 1) (tC (.str "r")))) (VD CR (yP CR) [] E0 (yM (vG 0) (yM (vG 2) zch))) (VD CL (yP CL) [] E0 (yM (vG 0) (yM (vG 2) zch)))))) :
 FnOk P w K mg base CX0 (k+1) f fd ["p","way","table"] (spBy CR CL):=by
 have S:=kx hd;refine O.ok S (λvs H Q E h=>by obtain⟨I,s,J,rfl,_⟩:=h;rfl) λcdv A outer s H vs Q E Y Z=>⟨_,U _ rfl rfl rfl rfl rfl ⟨rfl,rfl,S.nd,rfl,Y,λ_ _=> .inl rfl⟩,?_⟩;obtain⟨I,z,J,rfl,q⟩:=Z;have go : ∀C,(∀x dx,H x=none->H dx=none->dx≠x->Q (.ref x) (upd (upd H dx (.own x)) x (.ins C dx (fs2 I J))))->VD C (yP C) [] E0 (yM (vG 0) (yM (vG 2) zch)) (start ["p","way","table"] [I,.str z,J]) H Q:=λC q=>by
  refine⟨I,rfl,J,rfl,λx dx hx a0 a1=>⟨x,dx,I,J,rfl,zE,rfl,?_⟩⟩;rw [yK];exact q x dx hx a0 a1
 refine⟨.str z,rfl,rfl,_,rfl,?_⟩;show(if decide (V.str z=V.str "r")=true then _ else _);by_cases h:z=("r" : Str)
 ·rw [if_pos (decide_eq_true (by rw [h]))]
  refine go CR λx dx a b c=>?_;have:=q x dx a b c
  rwa [if_pos h]at this
 ·rw [if_neg (by simpa using h)]
  refine go CL λx dx a b c=>?_;have:=q x dx a b c
  rwa [if_neg h]at this
end
section
variable{X:Cx}{sc:Scope}{N L:List Str}{k j jr jl:Nat}{a b c d:Expr}{p pos1 apos pos2:Pos}{fa fb fc fd:CO D}{F G:List D->Option Res}{x:Str}{CR CL:Addr}
structure FnBy(P:Program)(w:World)(K:PySem.W.Frag)(mg:Str->Option Value)(base:Heap)(j:Nat)(x:Str)(CR CL:Addr):Prop where
 ex : ∃(f:Addr) (fd:FuncData),FnOk P w K mg base CX0 j f fd ["p","way","table"] (spBy CR CL)/\mg x=some (.ref f)/\PySem.W.keepIn K (.ref f)=true/\Binds K fd ["p","way","table"] []
structure MethAt(P:Program)(w:World)(K:PySem.W.Frag)(mg:Str->Option Value)(base:Heap)(j:Nat)(C:Addr)(F:List D->Option Res):Prop where
 cls:ClsA K C
 ex : ∃(f:Addr) (fd:FuncData),Meth K C "forth" f/\FnOk P w K mg base CX0 j f fd ["self","base"] (spForth K C F)/\Binds K fd ["self","base"] []
theorem V5(al:FnBy X.prog X.w X.K X.mg X.base j x CR CL)(hR:MethAt X.prog X.w X.K X.mg X.base jr CR F)(hL:MethAt X.prog X.w X.K X.mg X.base jl CL G)(h1:j<=k)(h2:jr<=k)(h3:jl<=k)(h:SX X sc N L k)(cx:wo sc x=true)
 (ha:PV X a fa) (hb:PV X b fb) (hc:PV X c fc) (hd:PV X d fd)
 (he:starEach [a,b,c] X.env=(false,eval a X.env)::starEach [b,c] X.env:=by rfl) (ar:(backTo pos1 (starEach [b,c] X.env)).any (·.1)=false:=by rfl)
 (as:starEach [b,c] X.env=(false,eval b X.env)::starEach [c] X.env:=by rfl) (au:starEach [c] X.env=(false,eval c X.env)::starEach [] X.env:=by rfl)
 (ae:starEach [d] X.env=(false,eval d X.env)::starEach [] X.env:=by rfl) (av:(backTo pos2 (starEach [] X.env)).any (·.1)=false:=by rfl)
 {pl:Sem Bool} (ht:eval (.Call (.Attribute (.Call (.Name x p) [a,b,c] [] pos1) "forth" apos) [d] [] pos2) X.env=(do
  let ov <- eval (.Call (.Name x p) [a,b,c] [] pos1) X.env
  standAt apos.atName
  let (f,first) <- holding [ov] (getMethod ov "forth" pl)
  callWith pos2 f first (backTo pos2 (starEach [d] X.env)) (backToKw pos2 (keywordEach [] X.env))):=by rfl) :
 PO X (.Call (.Attribute (.Call (.Name x p) [a,b,c] [] pos1) "forth" apos) [d] [] pos2) (Qr F G (za fa (za fb (za fc (za fd zo))))):=by
 intro pins s σ H Q I ⟨H0,γ,ds,rc,J,q⟩;obtain⟨l,e0,J⟩:=bind_some J;obtain⟨dp,e1,e0⟩:=bind_some e0;obtain⟨l1,e2,rfl⟩:=zB e0;obtain⟨dw,e3,e2⟩:=bind_some e2;obtain⟨l2,e4,rfl⟩:=zB e2;obtain⟨Y,e5,e4⟩:=bind_some e4;obtain⟨l3,e6,rfl⟩:=zB e4;obtain⟨Z,e7,e6⟩:=bind_some e6;obtain⟨l4,e8,rfl⟩:=zB e6;cases e8;cases dw with
 | str z=>
  have J:((if z=("r" : Str)then F else G) [dp,Y,Z]).bind zck=some ds:=J;obtain⟨r,e9,ag⟩:=bind_some J;cases r with
  | val _=>cases ag
  | own c4=>
   cases ag;obtain⟨c5,c6,Gy,my,ky,bd⟩:=al.ex;have call:=yW (p:=p) (pos:=pos1) Gy (h.room.mono h1) (h.gl cx).1 my ky bd .nil ZO (zS ha (zS hb (zS hc jM au) as) he) (h.gl cx).2.2 he ar;have go : ∀(C:Addr) (jc:Nat) (Fc:List D->Option Res),(if z=("r" : Str)then CR else CL)=C->MethAt X.prog X.w X.K X.mg X.base jc C Fc->jc<=k->Fc [dp,Y,Z]=some (.own ds)->
    wpAny (model X.prog X.w) X.A (eval (.Call (.Attribute (.Call (.Name x p) [a,b,c] [] pos1) "forth" apos) [d] [] pos2) X.env) (EP X pins σ Q) X.xe s:=λC jc Fc hC M hj hF=>by
    obtain⟨fm,c8,Mm,Gm,bm⟩:=M.ex;refine zbu (pl:=pl) (E:=E0) call M.cls.cls Mm Gm (h.room.mono hj) bm .nil ZO (zS hd jM ae) ae av ht pins s σ H Q I ?_;refine⟨H0,γ,dp,rc,e1,λO H1 bl x1 r1=>⟨bl,γ,_,rc.ext x1,e3,λv2 H2 bp x2 r2=>⟨bp,γ,Y,(rc.ext x1).ext x2,e5,λS H3 a1 x3 r3=>?_⟩⟩⟩;refine⟨O,z,S,by rw [show v2 = .str z from r2];rfl,λo a2 n1 n2 br=>?_⟩;rw [hC];have xe:Ext a1 H3 a1 (upd (upd H3 a2 (.own o)) o (.ins C a2 (fs2 O S))):=(Ext.hide x3.sub n2 (.own o)).trans (Ext.hide (x3.sub.trans (zU n2 _)) (by rw [zH (zhO br)];exact n1) _);have xa:=(x1.trans (x2.trans x3)).trans xe;refine⟨o,a2,fs2 O S,rfl,zE,zfu O S,a1,γ,Z,rc.ext xa,e7,λv4 H4 aj U r4=>?_⟩;have ak:Same a1 aj:=U.s0;refine⟨o,a2,O,S,v4,aj,dp,Y,Z,ds,rfl,U.s1 _ _ zE,U.sub,((r1.mono x2.s0).mono x3.s0).mono ak,r3.mono ak,r4,hF,?_⟩;exact λa' xs H' H0' x5 g1 g2 g3 g4=>q a' xs H' H0' (xa.trans (U.trans x5)) (yX (xa.trans U).s1 g1) g2 g3 g4
   by_cases hz:z=("r" : Str)
   ·rw [if_pos hz]at e9
    exact go CR jr F (if_pos hz) hR h2 e9
   ·rw [if_neg hz]at e9
    exact go CL jl G (if_neg hz) hL h3 e9
 | _=>cases J
end
section
variable{X:Cx}{sc:Scope}{N L:List Str}{k:Nat}{a:Expr}{pos:Pos}{f:CO (List D)}
theorem zbl(i:Nat){x:Str}{apos cpos np:Pos}(h:SX X sc N L k)(c:Vw sc N i x=true)(ha:PO X a f)(J:starEach [a] X.env=[(false,eval a X.env)]:=by rfl)
 (Y:attributeBase (.Name x np) "extend" X.env (eval (.Name x np) X.env)=eval (.Name x np) X.env:=by rfl)
 (Z:((backTo cpos (starEach [a] X.env)).all (λx=> !x.1) && (backToKw cpos (keywordEach [] X.env)).all (λx=>x.1.isSome)
   && decide ([a].length+([]:List Keyword).length+(if ([]:List Keyword).isEmpty then 0 else 1)<30))=true:=by rfl)
 (a0:(apos.endLine==cpos.line)=true:=by rfl) (a1:swapsWith (.Call (.Attribute (.Name x np) "extend" apos) [a] [] cpos) none pos.line X.env=pure false:=by rfl) :
 PSD X (.Expr (.Call (.Attribute (.Name x np) "extend" apos) [a] [] cpos) pos) (Jy i f):=
 xQ (KW (zdj PySem.F.plainAttrs_list PySem.F.slot_list_extend PySem.F.type_list_extend Yb (h.var c) (zS ha jM J) Y Z a0 J rfl) a1) λD σ H hZ=>by
  obtain⟨E0,E,H0,γ,fl,I,z,a3⟩:=hZ;obtain⟨ds,e1,z⟩:=bind_some z;obtain⟨es,e2,z⟩:=bind_some z;have e1:=xB e1;by_cases O:ds.length+es.length<=lim
  ·rw [if_pos O]at z;cases z
   obtain⟨l,xs,h1,h2,Q,S⟩:=I.rc.own i ds e1;refine⟨_,h1,.inl ⟨rfl,_,SqL.of Q⟩,H0,γ,es,I.rc,e2,λb zs H' H0' x g1 g2 g3 U=>?_⟩;have hl:xs.length+zs.length<=sizeLine:=by
    rw [S.length,U.length];have:lim<=sizeLine:=by decide
    omega
   refine⟨l,b,xs,zs,rfl,rfl,x.s1 _ _ Q,g3,hl,?_⟩;have a7:=I.step x;exact a3 _ _ _ (a7.rewrite (xs:=xs) e1 h1 ((S.mono x.s0).append U))
  ·rw [if_neg O]at z;cases z
end
def WX(K:PySem.W.Frag)(C:Addr):Bool:=PySem.W.makesIn K C && PySem.W.keepIn K (.ref C) && PySem.W.plainGet K C Str.empty && PySem.W.hasDictIn K C && PySem.W.plainOver K C &&
 PySem.W.findIn K (.ref C) "__setattr__" == some (some (.builtin "object.__setattr__")) && PySem.W.findIn K (.ref C) "p" == some none && PySem.W.findIn K (.ref C) "table" == some none
structure ArrAt(K:PySem.W.Frag)(mg:Str->Option Value)(sI sR sL:Stmt):Prop where
 ex : ∃(CR CL fI fR fL:Addr) (dI dR dL:FuncData),mg "Right" = some (.ref CR)/\mg "Left" = some (.ref CL)/\Mk K CR fI/\Mk K CL fI/\ClsA K CR/\ClsA K CL/\Meth K CR "forth" fR/\Meth K CL "forth" fL/\
  L2.Fun K "__init__" "Arrow.__init__" sI fI dI/\L2.Fun K "forth" "Right.forth" sR fR dR/\L2.Fun K "forth" "Left.forth" sL fL dL/\
  Binds K dI ["self","p","table"] []/\Binds K dR ["self","base"] []/\Binds K dL ["self","base"] []
section
variable{K:PySem.W.Frag}{mg:Str->Option Value}{h:Heap}
theorem Y1{C:Addr}(b:WX K C=true):ClsA K C/\PySem.W.makesIn K C=true/\PySem.W.keepIn K (.ref C)=true:=by
 unfold WX at b;simp only [Bool.and_eq_true,beq_iff_eq]at b;obtain⟨⟨⟨⟨⟨⟨⟨b1,b2⟩,b3⟩,b4⟩,b5⟩,b6⟩,b7⟩,b8⟩:=b;exact⟨⟨⟨b3,b4,b5,b6⟩,b7,b8⟩,b1,b2⟩
theorem arr_mk{sI sR sL:Stmt}{CR CL fI fR fL:Addr}{Y Z oL:Value}{eI eR eL aI aR aL:Option Addr}{lI lR lL:Array (Option Value)}{kI dI pI z tI kR dR pR I tR kL dL pL J tL:Value}(O:K.In h)(G:h.Ns mainGlobals mg)
 (nR:zjB K mainGlobals "Right" = some (some (.ref CR))) (nL:zjB K mainGlobals "Left" = some (some (.ref CL)))
 (iR:PySem.W.findIn K (.ref CR) "__init__" = some (some (.ref fI))) (iL:PySem.W.findIn K (.ref CL) "__init__" = some (some (.ref fI)))
 (mR:PySem.W.findIn K (.ref CR) "forth" = some (some (.ref fR))) (mL:PySem.W.findIn K (.ref CL) "forth" = some (some (.ref fL)))
 (uI:K.lookup fI=some ⟨Y,eI,.func (PySem.W.fnOf "__init__" "Arrow.__init__" (defArgs sI) (defBody sI) (defScope sI) .none kI dI pI aI z tI),lI⟩)
 (uR:K.lookup fR=some ⟨Z,eR,.func (PySem.W.fnOf "forth" "Right.forth" (defArgs sR) (defBody sR) (defScope sR) .none kR dR pR aR I tR),lR⟩)
 (uL:K.lookup fL=some ⟨oL,eL,.func (PySem.W.fnOf "forth" "Left.forth" (defArgs sL) (defBody sL) (defScope sL) .none kL dL pL aL J tL),lL⟩)
 (vI:PySem.W.codeIn K z "Arrow.__init__" = true) (vR:PySem.W.codeIn K I "Right.forth" = true) (vL:PySem.W.codeIn K J "Left.forth" = true)
 (w1:PySem.W.keepIn K (.ref fI)=true) (w2:PySem.W.keepIn K (.ref fR)=true) (w3:PySem.W.keepIn K (.ref fL)=true)
 (z1:PySem.W.isFn K (.ref fI)=true) (z2:PySem.W.isFn K (.ref fR)=true) (z3:PySem.W.isFn K (.ref fL)=true)
 (bR:WX K CR=true) (bL:WX K CL=true)
 (gI : ∀(kV doc pm:Value) (an:Option Addr) (cdv ct:Value) (us:List Value),us.length=3->bindArgs (PySem.W.fnOf "__init__" "Arrow.__init__" (defArgs sI) (defBody sI) (defScope sI) .none kV doc pm an cdv ct) ⟨us,[]⟩=pure ((["self","p","table"]:List Str).zip us))
 (gR : ∀(kV doc pm:Value) (an:Option Addr) (cdv ct:Value) (us:List Value),us.length=2->bindArgs (PySem.W.fnOf "forth" "Right.forth" (defArgs sR) (defBody sR) (defScope sR) .none kV doc pm an cdv ct) ⟨us,[]⟩=pure ((["self","base"]:List Str).zip us))
 (gL : ∀(kV doc pm:Value) (an:Option Addr) (cdv ct:Value) (us:List Value),us.length=2->bindArgs (PySem.W.fnOf "forth" "Left.forth" (defArgs sL) (defBody sL) (defScope sL) .none kV doc pm an cdv ct) ⟨us,[]⟩=pure ((["self","base"]:List Str).zip us)):ArrAt K mg sI sR sL:=by
 obtain⟨c1,c2,c3⟩:=Y1 bR;obtain⟨d1,d2,d3⟩:=Y1 bL;have Q:=QP uI vI w1;have S:=QP uR vR w2;have U:=QP uL vL w3;exact⟨CR,CL,fI,fR,fL,_,_,_,zkj O G nR,zkj O G nL,⟨c2,iR,z1,c3⟩,⟨d2,iL,z1,d3⟩,c1,d1,⟨mR,z2,w2⟩,⟨mL,z3,w3⟩,Q,S,U,Q.binds gI,S.binds gR,U.binds gL⟩
end
def zb4:Stmt->List Stmt
 | .ClassDef _ _ _ b _ _ _ _ _ _ _=>b
 | _=>[]
def inCls(st:Stmt)(j:Nat):Stmt:=(zb4 st).getD j (.Pass ⟨0,0,0,0⟩)
theorem wn{K:PySem.W.Frag}{H:Hp} : ∀{ds:List D} {ns:List Int} {xs:List V},ye ds=some ns->Reps K H ds xs->xs=(ns.map zks).map kV
 | [],ns,xs,e,r=>by cases e;exact r.inv_nil
 | d::ds,ns,xs,e,r=>by
  cases d with
  | int i=>
   obtain⟨l,e1,z⟩:=zB e;subst z;obtain⟨x,t,rfl,h1,h2⟩:=r.inv_cons;rw [wn e1 h2,show x = .int i from h1];rfl
  | _=>cases e
theorem ZT:typeLookup (.type "list") "keys" = pure none:=by rw [ziQ,zid];kernel_rfl
theorem vN:entryFor table "list.__getattribute__" = some Builtin.«object.__getattribute__» :=
 entryFor_alias (id':="object.__getattribute__") (by kernel_rfl) (by first | rfl | decide +kernel) ⋯ (by kernel_rfl)
section
variable{prog:Program}{w:World}{A:Around}{E:Value->Shared->Prop}{h:Heap}{g:Array GenState}{d:Drawn}{t:Nat}{os:OsState}{a:Addr}{o:Obj}
theorem vd{tk:Tok}{Q:Fin->Shared->Prop}{vs:Array Value}{U:Nat}{sl:Array (Option Value)}(hx:h.get? a=some ⟨.type "list",none,.seq vs U,sl⟩)(Y:A.handled=none)
 (Z : ∀h' e t',(∀b u,h.get? b=some u->h'.get? b=some u)->(∃J,h'.get? e=some J/\J.cls = .type "AttributeError")->E (.ref e) ⟨h',g,d,t',os⟩) :
 wpAny (model prog w) A (Builtin.«object.__getattribute__» ⟨[.ref a,.str "keys" tk],[]⟩) Q E ⟨h,g,d,t,os⟩:=by
 have hT:(⟨h,g,d,t,os⟩:Shared).TypeIs (.ref a) "list":=⟨_,hx,rfl⟩;have f4:=ZT
 repeat (any_goals (first | assumption | wp_step))
 unfold raiseAttrError;have O:((zhK (toString "'" ++ toString ((Manifest.find? "list").elim "list" λx=>x.tpName)++toString "' object has no attribute '")++zhK "keys" ++ zhK "'"):Str).length<=sizeLine:=by decide +kernel
 generalize (zhK (toString "'" ++ toString ((Manifest.find? "list").elim "list" λx=>x.tpName)++toString "' object has no attribute '")++zhK "keys" ++ zhK "'")=z at O ⊢;refine zgV (wpAny_mkStr (hx:=O) ?_);refine zgV ?_;unfold newExc newTuple;refine zgV (zho ?_ (by size_fits));refine zgV (m:=firstArgMember _ _) (ziC (a:=zii) (by first | rfl | (simp only [firstArgMember];rfl)) ?_);refine zho ?_ (by size_fits);simp only [zhY];have I:((h.push {cls:= .type "tuple",data:= .seq #[.str z t]}).push {cls:= .type "AttributeError",data:= .fields (#[.ref h.objs.size,.none,.none,.none,.bool false,.none]++ownMembersOf (.type "AttributeError") [.str z t])}).get? (h.objs.size+1) =
  some {cls:= .type "AttributeError",data:= .fields (#[.ref h.objs.size,.none,.none,.none,.bool false,.none]++ownMembersOf (.type "AttributeError") [.str z t])}:=by heap_get
 have S : ∀b u,h.get? b=some u->((h.push {cls:= .type "tuple",data:= .seq #[.str z t]}).push {cls:= .type "AttributeError",data:= .fields (#[.ref h.objs.size,.none,.none,.none,.bool false,.none]++ownMembersOf (.type "AttributeError") [.str z t])}).get? b=some u:=λb u e=>zgY _ (zgY _ e);have hn:h.get? (h.objs.size+1)=none:=Heap.get?_none_of_le (Nat.le_succ _);generalize ((h.push {cls:= .type "tuple",data:= .seq #[.str z t]}).push {cls:= .type "AttributeError",data:= .fields (#[.ref h.objs.size,.none,.none,.none,.bool false,.none]++ownMembersOf (.type "AttributeError") [.str z t])})=h2 at I S ⊢;refine zgV (wpAny_mkText ?_);unfold noteAttr lacksNameAndObj;have a3:(⟨h2,g,d,t+1+1,os⟩:Shared).TypeIs (.ref (h.objs.size+1)) "AttributeError":=⟨_,I,rfl⟩;have ft:isSubtype (.type "AttributeError") (.type "AttributeError")=pure true:=by rw [ziN];kernel_rfl
 repeat (any_goals (first | assumption | with_reducible refine wpAny_loadPart_at I ?_ | with_reducible refine wpAny_load I ?_ | wp_step))
 refine wpAny_raiseNew_none Y (Z _ _ _ (λb u e=>?_) ⟨_,ziZ _ I (zkg (zjg rfl _)),zkB ..⟩);rw [zjk _ _ (λq=>by rw [<- q]at e;rw [hn]at e;cases e)];exact S b u e
theorem vH{tk:Tok}{R:Result->Shared->Prop}{vs:Array Value}{I:Nat}{sl:Array (Option Value)}(hx:h.get? a=some ⟨.type "list",none,.seq vs I,sl⟩)(J:A.handled=none)
 (O : ∀h' e t',(∀b u,h.get? b=some u->h'.get? b=some u)->(∃z,h'.get? e=some z/\z.cls = .type "AttributeError")->R (.error (.ref e)) ⟨h',g,d,t',os⟩) :
 codeAny (model prog w) A (.call (.builtin "list.__getattribute__") ⟨[.ref a,.str "keys" tk],[]⟩) R ⟨h,g,d,t,os⟩:=
 codeAny_call_builtin zjf.plain vN (zjf.check _ _ _ _ _ _ _ _ (show(⟨h,g,d,t,os⟩:Shared).TypeIs (.ref a) "list" from⟨_,hx,rfl⟩) (F.args_list_getattribute_2 _ _) (vd hx J O))
theorem XL:typeLookup (.type "list") "__getattr__" = pure none:=by rw [ziQ,zid];kernel_rfl
theorem Yh{Q:Option Value->Shared->Prop}{vs:Array Value}{I:Nat}{sl:Array (Option Value)}(hx:h.get? a=some ⟨.type "list",none,.seq vs I,sl⟩)(J:A.handled=none)
 (O : ∀h' t',(∀b u,h.get? b=some u->h'.get? b=some u)->Q none ⟨h',g,d,t',os⟩):wpAny (model prog w) A (getAttr? (.ref a) "keys") Q E ⟨h,g,d,t,os⟩:=by
 have Z:(⟨h,g,d,t+1,os⟩:Shared).TypeIs (.ref a) "list":=⟨_,hx,rfl⟩;have f2:=zjf.lookup;have f3:=zjf.bind (.ref a);have f5:=XL;have ft:isSubtype (.type "AttributeError") (.type "AttributeError")=pure true:=by rw [ziN];kernel_rfl
 unfold getAttr? getAttrBy? getAttrBy
 repeat (any_goals (first | assumption | wp_step))
 refine vH (g:=g) (d:=d) (os:=os) hx J λh' e t' S z=>?_;obtain⟨U,z,Y⟩:=z;have a4:(⟨h',g,d,t',os⟩:Shared).TypeIs (.ref e) "AttributeError":=⟨U,z,Y⟩;have a5:=O h' t' S;show wpAny _ _ (getattributeRaised _ _ _ _ _ _ _) _ _ _;unfold getattributeRaised hookOrError attributeErrorLeaves
 repeat (any_goals (first | assumption | wp_step))
end
def xm:List D->Option (List D×List D)
 | []=>some ([],[])
 | d::r=>match d with
  | .tup ds=>match ds with
   | [k,v]=>(xm r).map λp=>(k::p.1,v::p.2)
   | _=>none
  | _=>none
def KB(f:CO (List D)):CO D:=λγ=>(f γ).bind λps=>(xm ps).bind λp=>WM p.1 p.2
@[simp] theorem zeJ{γ:Ctx}(f):KB f γ=(f γ).bind λps=>(xm ps).bind λp=>WM p.1 p.2:=rfl
def zef(fd fk:CO D):CO D:=λγ=>(fd γ).bind λd=>(fk γ).bind λk=>match d with
 | .dic ks vs=>(asI k).bind λi=>zcm ks vs i
 | _=>none
def zcS(fk fd:CO D):CO D:=λγ=>(fk γ).bind λk=>(fd γ).bind λd=>match d with
 | .dic ks vs=>(asI k).map λi=> .bl (zcm ks vs i).isSome
 | _=>none
def Vp:D->Option (List Int)
 | .tup ds=>ye ds
 | _=>none
def XO:List D->Option (List (List Int))
 | []=>some []
 | d::ds=>(Vp d).bind λk=>(XO ds).map λr=>k::r
def vY(f:CO (List D)):CO D:=λγ=>(f γ).bind λps=>(xm ps).bind λp=>(XO p.1).bind λks=>if ks.Nodup/\ks.length<=lim then some (.dct ks p.2)else none
def XW:List (List Int)->List D->List Int->Option D
 | k::ks,v::vs,i=>if k=i then some v else XW ks vs i
 | _,_,_=>none
def Xs(fd fk:CO D):CO D:=λγ=>(fd γ).bind λd=>(fk γ).bind λk=>match d with
 | .dct ks vs=>(Vp k).bind λi=>XW ks vs i
 | _=>none
def WF(d k x:D):Option D:=match d with
 | .dct ks vs=>(Vp k).map λi=>(XW ks vs i).getD x
 | _=>none
def ZB(fd fk fx:CO D):CO D:=λγ=>(fd γ).bind λd=>(fk γ).bind λk=>(fx γ).bind λx=>WF d k x
def Xr(f:CO D):CO (List D):=λγ=>(f γ).bind λd=>match d with
 | .dct ks _=>some (ks.map λk=> .tup (k.map .int))
 | _=>none
section
variable(γ:Ctx)
@[simp] theorem zeI(f):vY f γ=(f γ).bind λps=>(xm ps).bind λp=>(XO p.1).bind λks=>if ks.Nodup/\ks.length<=lim then some (.dct ks p.2)else none:=rfl
@[simp] theorem zfU(fd fk):Xs fd fk γ=(fd γ).bind λd=>(fk γ).bind λk=>match d with
 | .dct ks vs=>(Vp k).bind λi=>XW ks vs i
 | _=>none:=rfl
@[simp] theorem zfS(fd fk fx):ZB fd fk fx γ=(fd γ).bind λd=>(fk γ).bind λk=>(fx γ).bind λx=>WF d k x:=rfl
@[simp] theorem zfQ(f):Xr f γ=(f γ).bind λd=>match d with
 | .dct ks _=>some (ks.map λk=> .tup (k.map .int))
 | _=>none:=rfl
end
theorem wj{P:Program}{w:World} : ∀{k:List Int} {us:List Value},Vals (k.map V.int) us->PySem.ItemsAre (intKind P w) k us
 | [],us,h=>by cases h;exact .nil
 | i::k,us,h=>by
  cases h with
  | cons h1 h2=>
   obtain⟨t,rfl⟩:=h1;exact .cons (by show Value.isInt i (.int i t)=true;simp [Value.isInt]) (wj h2)
section
variable{X:Cx}{pins:List (Addr×Obj)}{σ:St}{H:Hp}{s:Shared}
theorem kl{b:Addr}{k:List Int}(I:Inv X pins σ H s)(h:SqT X.K H b (k.map V.int)):(tupleKind (intKind X.prog X.w)).is s.heap k b:=by
 obtain⟨z,J,⟨o,O,Q,n,hd⟩,_⟩:=I.tuple h;exact⟨o,z.toArray,n,O,Q,hd,wj J⟩
theorem vh{a:Addr}{o:Obj}{xs:List (List Int×Addr×Value)}(I:Inv X pins σ H s)(e:H a=some (atO a o))(d:X7 o xs)(z : ∀x∈xs,SqT X.K H x.2.1 (x.1.map V.int)):s.heap.DictOfH (tupleKind (intKind X.prog X.w)) a xs:=by
 obtain⟨J,_⟩:=(show ObjOk X.prog X.w H s.heap a (atO a o)from I.hok a _ e);obtain⟨O,es,ep,Q,S,U⟩:=d;exact⟨o,es,ep,J,O,Q,S,λx hx=>kl I (z x hx),U⟩
theorem zay{h:Heap}{P:Program}{w:World}{a:Addr}{xs:List (List Int×Addr×Value)}(d:h.DictOfH (tupleKind (intKind P w)) a xs) : ∃o,h.get? a=some o/\X7 o xs:=by
 obtain⟨o,es,ep,h1,h2,z,I,_,J⟩:=d;exact⟨o,h1,h2,es,ep,z,I,J⟩
end
theorem Q3{P:Program}{w:World}{H:Hp}{h:Heap}{a:Addr}{o:Obj}(e:h.get? a=some o):ObjOk P w H h a (atO a o):=⟨e,⟨o,e⟩,λh1 h2 p q=>q o p⟩
theorem Q4{K:Type} [DecidableEq K]{k:K} : ∀{xs:List (K×Addr×Value)},k∉xs.map (·.1)->atKey xs k=none
 | xs,h=>by
  unfold atKey;rw [Option.map_eq_none_iff,zjL];intro x hx z;exact h (zhr.mpr ⟨x,hx,by simpa using z⟩)
section
variable{X:Cx}{pins:List (Addr×Obj)}{σ:St}{A:Around}{R:Result->Shared->Prop}{H0:Hp}{l it d:Addr}{ks:List (List Int)}{ys xs:List V}
theorem XZ(hh:A.handled=none)(hu:A.units+8<cLine)(hx:xs.length=ks.length)(hy:ys.length=ks.length)(nd:ks.Nodup)(hz:ks.length<=sizeLine)
 (hp : ∀(n:Nat) (h1:n<xs.length) (h2:n<ks.length) (h3:n<ys.length),∃p b,xs[n] = .ref p/\SqT X.K H0 p [.ref b,ys[n]]/\SqT X.K H0 b (ks[n].map V.int)) (an:H0 d=none) (ao:l≠d) : ∀(m n:Nat) (s:Shared) (H:Hp) (o:Obj) (es:List (List Int×Addr×Value)) (i:Int) (t:Tok),n+m=ks.length->
 Inv X pins σ H s->Same H0 H->H l=some (.lst xs)->s.heap.IsListIter it l n->FpOk X pins H it->H d=some (atO d o)->X7 o es->es.map (·.1)=ks.take n->(∀x∈es,SqT X.K H0 x.2.1 (x.1.map V.int))->Vals (ys.take n) (es.map (·.2.2))->
 (∀s' o' S,X7 o' S->S.map (·.1)=ks->(∀x∈S,SqT X.K H0 x.2.1 (x.1.map V.int))->Vals ys (S.map (·.2.2))->Inv X pins σ (upd H d (atO d o')) s'->R (.ok (.ret .none)) s')->
 codeAny (model X.prog X.w) A (.builtin "dict.update.loop" ⟨[.ref d,.ref it,.int i t,.none],[]⟩) R s:=by
 intro m
 induction m with
 | zero=>
  intro n s H o es i t hn I sub U st O hd od Q Y Z hR;obtain⟨z1,a6,c,rv,ll,el⟩:=I.lstM U;refine zjq xy ?_;unfold Builtin.«dict.update.loop»;have il:s.heap.IsList l a6.toArray:=⟨_,el,rfl,_,rfl⟩;refine zgV (wpAny_pyNext_list_end (s:=s) hh st il (by simp;omega) λh' eb=>?_);refine zgV (zg1 ?_);have e0:upd H d (atO d o)=H:=by
   funext c;by_cases q:c=d
   ·rw [q,zE,hd]
   ·rw [zH q]
  have I':Inv X pins σ H {s with heap:=h'}:=I.turnedL (t':=s.toks) (fp:=[it]) (λb o J e=>eb b o (by simpa using J) e) (λb J=>by rw [zjK.mp J];exact O);have:=hR {s with heap:=h'} o es od (by rw [Q,zih ⋯]) Y (by rw [zih ⋯]at Z;exact Z);rw [e0]at this;exact zg1 (this I')
 | succ m ih=>
  intro n s H o es i t hn I sub U st O hd od Q Y Z hR;obtain⟨z1,a6,c,rv,ll,el⟩:=I.lstM U;have il:s.heap.IsList l a6.toArray:=⟨_,el,rfl,_,rfl⟩;have a9:n<ks.length:=by omega
  obtain⟨p,b,ep,aw,ad⟩:=hp n ⋯ a9 ⋯;obtain⟨u,ax,ru⟩:=rv.get (zg0 (show n<xs.length by omega));rw [ep]at ru;have eu:u = .ref p:=ru;subst eu;refine zjq xy ?_;unfold Builtin.«dict.update.loop»;refine zgV (wpAny_pyNext_list_item (s:=s) st il (x:= .ref p) (by simpa using ax) λh' az sb=>?_);have I1:=I.turnedL (h':=h') (t':=s.toks) (fp:=[it]) (λb o J e=>(sb.2 b (by simpa using J)).trans e) (λb J=>by rw [zjK.mp J];exact O);obtain⟨ts,rt,⟨o1,eo,co,nn,ba⟩,zt⟩:=I1.tuple (sameT sub aw);obtain⟨u1,r3,rfl,bb,q2⟩ : ∃u1 r3,ts=u1::r3/\RelV (.ref b) u1/\Vals [ys[n]] r3:=by
   cases rt with
   | cons q1 q2=>exact⟨_,_,rfl,q1,q2⟩
  obtain⟨u2,rfl,bd⟩:=yJ q2;have be:u1 = .ref b:=bb;subst be;have bf:({s with heap:=h'}:Shared).TypeIs (.ref p) "tuple":=⟨_,eo,co⟩;refine zgV (zi3 (zgV (wpAny_tryCatch ?_)));unfold Builtin.Dict.pairItems;refine zgV (zjh bf ?_);rw [if_pos ⋯];refine zgV (ziM eo ba (zg1 ?_));show wpAny _ _ (holding [.ref b,u2] (dictSet d (.ref b) u2)) _ _ _;have dH:=vh I1 hd od λx hx=>sameT sub (Y x hx);have bh:=kl I1 (sameT sub ad);have c3:es.length=n:=by
   have:=congrArg List.length Q;rw [zhk,zi6]at this;omega
  have bi:ks[n]∉es.map (·.1):=by
   rw [Q];intro z;obtain⟨j,hj,e⟩:=zkn z;rw [List.getElem_take]at e;rw [zi6]at hj;exact ziF.mp nd j n ⋯ a9 ⋯ e
  refine zi3 (wpAny_dictSet_heap (hsz:=by omega) (show(A.under _).units<cLine from by rw [show(A.under (Code.builtin "dict.update.loop" _)).units=A.units+1 from rfl];omega) bh dH λbl ag hs=>?_);rw [storedH_new (Q4 bi)]at ag;obtain⟨o',ai,bm⟩:=zay ag;have I2:=I1.write (x:=d) (e:=d) (o:=atO d o') (t':=s.toks+(tupleKind (intKind X.prog X.w)).draws ks[n]) (h':=bl) (by rw [hd];exact True.intro) (.inl rfl) (λb q J z=>(hs.2 b J).trans z) ⟨_,ai⟩ (Q3 ai);have aj:it≠d:=λq=>by have:=O.1;rw [q,hd]at this;cases this
  have tk:ks.take (n+1)=ks.take n++[ks[n]]:=by rw [List.take_succ,zg0 a9];rfl
  have ty:ys.take (n+1)=ys.take n++[ys[n]]:=by rw [List.take_succ,zg0 ⋯];rfl
  refine zg1 ⟨xp _,ih (n+1) _ _ o' _ (i+1) 0 ⋯ I2 (λc o e=>?_) (by rw [zH ao];exact U) (az.at λo q=>(hs.2 it aj).trans q) ⟨by rw [zH aj];exact O.1,O.2⟩ zE bm ?_ ?_ ?_ λs' o3 bp a1 a2 a3 a4 I3=>hR s' o3 bp a1 a2 a3 a4 ?_⟩
  ·rw [zH (λq=>by rw [q,an]at e;cases e)];exact sub _ _ e
  ·rw [zhG,Q,tk];rfl
  ·intro x hx
   rcases zjc.mp hx with z | z
   ·exact Y x z
   ·rw [zjK.mp z];exact ad
  ·rw [zhG,ty]
   exact Z.append (.cons bd .nil)
  ·rw [yK]at I3;exact I3
theorem X0{Q:Value->Shared->Prop}{H:Hp}{s:Shared}(I:Inv X pins σ H s)(U:X.A.handled=none)(hu:X.A.units+64<cLine)(sub:Same H0 H)(z:H l=some (.lst xs))(hx:xs.length=ks.length)(hy:ys.length=ks.length)(nd:ks.Nodup)
 (hp : ∀(n:Nat) (h1:n<xs.length) (h2:n<ks.length) (h3:n<ys.length),∃p b,xs[n] = .ref p/\SqT X.K H0 p [.ref b,ys[n]]/\SqT X.K H0 b (ks[n].map V.int)) (hz:ks.length<=sizeLine)
 (hQ : ∀s' p o es,H p=none->(p==sysModules)=false->X7 o es->es.map (·.1)=ks->(∀x∈es,SqT X.K H0 x.2.1 (x.1.map V.int))->Vals ys (es.map (·.2.2))->Inv X pins σ (upd H p (atO p o)) s'->Q (.ref p) s'):wpAny (model X.prog X.w) X.A (call (.type "dict") [.ref l]) Q X.xe s:=by
 have J:H s.heap.objs.size=none:=I.fresh;have ab:H0 s.heap.objs.size=none:=jv sub J;have Y:l≠s.heap.objs.size:=λq=>by rw [q,J]at z;cases z
 have ac:(s.heap.objs.size==sysModules)=false:=beq_eq_false_iff_ne.mpr (zin I.big);refine callType_codes (Q₁:=λobj Z=>obj = .ref s.heap.objs.size/\Z = {s with heap:=s.heap.push {cls:= .type "dict",data:= .dict #[]}}) F.kt_called_dict (F.kt_typeCall_dict_1 _) F.entry_dict_init (kt_code_dict_new _ ⟨rfl,rfl⟩) ?_;rintro obj Z ⟨rfl,rfl⟩;have I1:=I.laid (a:=s.heap.objs.size) (o:=atO s.heap.objs.size {cls:= .type "dict",data:= .dict #[]}) (t':=s.toks) (λ_ _ q=>zgY {cls:= .type "dict",data:= .dict #[]} q) (zg3 _) (Q3 (zg6 _ rfl));have a0:({s with heap:=s.heap.push {cls:= .type "dict",data:= .dict #[]}}:Shared).TypeIs (.ref s.heap.objs.size) "dict":=⟨_,zg6 _ rfl,rfl⟩;obtain⟨z1,a5,c,rv,ll,el⟩:=I.lstM z;have O:(s.heap.push {cls:= .type "dict",data:= .dict #[]}).get? l=some {cls:= .type "list",data:= .seq a5.toArray c}:=zgY _ el;refine⟨a0,F.args_dict_init_2 _ _,?_⟩;unfold Builtin.«dict.__init__»;refine zgV ?_;unfold Builtin.Dict.selfAndRest;refine zgV (zjz a0 ?_);show wpAny _ _ (pure (s.heap.objs.size,[zhv l])) _ _ _;refine zg1 ?_;show wpAny _ _ (Builtin.Dict.updateFrom "dict.__init__" s.heap.objs.size (.ref l) [] .none) _ _ _;unfold Builtin.Dict.updateFrom;refine zgV (zjh (T:="list") ⟨_,O,rfl⟩ ?_);rw [if_pos ⋯];refine zgV (Yh (g:=s.gens) (d:=s.drawn) (t:=s.toks) (os:=s.os) O (show X.A.in1.in1.handled=none from U) λh' t' k=>?_);have S:Inv X pins σ (upd H s.heap.objs.size (atO s.heap.objs.size {cls:= .type "dict",data:= .dict #[]})) {s with heap:=h',toks:=t'}:=I1.kept k;have af:=k _ _ O;simp only [Option.isNone_none,if_true];refine zgV (zji (zgV (zkP (items:=a5.toArray) ⟨_,af,rfl,_,rfl⟩ ?_)));refine zg1 ⟨xp _,?_⟩;have I3:=S.kept (h':=h'.push {cls:= .type "list_iterator",data:= .fields #[.ref l,.int 0 0]}) (t':=t') λb o e=>zgY _ e;have fp:=S.fpOk (b:=h'.objs.size) (H':=upd H s.heap.objs.size (atO s.heap.objs.size {cls:= .type "dict",data:= .dict #[]})) (zg3 _) S.fresh;refine XZ (H0:=H0) (l:=l) (it:=h'.objs.size) (ks:=ks) (ys:=ys) (xs:=xs) (show X.A.in1.handled=none from U) (by show X.A.in1.units+8<cLine;rw [units_in1];omega) hx hy nd hz hp ab Y ks.length 0 _ (upd H s.heap.objs.size (atO s.heap.objs.size {cls:= .type "dict",data:= .dict #[]})) {cls:= .type "dict",data:= .dict #[]} [] 0 0 (ziO _) I3 (sub.trans (zU J _)) (by rw [zH Y];exact z) ⟨_,zg6 _ rfl,rfl,rfl⟩ fp zE ⟨⟨rfl,rfl,rfl⟩,#[],0,rfl,rfl,List.nodup_nil⟩ rfl (λx hx=>nomatch hx) .nil λs' o' ah a1 a2 a3 a4 I4=>?_;rw [yK]at I4;exact⟨rfl,hQ s' _ o' ah J ac a1 a2 a3 a4 I4⟩
end
theorem yx{K:PySem.W.Frag}{H:Hp}{d:D}{k:List Int}{v:V}(e:Vp d=some k)(r:Rep K H d v) : ∃b,v = .ref b/\SqT K H b (k.map V.int):=by
 cases d with
 | tup ds=>
  obtain⟨b,zs,rfl,z,I⟩:=xn r;have:=wn e I;refine⟨b,rfl,?_⟩;rw [this]at z;simpa [kV,zhU,zjG]using z
 | _=>cases e
theorem vT{K:PySem.W.Frag}{H:Hp} : ∀{ps ks vs:List D} {xs:List V} {ns:List (List Int)},xm ps=some (ks,vs)->Reps K H ps xs->XO ks=some ns->
 ∃ys,Reps K H vs ys/\ys.length=ns.length/\xs.length=ns.length/\∀(n:Nat) (h1:n<xs.length) (h2:n<ns.length) (z:n<ys.length),∃p b,xs[n] = .ref p/\SqT K H p [.ref b,ys[n]]/\SqT K H b (ns[n].map V.int)
 | [],ks,vs,xs,ns,h,r,hi=>by
  cases h;cases hi;rw [r.inv_nil];exact⟨[],Reps.nil,rfl,rfl,λn h1=>by cases h1⟩
 | d::ps,ks,vs,xs,ns,h,r,hi=>by
  unfold xm at h;split at h
  ·split at h
   ·rename_i k v
    obtain⟨⟨a,b⟩,e1,I⟩:=zB h;cases I;obtain⟨x,xr,rfl,h1,h2⟩:=r.inv_cons;obtain⟨j,J,O⟩:=bind_some hi;obtain⟨nr,Q,S⟩:=zB O;subst S;obtain⟨ys,U,Y,Z,i4⟩:=vT e1 h2 Q;obtain⟨q,zs,rfl,z,h4⟩:=xn h1;obtain⟨y1,yr,rfl,h5,h6⟩:=h4.inv_cons;obtain⟨y2,af,rfl,h7,h8⟩:=h6.inv_cons;obtain⟨kb,rfl,a8⟩:=yx J h5;rw [h8.inv_nil]at z;refine⟨y2::ys,Reps.cons h7 U,by simp [Y],by simp [Z],λn g1 g2 g3=>?_⟩;cases n with
    | zero=>exact⟨q,kb,rfl,z,a8⟩
    | succ n=>exact i4 n (by simpa using g1) (by simpa using g2) (by simpa using g3)
   ·cases h
  ·cases h
section
variable{X:Cx}{sc:Scope}{N L:List Str}{k:Nat}{a o i:Expr}{f:CO (List D)}{fd fk:CO D}{p pos:Pos}
theorem Qv(h:SX X sc N L k)(cd:wo sc "dict" = true)(zd:X.mg "dict" = none)(ha:PO X a f)(hs:starEach [a] X.env=[(false,eval a X.env)]:=by rfl) :
 PV X (.Call (.Name "dict" p) [a] [] pos) (vY f):=by
 intro pins s σ H Q I S;obtain⟨H0,γ,d,rc,J,q⟩:=S;obtain⟨ps,e1,J⟩:=bind_some J;obtain⟨⟨ds,es⟩,e2,J⟩:=bind_some J;obtain⟨ks,e3,J⟩:=bind_some J;have hh:X.A.handled=none:=I.ok.hd h.calm;by_cases U:ks.Nodup/\ks.length<=lim
 ·rw [if_pos U]at J
  cases J;refine Call_ (xX I (h.gl cd).1 zd PyProof.Rows.boot_dict (zhA ?_ (by rw [hs];rfl) rfl));rw [hs];show wpAny _ _ (spliced ((false,eval a X.env)::[])) _ _ s;refine zi9 (thn (ha pins s σ H (λv H1=>∃l xs z,v = .ref l/\Ext H0 H z H1/\z l=none/\H1 l=some (.lst xs)/\Reps X.K z ps xs) I ⟨H0,γ,ps,rc,e1,λl xs H1 z x1 g1 g2 Y Z=>⟨l,xs,z,rfl,x1,g2,Y,Z⟩⟩) λv s1 S=>?_);obtain⟨y,H1,I1,ry,l,xs,z,rfl,x1,g2,Y,Z⟩:=S;cases ry;refine zjW ?_;obtain⟨ys,r1,r2,r3,r4⟩:=vT e2 Z e3;have:lim<=sizeLine:=by decide
  refine X0 (H0:=z) (ks:=ks) (ys:=ys) (xs:=xs) I1 hh h.u64 x1.sub Y r3 r2 U.1 r4 ⋯ λs' p ob zs O ah a1 a2 a3 a4 I3=>?_;have a6:Same z (upd z p (atO p ob)):=zU (jv x1.sub O) _;exact⟨.ref p,_,I3,rfl,q (.ref p) _ _ ((x1.trans (Ext.hide x1.sub O _)).show (yX x1.s1 O) (jv x1.sub O) zE rc.sub)
   (show ∃a xs,V.ref p = .ref a/\DRt X.K (upd z p _) a ks xs/\Reps X.K (upd z p _) es xs from⟨p,ys,rfl,⟨ah,ob,zs,zE,a1,a2,by have:=congrArg List.length a2;rw [zhk]at this;omega,λx hx=>sameT a6 (a3 x hx),a4⟩,r1.mono a6⟩)⟩
 ·rw [if_neg U]at J;cases J
end
theorem JV{K:PySem.W.Frag}{H:Hp}{i:List Int} : ∀{xs:List (List Int×Addr×Value)} {vs:List D} {ys:List V},Reps K H vs ys->Vals ys (xs.map (·.2.2))->
 (∀d,XW (xs.map (·.1)) vs i=some d->∃y p,atKey xs i=some p/\Rep K H d y/\RelV y p.2)/\(XW (xs.map (·.1)) vs i=none->atKey xs i=none)
 | [],vs,ys,r,v=>⟨(λd q=>by cases q),λ_=>rfl⟩
 | x::xs,vs,ys,r,v=>by
  cases v with
  | cons I J=>
   cases vs with
   | nil=>have:=r.inv_nil;cases this
   | cons d vs=>
    obtain⟨y,Q,e,h1,h2⟩:=r.inv_cons;cases e;have O:=JV (i:=i) h2 J;by_cases hx:x.1=i
    ·have e1:atKey (x::xs) i=some x.2:=by unfold atKey;rw [List.find?_cons_of_pos (by simpa using hx)];rfl
     have z:XW ((x::xs).map (·.1)) (d::vs) i=some d:=by show(if x.1=i then _ else _)=_;rw [if_pos hx]
     rw [e1,z];exact⟨λd' q=>by cases q;exact⟨_,x.2,rfl,h1,I⟩,λq=>by cases q⟩
    ·have e1:atKey (x::xs) i=atKey xs i:=by unfold atKey;rw [List.find?_cons_of_neg (by simpa using hx)]
     have z:XW ((x::xs).map (·.1)) (d::vs) i=XW (xs.map (·.1)) vs i:=by show(if x.1=i then _ else _)=_;rw [if_neg hx]
     rw [e1,z];exact O
section
variable{X:Cx}{sc:Scope}{N L:List Str}{k:Nat}{a b o i:Expr}{fd fk fx:CO D}{p pos apos cpos:Pos}
theorem KQ(h:SX X sc N L k)(ho:PV X o fd)(hi:PV X i fk)(hs:zgt i:=by intro _ _;rfl):PV X (.Subscript o i pos) (Xs fd fk):=by
 intro pins s σ H Q I S;obtain⟨H0,γ,d,rc,J,q⟩:=S;obtain⟨d1,e1,J⟩:=bind_some J;obtain⟨k1,e2,J⟩:=bind_some J;cases d1 with
 | dct ks vs=>
  obtain⟨j,e3,e4⟩:=bind_some J;refine zaQ PySem.F.slot_dict_getitem.lookup hs (thn (ho pins s σ H (λv H1=>∃z,Ext H0 H z H1/\Rep X.K z (.dct ks vs) v) I ⟨H0,γ,_,rc,e1,λv H1 z x r=>⟨z,x,r⟩⟩) λu s1 S=>?_);obtain⟨v,H1,I1,r1,z,x1,rp⟩:=S;refine thn (hi pins s1 σ H1 (λv H2=>∃O,Ext z H1 O H2/\Rep X.K O k1 v) I1 ⟨z,γ,_,rc.ext x1,e2,λv H2 O x r=>⟨O,x,r⟩⟩) λu2 s2 S=>?_;obtain⟨v2,H2,Y,r2,O,U,ab⟩:=S;obtain⟨ad,ys,rfl,⟨g0,ob,zs,g1,g2,g3,g4,g5,g6⟩,g7⟩:=(show ∃a xs,v = .ref a/\DRt X.K z a ks xs/\Reps X.K z vs xs from rp);subst g3;cases (show u=zhv ad from r1);obtain⟨b,rfl,hb⟩:=yx e3 ab;cases (show u2=zhv b from r2);have Z:Same z H2:=U.s0.trans U.sub;have dH:=vh Y (Z _ _ g1) g2 λx hx=>sameT Z (g5 x hx);obtain⟨y,p,c1,c2,c3⟩:=(JV (g7.mono U.s0) g6).1 d e4;exact⟨dH.typeIs,wpAny_getItem_heap (zkL (by have:=h.u64;omega)) (kl Y (sameT U.sub hb)) dH c1 ⟨y,H2,Y.tok _,c3,q y H2 O (x1.trans U) c2⟩⟩
 | _=>cases J
theorem JB(h:SX X sc N L k)(ho:PV X o fd)(ha:PV X a fk)(hb:PV X b fx)(m:M2 X o "get" apos a b cpos:=by exact⟨by rfl,by rfl,by rfl,by rfl⟩):PV X (.Call (.Attribute o "get" apos) [a,b] [] cpos) (ZB fd fk fx):=by
 intro pins s σ H Q I S;obtain⟨H0,γ,d,rc,J,q⟩:=S;obtain⟨d1,e1,J⟩:=bind_some J;obtain⟨k1,e2,J⟩:=bind_some J;obtain⟨w1,e5,J⟩:=bind_some J;cases d1 with
 | dct ks vs=>
  obtain⟨j,e3,e4⟩:=zB J;subst e4;refine wpAny_Call_method m.base m.few m.line PySem.F.plainAttrs_dict PySem.F.slot_dict_get PySem.F.type_dict_get (thn (ho pins s σ H (λv H1=>∃z,Ext H0 H z H1/\Rep X.K z (.dct ks vs) v) I ⟨H0,γ,_,rc,e1,λv H1 z x r=>⟨z,x,r⟩⟩) λu s1 S=>?_);obtain⟨v,H1,I1,r1,z,x1,rp⟩:=S;obtain⟨ad,ys,rfl,⟨g0,ob,zs,g1,g2,g3,g4,g5,g6⟩,g7⟩:=(show ∃a xs,v = .ref a/\DRt X.K z a ks xs/\Reps X.K z vs xs from rp);subst g3;cases (show u=zhv ad from r1);have a4:=vh I1 (x1.sub _ _ g1) g2 λx hx=>sameT x1.sub (g5 x hx);refine⟨a4.typeIs,dictOfH_noDict a4,?_⟩;rw [m.trees];refine Calls.callWith_builtin rfl (Calls.evalArgs_plain (zi9 (thn (ha pins s1 σ H1 (λv H2=>∃U,Ext z H1 U H2/\Rep X.K U k1 v) I1 ⟨z,γ,_,rc.ext x1,e2,λv H2 U x r=>⟨U,x,r⟩⟩) λu2 s2 S=>?_)));obtain⟨v2,H2,I2,r2,U,x2,ao⟩:=S;refine zi9 (thn (hb pins s2 σ H2 (λv O=>∃Y,Ext U H2 Y O/\Rep X.K Y w1 v) I2 ⟨U,γ,_,(rc.ext x1).ext x2,e5,λv O Y x r=>⟨Y,x,r⟩⟩) λu3 s3 S=>zjW ?_);obtain⟨v3,O,I3,r3,Y,x3,aq⟩:=S;obtain⟨kb,rfl,ar⟩:=yx e3 ao;cases (show u2=zhv kb from r2);have Z:=x2.trans x3;have a8:Same z O:=Z.s0.trans Z.sub;have dH:=vh I3 (a8 _ _ g1) g2 λx hx=>sameT a8 (g5 x hx);refine call_meetsIn PySem.F.slot_dict_get dH.typeIs PySem.F.entry_dict_get (PySem.F.args_dict_get_3 _ _ _) (meetsH_dict_get_default (tupleKind (intKind X.prog X.w)) ad kb g0 u3) ⟨zkL (by have:=h.u64;omega),j,zs,kl I3 (sameT (x3.s0.trans x3.sub) ar),dH,?_⟩;obtain⟨c1,c2⟩:=JV (i:=j) (g7.mono Z.s0) g6;cases hv:XW (zs.map (·.1)) vs j with
  | none=>
   rw [hv]at q;rw [c2 hv];exact⟨v3,O,I3.tok _,r3,q v3 O Y (x1.trans Z) aq⟩
  | some dv=>
   rw [hv]at q;obtain⟨y,p,f1,f2,f3⟩:=c1 dv hv;rw [f1];exact⟨y,O,I3.tok _,f3,q y O Y (x1.trans Z) f2⟩
 | _=>cases J
end
section
variable{prog:Program}{w:World}{A:Around}{E:Value->Shared->Prop}{s:Shared}{d it:Addr}{o:Obj}{es:Array DictEntry}{i n ep:Nat}
theorem Ys{Q:Value->Shared->Prop}(hd:(d==sysModules)=false)(z:s.heap.get? d=some o)(hx:o.ExactDict)(J:o.data = .dict es ep)(O:es.size=n)
 (S:Q (.ref s.heap.objs.size) {s with heap:=s.heap.push {cls:= .type "dict_keyiterator",data:= .fields #[.ref d,.int 0 0,.int n 0,.int ep 0]}}):wpAny (model prog w) A (pyIter (.ref d)) Q E s:=by
 have I:s.TypeIs (.ref d) "dict":=⟨o,z,hx.1⟩;refine zkO I F.slot_dict_iter (zhH F.slot_dict_iter I F.entry_dict_iter ?_ (F.args_dict_iter_1 _));unfold Builtin.«dict.__iter__»;refine zgV ?_;unfold Builtin.Dict.dictSlotNone;refine zgV (zjz I ?_);show wpAny _ _ (pure (zhv d)) _ _ s;refine zg1 ?_;show wpAny _ _ (zjP d >>= _) _ _ s;unfold zjP;rw [if_neg (by rw [hd];exact zhf)];refine zgV (zg1 ?_);refine zgV (ziP z J ?_);refine zgV (zjR z J ?_);refine zgV (zho (zg1 ⟨_,rfl,"dict_keyiterator",_,⟨_,zg6 _ rfl,rfl⟩,ziy.lookup,?_⟩));simpa [rawInt,O]using S
theorem Wg{Q:Option Value->Shared->Prop}(z:s.heap.IsKeyIter it d i n ep)(J:s.heap.get? d=some o)(O:o.data = .dict es ep)(hsz:es.size=n)(U:i<es.size)
 (Y : ∀h',h'.IsKeyIter it d (i+1) n ep->ziD it s.heap h'->Q (some es[i].key) {s with heap:=h'}):wpAny (model prog w) A (pyNext (.ref it)) Q E s:=by
 obtain⟨o,I,Z,hd⟩:=id z;unfold pyNext;refine zgV (zi4 (zhN (name:=zhK "__next__") z.typeIs ziy
  (zhH ziy z.typeIs zkQ ?_ (zkN _))))
 refine zgV (zg1 ?_);refine zgV ?_;refine zgV ?_;refine zgV (ziU z.typeIs (zg1 ?_));refine zgV (wpAny_fieldsOf I hd ?_);have a0:zj5 "dict_keyiterator" = false:=by decide
 simp only [a0,zir,if_false];show wpAny _ _ (if (zhv d==zii)=true then _ else _) _ _ s;rw [if_neg (show ¬((zhv d==zii)=true)from zhf)];refine zgV (zg1 ?_);refine zgV (ziP J O ?_);rw [if_neg (by rw [hsz];simp)];refine zgV (zg1 ?_);refine zgV (zjR J O ?_);rw [if_neg ⋯];refine zg1 ?_;simp only [show ¬((i:Int)<0)from by omega,if_false,zh1,ziE U];refine zgV ?_;refine zgV (ziU z.typeIs (zg1 ?_));refine zgV (wpAny_isOneOf_keyiter z.typeIs ?_);show wpAny _ _ (setField (.ref it) 1 (rawInt ((i:Int)+1)) >>= _) _ _ s;refine zgV (zkx I hd ⋯ ?_);have S:(s.heap.update it (Obj.mapFields (·.setIfInBounds 1 (rawInt ((i:Int)+1))))).IsKeyIter it d (i+1) n ep:=
  ⟨_,ziZ _ I (zkg (zjg hd _)),(zkB ..).trans Z,by rw [zjg hd];simp [rawInt]⟩
 refine zgV (zi3 ?_);refine zgV (wpAny_isOneOf_keyiter (s:={s with heap:=s.heap.update it (Obj.mapFields (·.setIfInBounds 1 (rawInt ((i:Int)+1))))}) S.typeIs ?_);show wpAny _ _ (pure es[i].key) _ _ _;exact zg1 (zg1 ⟨_,rfl,zg1 (Y _ S (zjn ..))⟩)
theorem ZQ{Q:Option Value->Shared->Prop}(S:A.handled=none)(z:s.heap.IsKeyIter it d i n ep)(I:s.heap.get? d=some o)(J:o.data = .dict es ep)(hsz:es.size=n)(U:es.size<=i)
 (Y : ∀h',Heap.ExtBut it s.heap h'->Q none {s with heap:=h'}):wpAny (model prog w) A (pyNext (.ref it)) Q E s:=by
 obtain⟨o,O,hc,hd⟩:=id z;unfold pyNext;refine zgV (zi4 (zhN (name:=zhK "__next__") z.typeIs ziy
  (zhH ziy z.typeIs zkQ ?_ (zkN _))))
 refine zgV (zg1 ?_);refine zgV ?_;refine zgV ?_;refine zgV (ziU z.typeIs (zg1 ?_));refine zgV (wpAny_fieldsOf O hd ?_);have Z:zj5 "dict_keyiterator" = false:=by decide
 simp only [Z,zir,if_false];show wpAny _ _ (if (zhv d==zii)=true then _ else _) _ _ s;rw [if_neg (show ¬((zhv d==zii)=true)from zhf)];refine zgV (zg1 ?_);refine zgV (ziP I J ?_);rw [if_neg (by rw [hsz];simp)];refine zgV (zg1 ?_);refine zgV (zjR I J ?_);rw [if_neg ⋯];refine zg1 ?_;simp only [show ¬((i:Int)<0)from by omega,if_false,zh1,Array.getElem?_eq_none U];refine zgV ?_;refine zgV (ziU z.typeIs (zg1 ?_));show wpAny _ _ (setField (.ref it) 0 .none >>= _) _ _ s;refine zgV (zkx O hd ⋯ ?_);show wpAny _ _ (newExc (.type "StopIteration") [] >>= _) _ _ _;refine zgV ?_;simp only [newExc,newTuple];refine zgV (zho ?_ (by size_fits));refine zgV (m:=firstArgMember _ _) (ziC (a:=zii) (by first | rfl | (simp only [firstArgMember];rfl)) ?_);refine zho ?_ (by size_fits);simp only [raiseNew];refine zgV (wpAny_handled ?_);rw [show A.in1.handled=none from S];refine zgV (zg1 (wpAny_throw ?_));refine zgV (ziV (T:="StopIteration") (b:=true) ⟨_,zg6 _ rfl,rfl⟩ isSubtype_stop ?_);exact zg1 (Y _ (((zjn ..).extBut.push _).push _))
end
def Itd(a:Addr)(o:Obj)(xs:List (List Int×Addr×Value)):It:=⟨λi H=>H a=some (atO a o)/\i<xs.length,λi H x H'=>H'=H/\∃e,xs[i]? = some e/\x = .ref e.2.1,λi H=>H a=some (atO a o)/\xs.length<=i⟩
theorem Kh{P:Program}{w:World}{K:PySem.W.Frag}{tg:Expr}{a:Addr}{o:Obj}{xs:List (List Int×Addr×Value)}{es:Array DictEntry}{ep:Nat}(hd:o.data = .dict es ep)(O:es.toList=xs.map (λx=>⟨Kk x.1,.ref x.2.1,x.2.2⟩))(it:Addr) :
 Turn P w K tg (Itd a o xs) [it] it (λi h=>h.IsKeyIter it a i xs.length ep) where
 mem:=by simp
 obj:=λi h st b z=>by
  have e:b=it:=by simpa using z
  subst e;obtain⟨o,e,c,d⟩:=st;exact⟨o,e,λv q=>by rw [d]at q;cases q⟩
 keep:=λi h h' st k=>by obtain⟨o,e,r⟩:=st;exact⟨o,k it ⋯ o e,r⟩
 item:=by
  rintro X rfl rfl rfl hc i pins s σ H E I J st S;obtain⟨U,Y,f2,Z,f4,f5⟩:=J it ⋯;obtain⟨ha,hi⟩:=S;obtain⟨ho,_⟩:=(show ObjOk X.prog X.w H s.heap a (atO a o)from I.hok a _ ha);have hsz:es.size=xs.length:=by rw [<- zib,O,zhk]
  have a4:i<es.size:=by omega
  have ek:es[i].key = .ref (xs[i]).2.1:=by
   have:es[i]? = some ⟨Kk xs[i].1,.ref xs[i].2.1,xs[i].2.2⟩:=by rw [<- ziW,O,zhD,zg0 hi];rfl
   rw [ziE a4]at this;rw [zhS this]
  refine Wg st ho hd hsz a4 λh' a5 sb=>⟨_,rfl,?_⟩;rw [ek];have I1:Inv X pins σ H {s with heap:=h'}:=I.turned (t':=s.toks) (λb o z e=>(sb.2 b z).trans e) U Y Z f4 f5;obtain⟨oi,e,c,d⟩:=id a5;exact YC (s:={s with heap:=h'}) e c d ⋯ ⟨.ref xs[i].2.1,H,I1,rfl,⟨rfl,xs[i],zg0 hi,rfl⟩,a5,λb z=>(J b z).1⟩
 done:=by
  rintro X rfl rfl rfl hc i pins s σ H E I J st S;obtain⟨U,Y,f2,Z,f4,f5⟩:=J it ⋯;obtain⟨ha,hi⟩:=S;obtain⟨ho,_⟩:=(show ObjOk X.prog X.w H s.heap a (atO a o)from I.hok a _ ha);have hsz:es.size=xs.length:=by rw [<- zib,O,zhk]
  exact ZQ (I.ok.hd hc) st ho hd hsz ⋯ λh' eb=>⟨rfl,I.turned (t':=s.toks) (λb o z e=>eb b o z e) U Y Z f4 f5⟩
 self:=λA i s Q E st h=>wpAny_pyIter_keyiter st h
theorem kK{K:PySem.W.Frag}{H:Hp} : ∀zs:List Int,Reps K H (zs.map D.int) (zs.map V.int)
 | []=>Reps.nil
 | z::zs=>Reps.cons (show V.int z = .int z from rfl) (kK zs)
theorem Ke{K:PySem.W.Frag}{H0 Hs:Hp}{a:Addr}{o:Obj}{xs:List (List Int×Addr×Value)}(h:Hs a=some (atO a o))(J : ∀x∈xs,SqT K H0 x.2.1 (x.1.map V.int)):Walk K H0 Hs (Itd a o xs) ((xs.map (·.1)).map λk=> .tup (k.map .int)):=by
 have z:((xs.map (·.1)).map λk=>D.tup (k.map .int)).length=xs.length:=by simp
 refine⟨λi H1 s hi=>?_,λH1 s=>?_,λi H1 x H1' s hi y=>?_⟩
 ·rw [z]at hi;exact⟨s _ _ h,hi⟩
 ·rw [z];exact⟨s _ _ h,zg3 _⟩
 ·obtain⟨rfl,e,I,rfl⟩:=y
  refine⟨.tup (e.1.map .int),by simp [I],λG0 s1 s2=>⟨G0,Ext.refl s2,?_⟩⟩;exact qa (sameT s1 (J e (zit I))) (kK _)
section
variable{X:Cx}{tg a:Expr}{f:CO D}
theorem V6(ha:PV X a f):PIF X tg a (Xr f):=by
 intro pins s σ H R I Q;obtain⟨H0,γ,ds,rc,J,q⟩:=Q;obtain⟨d,Z,J⟩:=bind_some J;cases d with
 | dct ks vs=>
  cases J;refine thn (ha pins s σ H (λv H1=>∃z,Ext H0 H z H1/\Rep X.K z (.dct ks vs) v) I ⟨H0,γ,_,rc,Z,λv H1 z x r=>⟨z,x,r⟩⟩) λu s1 Q=>?_;obtain⟨v,H1,O,r1,z,x1,rp⟩:=Q;obtain⟨ad,ys,rfl,⟨g0,ob,zs,S,⟨g2,es,ep,U,Y,_⟩,g3,g4,g5,g6⟩,g7⟩:=(show ∃a xs,v = .ref a/\DRt X.K z a ks xs/\Reps X.K z vs xs from rp);subst g3;cases (show u=zhv ad from r1);obtain⟨ho,_⟩:=(show ObjOk X.prog X.w H1 s1.heap ad (atO ad ob)from O.hok ad _ (x1.sub _ _ S));refine Ys g0 ho g2 U (by rw [<- zib,Y,zhk]) ?_;refine⟨s1.heap.objs.size,[s1.heap.objs.size],_,_,H1,rfl,O.kept (t':=s1.toks) λb o e=>zgY _ e,Kh U Y _,⟨_,zg6 _ rfl,rfl,rfl⟩,λb hb=>?_,q _ H1 z x1 (Ke S g5)⟩;have e:b=s1.heap.objs.size:=by simpa using hb
  subst e;exact O.fpOk (zg3 _) (O.hok.fresh (zg3 _))
 | _=>cases J
end
def YD:List (List Int)->List Int->List Int->Option Int
 | k::ks,n::ns,i=>if k=i then some n else YD ks ns i
 | _,_,_=>none
def eqT(ks:List (List Int))(ns:List Int)(z:List (List Int))(I:List Int):Bool:=decide (ks.length=z.length) && (ks.zip ns).all λx=>decide (YD z I x.1=some x.2)
def zbX(d e:D):Option Bool:=match d with
 | .dct ks vs=>match e with
  | .dct z I=>(ye vs).bind λns=>(ye I).map λJ=>eqT ks ns z J
  | _=>none
 | _=>none
@[simp] def zgU(d e:D):Option D:=(zbX d e).map D.bl
@[simp] def zaE(d e:D):Option D:=(zbX d e).map λb=>D.bl (!b)
def IntV:List (List Int×Addr×Value)->List Int->Prop
 | [],[]=>True
 | x::xs,n::ns=>(∃t,x.2.2 = .int n t)/\IntV xs ns
 | _,_=>False
theorem JR{K:PySem.W.Frag}{H:Hp} : ∀{xs:List (List Int×Addr×Value)} {vs:List D} {ys:List V} {ns:List Int},ye vs=some ns->Reps K H vs ys->Vals ys (xs.map (·.2.2))->IntV xs ns
 | [],vs,ys,ns,e,r,v=>by
  cases v;cases vs with
  | nil=>cases e;trivial
  | cons d vs=>obtain⟨_,_,q,_⟩:=r.inv_cons;cases q
 | x::xs,vs,ys,ns,e,r,v=>by
  cases v with
  | cons z I=>
   cases vs with
   | nil=>have:=r.inv_nil;cases this
   | cons d vs=>
    obtain⟨y,Q,q,h1,h2⟩:=r.inv_cons;cases q;cases d with
    | int j=>
     obtain⟨S,J,O⟩:=zB e;subst O;rw [jE h1]at z;exact⟨z,JR J h2 I⟩
    | _=>cases e
theorem IntV.length : ∀{xs:List (List Int×Addr×Value)} {ns:List Int},IntV xs ns->ns.length=xs.length
 | [],[],_=>rfl
 | x::xs,n::ns,h=>by simp [h.2.length]
theorem IntV.at : ∀{xs:List (List Int×Addr×Value)} {ns:List Int} (h:IntV xs ns) {i:Nat} {x:List Int×Addr×Value},xs[i]? = some x->∃n t,ns[i]? = some n/\x.2.2 = .int n t
 | x::xs,n::ns,h,0,y,e=>by cases e;obtain⟨t,q⟩:=h.1;exact⟨n,t,rfl,q⟩
 | x::xs,n::ns,h,i+1,y,e=>h.2.at (i:=i) (by simpa using e)
theorem IntV.get : ∀{xs:List (List Int×Addr×Value)} {ns:List Int},IntV xs ns->(xs.map (·.1)).Nodup->∀{k:List Int},(∀(j:Nat) (p:Addr×Value),xs[j]? = some (k,p)->∃n t,YD (xs.map (·.1)) ns k=some n/\p.2 = .int n t)/\((∀(j:Nat) (p:Addr×Value),xs[j]? ≠ some (k,p))->YD (xs.map (·.1)) ns k=none)
 | [],[],_,_,k=>⟨λj p e=>by simp at e,λ_=>rfl⟩
 | x::xs,n::ns,h,nd,k=>by
  have z:=zjb.mp nd;obtain⟨J,O⟩:=h.2.get z.2 (k:=k);have Q:YD ((x::xs).map (·.1)) (n::ns) k=if x.1=k then some n else YD (xs.map (·.1)) ns k:=rfl;rw [Q];by_cases hx:x.1=k
  ·rw [if_pos hx]
   refine⟨λj p e=>?_,λq=>absurd (show(x::xs)[0]? = some (k,x.2)by rw [<- hx];rfl) (q 0 x.2)⟩;cases j with
   | zero=>
    have:x=(k,p):=by simpa using e
    obtain⟨t,I⟩:=h.1;exact⟨n,t,rfl,by rw [this]at I;exact I⟩
   | succ j=>
    exfalso;have S:xs[j]? = some (k,p):=by simpa using e
    exact z.1 (zhr.mpr ⟨(k,p),zit S,hx.symm⟩)
  ·rw [if_neg hx]
   refine⟨λj p e=>?_,λq=>O λj p e=>q (j+1) p (by simpa using e)⟩;cases j with
   | zero=>
    have:x=(k,p):=by simpa using e
    exact absurd (by rw [this]) hx
   | succ j=>exact J j p (by simpa using e)
section
variable{prog:Program}{w:World}{A:Around}{E:Value->Shared->Prop}{s:Shared}{a b:Addr}{oa ob:Obj}{xs ys:List (List Int×Addr×Value)}{ns ms:List Int}
theorem Xq{id:String}{Q:Bool->Shared->Prop}(hu:A.units<cLine)(sa:(a==sysModules)=false)(sb:(b==sysModules)=false)(ha:s.heap.get? a=some oa)(Y:s.heap.get? b=some ob)(da:X7 oa xs)(db:X7 ob ys)
 (ka : ∀x∈xs,(tupleKind (intKind prog w)).is s.heap x.1 x.2.1) (kb : ∀x∈ys,(tupleKind (intKind prog w)).is s.heap x.1 x.2.1) (Z:IntV xs ns) (vb:IntV ys ms) (J:Q (eqT (xs.map (·.1)) ns (ys.map (·.1)) ms) s) :
 wpAny (model prog w) A (zjH id a b) Q E s:=by
 obtain⟨a1,es,ep,O,a3,a4⟩:=da;obtain⟨b1,fs,fp,b2,b3,b4⟩:=db;have a5:es.size=xs.length:=by rw [<- zib,a3,zhk]
 have a6:fs.size=ys.length:=by rw [<- zib,b3,zhk]
 unfold zjH zjP;rw [if_neg (by rw [sa];exact zhf),if_neg (by rw [sb];exact zhf)];refine zgV (zg1 ?_);refine zgV (zg1 ?_);refine zgV (ziP ha O ?_);refine zgV (ziP Y b2 ?_);by_cases S:xs.length=ys.length
 ·rw [if_neg (by rw [a5,a6,S];simp)]
  refine zgV (zjR ha O ?_);refine zgV ?_;rw [Std.Legacy.Range.forIn_eq_forIn_range'];simp only [Std.Legacy.Range.size,Nat.sub_zero,Nat.add_sub_cancel,Nat.div_one];let ok:List Int×Int->Bool:=λx=>decide (YD (ys.map (·.1)) ms x.1=some x.2);have aw:((xs.map (·.1)).zip ns).length=xs.length:=by have:=Z.length;simp;omega
  have a7:eqT (xs.map (·.1)) ns (ys.map (·.1)) ms=((xs.map (·.1)).zip ns).all ok:=by
   unfold eqT;rw [decide_eq_true (by simpa using S),Bool.true_and]
  refine wpAny_forIn_list _ (λrest r s'=>s'=s/\r=(none,())/\∃i,rest=ziz i (es.size - i)/\i<=es.size/\(((xs.map (·.1)).zip ns).take i).all ok=true) _ ?_ ?_ _ _ ⟨rfl,rfl,0,by simp,zh7 _,rfl⟩
  ·rintro x rest r s' ⟨rfl,rfl,i,I,hi,hok⟩
   have aj:i<es.size:=by
    rcases zhd i es.size with h | h
    ·exact h
    ·rw [Nat.sub_eq_zero_of_le h]at I;simp at I
   obtain⟨rfl,ak⟩:x=i/\rest=ziz (i+1) (es.size - (i+1)):=by
    have e:es.size - i=(es.size - (i+1))+1:=by omega
    rw [e,zia]at I;injection I with h1 h2;exact⟨h1,h2⟩
   have U:x<xs.length:=by omega
   have al:es[x]? = some ⟨Kk xs[x].1,.ref xs[x].2.1,xs[x].2.2⟩:=by rw [<- ziW,a3,zhD,zg0 U];rfl
   obtain⟨n,t,hn,hv⟩:=Z.at (zg0 U);have hz:((xs.map (·.1)).zip ns)[x]? = some (xs[x].1,n):=List.getElem?_zip_eq_some.mpr ⟨by rw [zhD,zg0 U];rfl,hn⟩;have ao:((xs.map (·.1)).zip ns).take (x+1)=((xs.map (·.1)).zip ns).take x++[(xs[x].1,n)]:=by rw [List.take_succ,hz];rfl
   have ap:(xs[x].1,n)∈(xs.map (·.1)).zip ns:=zit hz;refine zgV (ziP ha O ?_);rw [al];refine zgV (zi3 ?_);obtain⟨g1,g2⟩:=vb.get b4 (k:=xs[x].1);have a9:ok (xs[x].1,n)=false->Q false s':=λz=>by
    have:((xs.map (·.1)).zip ns).all ok=false:=List.all_eq_false.mpr ⟨_,ap,by rw [z];decide⟩;rw [<- this,<- a7];exact J
   refine zgV (wpAny_dictFind_heap (knd:=tupleKind (intKind prog w)) hu (ka _ (zis U)) Y b2 b3 kb b4 (λar=>?_) λj p hj=>?_)
   ·refine zg1 ?_
    show wpAny _ _ (pure (ForInStep.done (some false,()))) _ _ _;refine zg1 (zg1 (a9 ?_));show decide (YD (ys.map (·.1)) ms xs[x].1=some n)=false;rw [g2 ar];rfl
   ·obtain⟨n',t',h1,h2⟩:=g1 j p hj
    have as:fs[j]? = some ⟨Kk xs[x].1,.ref p.1,p.2⟩:=by rw [<- ziW,b3,zhD,hj];rfl
    refine zgV (ziP Y b2 ?_);rw [as];refine zi3 ?_;dsimp only;rw [hv,h2];refine wpAny_eqBool_int ?_;have eo:ok (xs[x].1,n)=(n==n'):=by
     show decide (YD (ys.map (·.1)) ms xs[x].1=some n)=_;rw [h1];by_cases q:n=n'
     ·subst q;simp
     ·simp [q,zhO q]
    by_cases q:(n==n')=true
    ·rw [q]
     refine zgV (zjR ha O ?_);rw [if_neg ⋯];refine zg1 ⟨rfl,rfl,x+1,ak,aj,?_⟩;rw [ao,List.all_append,hok];simp [eo,q]
    ·rw [Bool.eq_false_iff.mpr q]
     show wpAny _ _ (pure (ForInStep.done (some false,()))) _ _ _;exact zg1 (zg1 (a9 (by rw [eo];exact Bool.eq_false_iff.mpr q)))
  ·rintro r s' ⟨rfl,rfl,i,I,hi,hok⟩
   have ax:i=es.size:=by
    rcases zhd i es.size with h | h
    ·have e:es.size - i=(es.size - (i+1))+1:=by omega
     rw [e,zia]at I;exact nomatch I
    ·exact Nat.le_antisymm hi h
   refine zg1 ?_;rw [zih ⋯]at hok;rw [a7,hok]at J;exact J
 ·rw [if_pos (by rw [a5,a6];simpa using S)]
  have:eqT (xs.map (·.1)) ns (ys.map (·.1)) ms=false:=by
   unfold eqT;rw [decide_eq_false (by simpa using S),Bool.false_and]
  rw [this]at J;exact zgV (zji (zg1 J))
end
def zf6(K:PySem.W.Frag):R2:=λx y H Q=>∃H0 dx z b,Same H0 H/\Rep K H0 dx x/\Rep K H0 z y/\zbX dx z=some b/\Q (.bl (!b)) H
theorem WL{X:Cx}{pins:List (Addr×Obj)}{σ:St}{H0 H:Hp}{s:Shared}{dx z:D}{x y:V}{v u:Value}{b:Bool}(I:Inv X pins σ H s)(sub:Same H0 H)(S:Rep X.K H0 dx x)(r2:Rep X.K H0 z y)(U:RelV x v)(Y:RelV y u)(e:zbX dx z=some b) :
 ∃a c,v = .ref a/\u = .ref c/\s.TypeIs (.ref a) "dict"/\s.TypeIs (.ref c) "dict"/\∀{A:Around} {E:Value->Shared->Prop} {Q:Bool->Shared->Prop} {id:String},A.units<cLine->Q b s->wpAny (model X.prog X.w) A (zjH id a c) Q E s:=by
 cases dx with
 | dct ks vs=>
  cases z with
  | dct Z a0=>
   obtain⟨ns,e1,e2⟩:=bind_some e;obtain⟨ms,e3,e4⟩:=zB e2;subst e4;obtain⟨a,ys,rfl,⟨g0,oa,zs,g1,g2,g3,g4,g5,g6⟩,g7⟩:=(show ∃a xs,x = .ref a/\DRt X.K H0 a ks xs/\Reps X.K H0 vs xs from S);obtain⟨c,ah,rfl,⟨f0,oc,ai,f1,J,f3,f4,f5,f6⟩,f7⟩:=(show ∃a xs,y = .ref a/\DRt X.K H0 a Z xs/\Reps X.K H0 a0 xs from r2);subst g3 f3;have ha:=(show ObjOk X.prog X.w H s.heap a (atO a oa)from I.hok a _ (sub _ _ g1)).1;have O:=(show ObjOk X.prog X.w H s.heap c (atO c oc)from I.hok c _ (sub _ _ f1)).1;exact⟨a,c,U,Y,⟨oa,ha,g2.1.1⟩,⟨oc,O,J.1.1⟩,λhu hQ=>Xq hu g0 f0 ha O g2 J (λx hx=>kl I (sameT sub (g5 x hx))) (λx hx=>kl I (sameT sub (f5 x hx))) (JR e1 g7 g6) (JR e3 f7 f6) hQ⟩
  | _=>cases e
 | _=>cases e
theorem zdp{X:Cx}(Z:X.A.units+64<cLine):OpR X (compareOp .NotEq) (zf6 X.K):=by
 intro pins s σ H x y v u Q I S U h;obtain⟨H0,dx,dy,b,sub,Y,r2,e,q⟩:=h;obtain⟨a,c,rfl,rfl,J,O,go⟩:=WL I sub Y r2 S U e;show wpAny _ _ (richCompare .NotEq (.ref a) (.ref c)) _ _ s;refine wpAny_richCompare_same_room J O F.slot_dict_ne (zhH F.slot_dict_ne J F.entry_dict_ne ?_ (F.args_dict_ne_2 _ _)) ⋯;refine zgV (zgV (zjz J (zgV (zg1 (zg1 ?_)))));refine zgV (ziV O isSubtype_dict_dict ?_);simp only [Bool.not_true,zir,if_false];refine zgV (zg1 (zgV (zg1 (zgV (go (by rw [units_in1];omega) ?_)))));exact zg1 ⟨_,rfl,(λz=>by cases z),.bl (!b),H,I,by cases b<;>rfl,q⟩
theorem zaW{K:PySem.W.Frag}:Snd K (zf6 K) zaE:=λH0 H x y dx z d Q s I J O q=>by
 obtain⟨b,e1,S⟩:=zB O;subst S;exact⟨H0,dx,z,b,s,I,J,e1,q _ H H0 (Ext.refl s) rfl⟩
section
variable{X:Cx}{sc:Scope}{N T:List Str}{k:Nat}{a b:Expr}{pos:Pos}{fa fb:CO D}
theorem JC(h:SX X sc N T k)(ha:PV X a fa)(z:PV X b fb):PTD X (.Compare a [.NotEq] [b] pos) (sB (zu zaE fa fb)):=wL (zdp h.u64) zaW ha z (v9 b)
end
def qk:Cell->Bool
 | .nest _=>true
 | _=>false
def zbI(T:Tg)(fk z:CO D):List D->Ctx->List (List Int)->List D->Option (Ctx×List (List Int)×List D)
 | [],γ,ks,vs=>some (γ,ks,vs)
 | d::ds,γ,ks,vs=>(jQ T d γ).bind λγ1=>(z γ1).bind λv=>((fk γ1).bind Vp).bind λk=>if k∈ks then none else zbI T fk z ds γ1 (ks++[k]) (vs++[v])
def zcC(i:Nat):Tg->Bool
 | .nm j=>decide (j≠i)
 | .tp z=>decide (i∉z)
def zee(i:Nat)(src:CO (List D))(T:Tg)(fk z:CO D):CO Fl:=λγ=>if (γ.set i .no).any qk=false/\i<γ.length/\zcC i T=true then
 (src (γ.set i .no)).bind λds=>if ds.length<=lim then (zbI T fk z ds (γ.set i .no) [] []).map λr=> .next (r.1.set i (.val (.dct r.2.1 r.2.2)))else none
 else none
theorem wR{γ:Ctx}(h:γ.any qk=false) : ∀(i:Nat) rows,γ[i]? ≠ some (.nest rows):=λi rows e=>by
 have:=zjm.mp h _ (zit e);exact this rfl
theorem Qm{γ:Ctx}(h:γ.any qk=false)(j:Nat)(d:D):(γ.set j (.val d)).any qk=false:=by
 refine zjm.mpr λc I z=>?_;rcases List.mem_or_eq_of_mem_set I with I | I
 ·exact zjm.mp h c I z
 ·rw [I]at z;cases z
theorem yQ : ∀(is:List Nat) (ds:List D) {γ:Ctx},γ.any qk=false->(j1 is ds γ).any qk=false
 | [],ds,γ,h=>by cases ds<;>exact h
 | i::is,[],γ,h=>h
 | i::is,d::ds,γ,h=>yQ is ds (Qm h i d)
theorem Ja{T:Tg}{d:D}{γ γ1:Ctx}(e:jQ T d γ=some γ1)(h:γ.any qk=false):γ1.any qk=false:=by
 cases T with
 | nm j=>cases e;exact Qm h j d
 | tp is=>
  cases d with
  | tup ds=>
   simp only [jQ]at e;split at e
   ·cases e;exact yQ is ds h
   ·cases e
  | _=>simp [jQ]at e
section
variable{K:PySem.W.Frag}{E0 E H0 H:Hp}{σ:St}{γ:Ctx}{p:Addr}{u u':HO}
theorem RS.repl(r:RS K E0 E H0 H σ γ)(I:γ.any qk=false)(Q:H p=some u)(S : ∀xs,u ≠ .lst xs)(U:H0 p=none)(Y:E p=none):RS K E0 E H0 (upd H p u') σ γ:=by
 have J:Same H0 (upd H p u'):=λb o e=>by rw [zH (λz=>by rw [z,U]at e;cases e)];exact r.rc.sub b o e
 have ne : ∀{a:Addr} {xs:List V},H a=some (.lst xs)->a≠p:=λe z=>by rw [z,Q]at e;exact S _ (zhS e)
 refine⟨⟨J,r.rc.len,r.rc.val,λi ds e=>?_,r.rc.ne,NestOk.nil0 (wR I)⟩,⟨r.ext.s0,λb o e=>by rw [zH (λz=>by rw [z,Y]at e;cases e)];exact r.ext.s1 b o e,J,r.ext.new⟩,r.fresh,λi rows a xs e=>absurd e (wR I i rows)⟩;obtain⟨a,xs,h1,h2,O,Z⟩:=r.rc.own i ds e;exact⟨a,xs,h1,h2,by rw [zH (ne O)];exact O,Z⟩
theorem RS.showD(r:RS K E0 E H0 H σ γ)(J:γ.any qk=false)(O:H p=some u)(U : ∀xs,u ≠ .lst xs)(Y:H0 p=none)(Z:E p=none):RS K E0 E (upd H0 p u) H σ γ:=by
 have Q:Same (upd H0 p u) H:=λb o e=>by
  by_cases z:b=p
  ·subst z;rw [zE]at e;rw [O];exact e
  ·rw [zH z]at e;exact r.rc.sub b o e
 have ne : ∀{a:Addr} {xs:List V},H a=some (.lst xs)->a≠p:=λe z=>by rw [z,O]at e;exact U _ (zhS e)
 have s0:Same H0 (upd H0 p u):=zU Y _;refine⟨⟨Q,r.rc.len,λi d e=>?_,λi ds e=>?_,r.rc.ne,NestOk.nil0 (wR J)⟩,⟨r.ext.s0.trans s0,r.ext.s1,Q,λc q1 I=>?_⟩,r.fresh,λi rows a xs e=>absurd e (wR J i rows)⟩
 ·obtain⟨v,h1,h2⟩:=r.rc.val i d e
  exact⟨v,h1,h2.mono s0⟩
 ·obtain⟨a,xs,h1,h2,S,h4⟩:=r.rc.own i ds e
  exact⟨a,xs,h1,by rw [zH (ne S)];exact h2,S,h4.mono s0⟩
 ·rw [zH (λz=>by rw [z,Z]at I;exact I rfl)];exact r.ext.new c q1 I
end
theorem vX{i:Nat} : ∀{is:List Nat} {vs:List V} {σ:St},i∉is->(setAll is vs σ)[i]? = σ[i]?
 | [],vs,σ,_=>by cases vs<;>rfl
 | j::is,[],σ,_=>rfl
 | j::is,v::vs,σ,h=>by
  show(setAll is vs (σ.set j (some v)))[i]? = _;rw [vX (λz=>h (zhg _ z)),zg7 (λz=>h (by rw [z];exact zhj))]
theorem X1{K:PySem.W.Frag}{H0 H:Hp}{T:Tg}{d:D}{v:V}{σ:St}{γ γ1:Ctx}{i:Nat}{Q:St->Hp->Prop}(s:Same H0 H)(h:Rep K H0 d v)(e:jQ T d γ=some γ1)(J:zcC i T=true)
 (q : ∀z,z[i]? = σ[i]? ->(∀E0 E,RS K E0 E H0 H σ γ->RS K E0 E H0 H z γ1)->Q z H):gOf K T v σ H Q:=by
 cases T with
 | nm j=>cases e;exact q _ (zg7 (of_decide_eq_true J)) λE0 E r=>r.setVal h
 | tp is=>
  cases d with
  | tup ds=>
   simp only [jQ]at e;by_cases I:ds.length=is.length
   ·rw [if_pos I]at e;cases e
    obtain⟨a,xs,rfl,h1,h2⟩:=(show ∃a xs,v = .ref a/\SqT K H0 a xs/\Reps K H0 ds xs from h);have hx:xs.length=is.length:=by rw [h2.length,I]
    exact⟨a,xs,rfl,sameT s h1,hx,JT hx (q _ (vX (of_decide_eq_true J)) λE0 E r=>r.setAll h2)⟩
   ·rw [if_neg I]at e;cases e
  | _=>simp [jQ]at e
def YT:Obj:={cls:= .type "dict",data:= .dict #[]}
def Kn:TE:=λ_ H Q=>∀p,H p=none->(p==sysModules)=false->Q (.ref p) (upd H p (atO p YT))
theorem Wa{X:Cx}{pos:Pos}:PE X (.Dict [] [] pos) Kn:=λpins s σ H Q I h=>
 wpAny_Dict_empty ⟨.ref s.heap.objs.size,_,I.laid (a:=s.heap.objs.size) (o:=atO s.heap.objs.size YT) (t':=s.toks) (λ_ _ q=>zgY _ q) (zg3 _) (Q3 (zg6 _ rfl)),rfl,h _ I.fresh (beq_eq_false_iff_ne.mpr (zin I.big))⟩
theorem zfz:X7 YT []:=⟨⟨rfl,rfl,rfl⟩,#[],0,rfl,rfl,List.nodup_nil⟩
def zcQ(K:PySem.W.Frag)(I ty tv:TE):TS:=λD σ H=>tv σ H λv H1=>I σ H1 λx H2=>ty σ H2 λy z=>∃a o es k b,x = .ref a/\z a=some (atO a o)/\X7 o es/\(∀e∈es,SqT K z e.2.1 (e.1.map V.int))/\y = .ref b/\SqT K z b (k.map V.int)/\k∉es.map (·.1)/\es.length<=sizeLine/\
 ∀o' r,X7 o' (es++[(k,b,r)])->RelV v r->D.nx σ (upd z a (atO a o'))
theorem zbm{X:Cx}{o i value:Expr}{pos pos':Pos}{Q ty tv:TE}(Y:X.A.units+1<cLine)(Z:PE X o Q)(hi:PE X i ty)(hv:PE X value tv)(hs:swapsWith value (some (.Subscript o i pos')) pos.line X.env=pure false) :
 PS X (.Assign [.Subscript o i pos'] value pos) (zcQ X.K Q ty tv):=by
 intro pins s σ H D I h;refine wpAny_Assign_Subscript (thn (hv pins s σ H _ I h) λr s1 J=>?_) hs;obtain⟨v,H1,I1,rv,q1⟩:=J;refine thn (Z pins s1 σ H1 _ I1 q1) λu s2 J=>?_;obtain⟨x,H2,I2,rx,q2⟩:=J;refine thn (hi pins s2 σ H2 _ I2 q2) λiv s3 J=>?_;obtain⟨y,H3,O,ry,a,ob,es,k,b,rfl,e1,e2,e3,rfl,e4,e5,e6,q3⟩:=J;cases (show u=zhv a from rx);cases (show iv=zhv b from ry);have dH:=vh O e1 e2 e3;refine wpAny_setItem_heap (hsz:=e6) (zkL Y) (kl O e4) dH λh' S ah=>?_;rw [storedH_new (Q4 e5)]at S;obtain⟨o',U,ai⟩:=zay S;exact⟨σ,_,O.write (x:=a) (e:=a) (o:=atO a o') (t':=_) (h':=h') (by rw [e1];exact True.intro) (.inl rfl) (λb q hb z=>(ah.2 b hb).trans z) ⟨_,U⟩ (Q3 U),q3 o' r ai rv⟩
theorem Vd{p:Addr}{o:Obj} : ∀xs,atO p o ≠ .lst xs:=λxs z=>by cases z
theorem V2{X:Cx}{ao ap:Stmt}{rest:List Stmt}{tg iter:Expr}{pos:Pos}(i:Nat){src:CO (List D)}{T:Tg}{fk fv:CO D}{F:CO Fl}(h1:PS X ao (X8 Kn (xR i)))
 (hp:PassesOwn (model X.prog X.w) X.A X.env X.xe) (hc:X.calm=true) (hi:PIF X tg iter src) (hg:PG X tg (gOf X.K T)) (hb:PS X ap (zcQ X.K (vG i) (tV X.K fk) (tV X.K fv))) (hr:Ka X rest F)
 (hs : ∀x,foldedSetIterable iter X.env x=pure x:=by intro _;rfl):Ka X (ao :: .For tg iter [ap] [] pos::rest) (zI (zee i src T fk fv) F):=by
 intro pins s σ H D I hZ;refine(yv h1 (yv (zao hp hc hi hg (ya hb) hs) hr)) pins s σ H D I ?_;obtain⟨E0,E,H0,γ,fl,rs,ef,bj⟩:=hZ;obtain⟨f1,Q,ef⟩:=bind_some ef;unfold zee at Q;split at Q
 ·next bl=>
  obtain⟨hn,bn,bo⟩:=bl;obtain⟨ds,e1,Q⟩:=bind_some Q;split at Q
  ·next ch=>
   obtain⟨⟨γe,ks,vs⟩,eg,e2⟩:=zB Q;subst e2;have ef:F (γe.set i (.val (.dct ks vs)))=some fl:=ef;show Kn σ H λx H1=>xR i x σ H1 _;intro p ac br;have hE:E p=none:=jv rs.ext.s1 ac;have bt:H0 p=none:=jv rs.rc.sub ac;have r1:RS X.K E0 E H0 (upd H p (atO p YT)) (σ.set i (some (.ref p))) (γ.set i .no):=(rs.forget (v:=some (.ref p))).step (Ext.hide rs.rc.sub ac _);have bu:(σ.set i (some (V.ref p)))[i]? = some (some (.ref p)):=by rw [zhI (by rw [rs.rc.len];exact bn)]
   refine⟨H0,γ.set i .no,ds,r1.rc,e1,λJ H1 Y x1 wk=>?_⟩;have r2:=r1.step x1;have hx:=r2.ext;have ci:lim<=sizeLine:=by decide
   refine⟨λn m σ H=>m=ds.length - n/\n<=ds.length/\∃H0 γ S U o es ys,RS X.K Y E H0 H σ γ/\γ.any qk=false/\zbI T fk fv (ds.drop n) γ S U=some (γe,ks,vs)/\σ[i]? = some (some (.ref p))/\H p=some (atO p o)/\H0 p=none/\X7 o es/\es.map (·.1)=S/\es.length=n/\(∀e∈es,SqT X.K H0 e.2.1 (e.1.map V.int))/\Reps X.K H0 U ys/\Vals ys (es.map (·.2.2)),
    ⟨_,rfl,zh7 _,Y,γ.set i .no,[],[],YT,[],[],⟨r2.rc,hx.base,r2.fresh,r2.fr2⟩,hn,eg,bu,x1.s1 _ _ zE,x1.new p bt (by rw [zE];simp),zfz,rfl,rfl,(λe he=>nomatch he),Reps.nil,.nil⟩,?_⟩
   rintro n m σ3 H3 ⟨rfl,cj,a4,γ3,S,U,o,es,ys,Z,n3,O,s3,p3,p0,od,ek,el,sk,rv,vv⟩;have aj:Same Y H3:=Z.ext.s0.trans Z.ext.sub;by_cases a5:n<ds.length
   ·refine .inr ⟨wk.go n H3 aj a5,λσ H=>n+1<=ds.length/\∃H0 γ S U o es ys,RS X.K Y E H0 H σ γ/\γ.any qk=false/\zbI T fk fv (ds.drop (n+1)) γ S U=some (γe,ks,vs)/\σ[i]? = some (some (.ref p))/\H p=some (atO p o)/\H0 p=none/\X7 o es/\es.map (·.1)=S/\es.length=n+1/\(∀e∈es,SqT X.K H0 e.2.1 (e.1.map V.int))/\Reps X.K H0 U ys/\Vals ys (es.map (·.2.2)),
     λσ' H' z=>⟨ds.length - (n+1),by omega,rfl,z.1,z.2⟩,λx H' y=>?_⟩
    obtain⟨d,hd,bw⟩:=wk.yld n H3 x H' aj a5 y;obtain⟨G0,xg,rg⟩:=bw a4 Z.ext.s0 Z.rc.sub;have bz:ds.drop n=d::ds.drop (n+1):=by
     have c0:d=ds[n]:=by rw [zg0 a5]at hd;exact(zhS hd).symm
     rw [c0];exact zjO a5
    rw [bz]at O;obtain⟨γ4,eb,O⟩:=bind_some O;obtain⟨v,e4,O⟩:=bind_some O;obtain⟨k,e5,O⟩:=bind_some O;obtain⟨kd,e6,e7⟩:=bind_some e5;split at O
    ·cases O
    ·next hk=>
     refine X1 (i:=i) xg.sub rg eb bo λσ4 hσ c7=>?_;have r4:=c7 Y E (Z.step xg);refine⟨G0,γ4,v,r4.rc,e4,λc8 H5 c9 x5 ca=>?_⟩;refine⟨.ref p,by rw [hσ];exact s3,?_⟩;refine⟨c9,γ4,kd,(r4.step x5).rc,e6,λkv H6 ay x6 cc=>?_⟩;obtain⟨b,rfl,az⟩:=yx e7 cc;have r6:=(r4.step x5).step x6;have xx:=(xg.trans x5).trans x6;have p6:H6 p=some (atO p o):=xx.s1 _ _ p3;have b9:ay p=none:=xx.new p p0 (by rw [p3];simp);refine⟨p,o,es,k,b,rfl,p6,od,λe he=>sameT (xx.s0.trans xx.sub) (sk e he),rfl,sameT x6.sub az,by rw [ek];exact hk,by omega,λo' r' ce rr=>?_⟩;refine⟨a5,ay,γ4,S++[k],U++[v],o',es++[(k,b,r')],ys++[c8],r6.repl (Ja eb n3) p6 Vd b9 hE,Ja eb n3,O,by rw [hσ];exact s3,zE,b9,ce,by simp [ek],by simp [el],λe he=>?_,?_,?_⟩
     ·rcases zjc.mp he with z | z
      ·exact sameT xx.s0 (sk e z)
      ·rw [zjK.mp z];exact az
     ·exact(rv.mono xx.s0).append (Reps.cons (ca.mono x6.s0) Reps.nil)
     ·rw [zhG]
      exact vv.append (.cons rr .nil)
   ·have e:n=ds.length:=by omega
    subst e;rw [zkH]at O;cases O;refine .inl ⟨wk.stop H3 aj,?_⟩;have r4:=Z.showD n3 p3 Vd p0 hE;have ba:Same a4 (upd a4 p (atO p o)):=zU p0 _;have r5:=r4.setVal (i:=i) (d:= .dct ks vs) (v:= .ref p) (show ∃a xs,V.ref p = .ref a/\DRt X.K (upd a4 p (atO p o)) a ks xs/\Reps X.K (upd a4 p (atO p o)) vs xs from⟨p,ys,rfl,⟨br,o,es,zE,od,ek,by omega,λx hx=>sameT ba (sk x hx),vv⟩,rv.mono ba⟩);have es:σ3.set i (some (.ref p))=σ3:=by
     apply zjl;intro j;by_cases z:j=i
     ·subst z
      rw [zhI (by have:=zhe.mp s3;exact this.1),s3]
     ·rw [zg7 (zhO z)]
    rw [es]at r5;exact⟨Y,E,_,_,fl,r5,ef,bj.rebase hx⟩
  ·cases Q
 ·cases Q
def wz:List D->Option Res:=z5 1 (zI (sIf (za6 (xl (sB (sIs .str (zc 0)))) (sB (zu dGe (Jx (zc 0)) (zg (.int 6))))) (jR (zg (.bl false))) j4) (jR (zeh (jz (zF (zae (zc 0)) (.nm 0) 1 [] ja (zf5 (zc 0) (zA (zg (.tup [.str "r",.str "l"])))))))))
def yn:List D->Option Res:=z5 2 (zI (sIf (za6 (xl (sB (zq Qb (za (zc 1) (za (zg (.int 2)) zo))))) (za6 (xl (sB (zq Jn (za (zc 0) (za (sIx (zf 1) (zg (.int 0))) zo))))) (xl (sB (zq Jn (za (zc 0) (za (sIx (zf 1) (zg (.int 1))) zo))))))) (jR (zg (.bl false))) j4) (jR (zu dLe (sIx (zf 1) (zg (.int 0))) (sIx (zf 1) (zg (.int 1))))))
def Vn:List D->Option Res:=z5 2 (qW (zF (Qp (zc 0)) (.tp [0,1]) 2 [1] (sB (Qq dLe dLe (sIx (zf 1) (zg (.int 0))) (zc 2) (sIx (zf 1) (zg (.int 1))))) (zc 0)))
def Qc:List D->Option Res:=z5 3 (zI (zQ 2 (jk (zF (zD (zf 0)) (.nm 0) 1 [1] ja (zN (jz (zF (zD (zf 1)) (.nm 0) 1 [0] ja (Zp (sB (zu dEq (zc 1) (zc 0))) (zg (.int 1)) (zg (.int 0))))))))) (jR (jp (za (k4 (zf 0)) (za (k4 (zf 1)) (za (zN (zf 2)) zo))))))
def F_law_cell:List D->Option Res:=z5 5 (zI (sIf (za8 (sB (zu dGt (k4 (zf 0)) (zg (.int 1)))) (sB (zu dEq (zu qx (sIx (zf 0) (zg (.int 0))) (zg (.int 2))) (zg (.int 1))))) (zI (zQ 2 (sIx (zf 0) (zu jq (zg (.int 1)) (zu qx (zc 1) (zu qP (k4 (zf 0)) (zg (.int 1))))))) (zI (yk (ji (za7 (zg (.int 60)) (zu Z7 (zc 1) (zu qP (k4 (zf 0)) (zg (.int 1)))))) (.nm 3) (zQ 2 (zu Z7 (zc 2) (zu zb1 (zg (.int 10)) (zg (.int 9)))))) (jR (zu qx (zc 2) (zu zb1 (zg (.int 10)) (zg (.int 9))))))) j4) (zI (zQ 4 (zc 1)) (zI (sIf (sB (zu dGt (k4 (zf 0)) (zg (.int 0)))) (zQ 4 (sIx (zf 0) (zu qx (zc 1) (k4 (zf 0))))) j4) (jR (zu qx (zu qI (zu qx (zu jq (zu jq (zu jq (zu qI (zu qx (zc 4) (zu zb1 (zg (.int 10)) (zg (.int 30)))) (zg (.int 48271))) (zu qI (zu qI (zg (.int 7)) (zc 1)) (zc 1))) (zu qI (zg (.int 13)) (zc 1))) (zg (.int 5))) (zg (.int 2147483647))) (zg (.int 69621))) (zg (.int 1000000007)))))))
def F_tables_joined:List D->Option Res:=z5 5 (zI (zQ 3 (jk (zF (Qn (sIx (zf 0) (zg (.int 2))) (sIx (zf 2) (zg (.int 2)))) (.tp [0,1]) 2 [] ja (zu jq (zc 0) (zc 1))))) (zI (zQ 4 (jk (zF (zD (zA (sIx (zf 1) (zg (.int 2))))) (.nm 0) 1 [0] ja (zu jq (zu qI (jp (za (zg (.int 0)) zo)) (sIx (zf 1) (zg (.int 1)))) (zc 0))))) (jR (jp (za (zu jq (sIx (zf 0) (zg (.int 0))) (sIx (zf 1) (zg (.int 0)))) (za (zu jq (sIx (zf 0) (zg (.int 1))) (sIx (zf 1) (zg (.int 1)))) (za (zN (zA (jk (kA (zf 3) (zf 4))))) zo)))))))
def F_no_join:List D->Option Res:=z5 2 (jR (zq F_nought_table (za (sIx (zf 0) (zg (.int 0))) (za (sIx (zf 1) (zg (.int 1))) zo))))
def F_tables_beside_5:List D->Option Res:=z5 2 (jR (zq F_tables_joined (za (zc 0) (za (zc 1) (za (zq F_no_join (za (zc 0) (za (zc 1) zo))) zo)))))
def F_led_on:List D->Option Res:=z5 3 (qW (zX F_base_of (za (zc 0) (za (sIx (zf 1) (zg (.int 0))) (za (jk (zF (zD (zf 2)) (.nm 0) 1 [0,1] ja (zq F_led (za (zc 1) (za (zc 2) (za (zc 0) zo)))))) zo)))))
def F_link:List D->Option Res:=z5 6 (zI (zQ 3 (zq F_same_table (za (sIx (zA (sIx (zf 0) (zg (.int 1)))) (zc 1)) zo))) (zI (qL 4 (zF (zD (zA (sIx (zf 3) (zg (.int 2))))) (.nm 0) 1 [] ja (zu jq (zc 0) (zc 0)))) (zI (yk (zD (zA (Qo (sIx (zf 0) (zg (.int 2))) (sBd (zc 1)) (sBd (zc 2))))) (.nm 5) (zcj 4 (qL 4 (Qr F_led_on F_led_into (za (sIx (zf 0) (zg (.int 0))) (za (sIx (zf 5) (zg (.int 0))) (za (zq F_tables_beside_5 (za (zc 3) (za (sIx (zf 5) (zg (.int 1))) zo))) (za (zc 4) zo)))))))) (kz 4))))
def F_law_ends_k22:List D->Option Res:=z5 2 (zI (sIf (sB (zu dEq (zc 1) (zg (.str "r")))) (jR (jp (za (zc 0) (za (zu jq (zc 0) (zg (.int 1))) zo)))) j4) (jR (jp (za (zu jq (zc 0) (zg (.int 1))) (za (zc 0) zo)))))
def F_law_row_k22:List D->Option Res:=z5 9 (zI (qL 4 (qj zo)) (zI (yk (yl (zc 1)) (.tp [5,6]) (zI (Jv (.tp [7,8]) (zq F_law_ends_k22 (za (zc 5) (za (zc 6) zo)))) (qs 4 (jp (za (zc 6) (za (jp (za (sIx (zf 2) (zc 8)) (za (sIx (zf 2) (zc 7)) (za (zN (jz (zF (zD (zA (sIx (zf 3) (zc 5)))) (.nm 0) 1 [] ja (zN (zf 0))))) zo)))) zo)))))) (jR (jp (za (zc 0) (za (zN (zf 2)) (za (zN (zf 4)) zo)))))))
def F_law_ways_k22:List D->Option Res:=z5 4 (zI (zQ 2 (zg (.str ""))) (zI (yk (ji (zu qP (zc 1) (zg (.int 1)))) (.nm 3) (zI (zQ 2 (VP (zc 2) (Zz (zg (.str "rl")) (zu qx (zc 0) (zg (.int 2)))))) (zQ 0 (zu Z7 (zc 0) (zg (.int 2)))))) (kz 2)))
def F_law_rows_k22:List D->Option Res:=z5 8 (zI (qL 5 (qj zo)) (zI (yk (ji (zc 3)) (.nm 6) (zI (zQ 7 (jk (zF (ji (zc 4)) (.nm 0) 1 [0,1,4,6] ja (zq F_law_cell (za (zc 1) (za (zu jq (zu jq (zc 2) (zu qI (zc 4) (zc 3))) (zc 0)) zo)))))) (qs 5 (jk (zF (zD (zf 7)) (.nm 0) 1 [2] ja (zu qI (zu qx (zu Z7 (zc 0) (zg (.int 4))) (zc 1)) (KA (zu dGt (zu qx (zc 0) (zg (.int 4))) (zg (.int 0)))))))))) (kz 5)))
def F_law_drawn_k22:List D->Option Res:=z5 11 (zI (zQ 5 (jk (zF (ji (zu jq (Jx (zc 3)) (zg (.int 1)))) (.nm 0) 1 [0,1,4] ja (zu qx (zq F_law_cell (za (zc 1) (za (zu jq (zc 2) (zc 0)) zo))) (zu jq (zc 3) (zg (.int 1))))))) (zI (qL 6 (qj zo)) (zI (yk (yl (zc 3)) (.tp [7,8]) (zI (Jv (.tp [9,10]) (zq F_law_ends_k22 (za (zc 7) (za (zc 8) zo)))) (qs 6 (jk (zX F_law_rows_k22 (za (zc 0) (za (zu jq (zu jq (zc 1) (zg (.int 10))) (zu qI (zg (.int 20)) (zc 7))) (za (zc 2) (za (sIx (zf 5) (zc 10)) (za (sIx (zf 5) (zc 9)) zo)))))))))) (zcj 6 (jR (zq F_law_row_k22 (za (zc 2) (za (zc 3) (za (zc 5) (za (zc 6) zo))))))))))
abbrev dsq(k:Sk)(xs:List D):D:=match k with | .T=>D.tup xs | .L=>D.lst xs
@[simp] theorem zgd(k xs):jw (dsq k xs)=some (k,xs):=by cases k<;>rfl
theorem wv{p:Int}{n:Nat}(k:Sk)(f:Nat->Int)(z:0<p)(I:n<=lim) :
 F_rests [.int p,dsq k (zz n f)]=some (.val (.tup (zz n λi=>f i%p))):=by
 simp [F_rests,z5,zV,z6,I,qb];unfold zz;rw [zv (r:=λi=>D.int (f i%p))]
 ·simp
 ·intro i hi
  refine zw rfl rfl ?_;simp [z]
theorem Vl{p:Int}{n:Nat}(f:Nat->Int)(z:0<p)(I:n<=lim) :
 F_rests [.int p,.tup (zz n f)]=some (.val (.tup (zz n λi=>f i%p))):=wv .T f z I
theorem vz{p:Int}{n:Nat}(f:Nat->Int)(z:0<p)(I:n<=lim) :
 F_rests [.int p,.lst (zz n f)]=some (.val (.tup (zz n λi=>f i%p))):=wv .L f z I
theorem Zm{p:Int}{h w:Nat}(k:Sk)(f:Nat->Nat->Int)(g:Nat->Int)(I:0<p)(z:h<=lim)(hw:w<=lim)(J : ∀i j,i<h->j<w->0<=f i j/\f i j<100) :
 F_led [.int p,jV h w f,dsq k (zz w g)]=some (.val (.tup (zz h λi=>sumTo (λj=>f i j*g j) w%p))):=by
 simp [F_led,z5,zV,z6,z,qb,jV,zg2];unfold zM;rw [zv (r:=λi=>D.int (sumTo (λj=>f i j*g j) w))]
 ·simp
  rw [show(List.map (λi=>D.int (sumTo (λj=>f i j*g j) w)) (zgX h))=zz h λi=>sumTo (λj=>f i j*g j) w from rfl,vz _ I z];rfl
 ·intro i hi
  refine zw rfl rfl ?_;simp [z6,yu,hw];rw [zv (r:=λj=>D.int (f i j*g j))]
  ·simp
   rw [show(List.map (λj=>D.int (f i j*g j)) (zgX w))=zz w λj=>f i j*g j from rfl,Zv]
  ·intro j O
   refine zw rfl rfl ?_;have:=J i j (zgZ.mp hi) (zgZ.mp O);simp [kc (f i j) (g j) ⋯ ⋯]
theorem xD{h w:Nat}(f:Nat->Nat->Int)(z:h<=lim)(hw:w<=lim):F_turned_over [jV h w f]=some (.val (jV w h λi j=>f j i)):=by
 simp [F_turned_over,z5,zV,z6,z,hw,qb,jV,zg2,zO,jK];rw [z9 w λi=>(i:Int)];rw [zv (r:=λj=>D.tup (zz h λi=>f i j))]
 ·simp
  rfl
 ·intro j I
  refine zw rfl rfl ?_;simp [z6,z,qb];unfold zM;rw [zv (r:=λi=>D.int (f i j))]
  ·simp
   rfl
  ·intro i hi
   refine zw rfl rfl ?_;have h1:=zgZ.mp I;simp [h1,xN _ h1]
theorem xC{n:Nat}(z:n<=lim):F_same_table [.int n]=some (.val (jV n n λi j=>if i=j then 1 else 0)):=by
 simp [F_same_table,z5,zV,zO,z,z6,qb,zg2,jK];rw [z9 n λi=>(i:Int)];rw [zv (r:=λi=>D.tup (zz n λj=>if i=j then 1 else 0))]
 ·simp
  rfl
 ·intro i hi
  refine zw rfl rfl ?_;simp [z,z6,zg2,jK,qb];rw [z9 n λi=>(i:Int)];rw [zv (r:=λj=>D.int (if i=j then 1 else 0))]
  ·simp
   rfl
  ·intro j I
   refine zw rfl rfl ?_;simp;by_cases e:i=j
   ·simp [e]
   ·rw [if_neg ⋯,if_neg e]
theorem xo(d:D)(w:Nat):zg2 w d=(zgX w).map λ_=>d:=by
 induction w with
 | zero=>rfl
 | succ n z=>rw [List.replicate_succ',z,zh5,zhG];simp
theorem J9{h w:Nat}(z:h<=lim)(hw:w<=lim):F_nought_table [.int h,.int w]=some (.val (jV h w λ_ _=>0)):=by
 simp [F_nought_table,z5,zV,zO,qI,z,hw];rw [xo,xo];rfl
def x9(ns:List Int):D:= .lst (ns.map D.int)
mutual
theorem eqD_refl : ∀d:D,eqD d d=true
 | .non=>rfl
 | .bl b=>by simp [eqD]
 | .int i=>by simp [eqD]
 | .str x=>by simp [eqD]
 | .tup xs=>by simp only [eqD];exact eqDs_refl xs
 | .lst xs=>by simp only [eqD];exact eqDs_refl xs
 | .exc c n=>by simp [eqD]
 | .dic a b=>by simp only [eqD];rw [eqDs_refl a,eqDs_refl b];rfl
 | .dct a b=>by simp only [eqD];rw [eqDs_refl b];simp
theorem eqDs_refl : ∀ds:List D,eqDs ds ds=true
 | []=>rfl
 | d::ds=>by simp only [eqDs,eqD_refl d,eqDs_refl ds,Bool.and_self]
end
theorem kP : ∀{l:List D} {n:Nat},(∀d∈l,deep d<=n)->deeps l<=n
 | [],n,_=>zh7 n
 | d::ds,n,h=>by
  simp only [deeps];exact Nat.max_le.mpr ⟨h d zhj,kP λe z=>h e (zhg _ z)⟩
theorem QS(n f):deep (.tup (zz n f))<=1:=by
 simp only [deep];have:deeps (zz n f)<=0:=kP λd hd=>by
  simp [zz]at hd;obtain⟨i,_,rfl⟩:=hd;exact zg3 _
 omega
theorem WN(h w f):deep (.tup (zM h w f))<=2:=by
 simp only [deep];have:deeps (zM h w f)<=1:=kP λd hd=>by
  simp [zM]at hd;obtain⟨i,_,rfl⟩:=hd;exact QS _ _
 omega
theorem QT(h w f):deep (jV h w f)<=3:=by
 unfold jV;simp only [deep];have:deeps [D.int h,D.int w,D.tup (zM h w f)]<=2:=kP λd hd=>by
  simp at hd;rcases hd with rfl | rfl | rfl
  ·exact zh7 _
  ·exact zh7 _
  ·exact WN _ _ _
 omega
theorem wQ : ∀{l:List D},(∀d∈l,okS d=true)->okSs l=true
 | [],_=>rfl
 | d::ds,h=>by simp only [okSs,h d zhj,wQ λe z=>h e (zhg _ z),Bool.and_self]
theorem zax{d:D}{n:Nat}(h:deep d<=n)(z:n<=20)(h2:okS d=true):okD d=true:=by
 unfold okD;rw [h2,Bool.and_true];exact decide_eq_true (zh2 h z)
theorem K8(n f):okS (.tup (zz n f))=true:=by
 simp only [okS];exact wQ λd hd=>by
  simp [zz]at hd;obtain⟨i,_,rfl⟩:=hd;rfl
theorem zbA(h w f):okS (.tup (zM h w f))=true:=by
 simp only [okS];exact wQ λd hd=>by
  simp [zM]at hd;obtain⟨i,_,rfl⟩:=hd;exact K8 _ _
theorem zbz(h w f):okS (jV h w f)=true:=by
 unfold jV;simp only [okS,okSs];have:=zbA h w f;simp only [okS]at this;rw [this];rfl
theorem zbC(h w f):okD (jV h w f)=true:=zax (QT h w f) ⋯ (zbz h w f)
theorem WT{d:D}(h:okD d=true):dEq d d=some (.bl true):=by unfold dEq;rw [if_pos ⟨h,h⟩,eqD_refl]
theorem WR{d:D}(h:okD d=true):dNe d d=some (.bl false):=by unfold dNe;rw [if_pos ⟨h,h⟩,eqD_refl];rfl
def wch(b:Bool):Nat:=if b then 108 else 114
def qv(c:Nat):Str:=⟨#[c]⟩
theorem wg : ∀(l:List Nat),(Str.join "" (l.map qv)).cps.toList=l
 | []=>rfl
 | [c]=>rfl
 | c::d::l=>by
  have z:=wg (d::l);show((qv c++("" : Str))++Str.join "" ((d::l).map qv)).cps.toList=_;have e : ∀a b:Str,(a++b).cps.toList=a.cps.toList++b.cps.toList:=λa b=>by
   show(a.cps++b.cps).toList=_;simp
  rw [e,e,z];rfl
def kf(m:Nat)(w:Nat->Bool):Str:=Str.join "" ((zgX m).map λk=>qv (wch (w k)))
theorem xH(m w):(kf m w).cps.toList=(zgX m).map λk=>wch (w k):=by
 have:=wg ((zgX m).map λk=>wch (w k));rw [zhU]at this;exact this
theorem Qd(m w):(kf m w).length=m:=by
 show(kf m w).cps.size=m;rw [<- zib,xH];simp
theorem k6{m:Nat}(w)(z:m<=1000):jj (kf m w)=true:=decide_eq_true (by rw [Qd];exact z)
def hiW(w:Nat->Bool)(wd:Nat->Nat)(k:Nat):Nat:=if w k then wd k else wd (k+1)
def wiW(w:Nat->Bool)(wd:Nat->Nat)(k:Nat):Nat:=if w k then wd (k+1)else wd k
def qC(w:Nat->Bool)(wd:Nat->Nat)(T:Nat->Nat->Nat->Int)(k:Nat):D:= .tup [.str (qv (wch (w k))),jV (hiW w wd k) (wiW w wd k) (T k)]
def jZ(m:Nat)(w:Nat->Bool)(wd:Nat->Nat)(T:Nat->Nat->Nat->Int):List D:=(zgX m).map (qC w wd T)
def jO(p:Int)(m:Nat)(w:Nat->Bool)(wd:Nat->Nat)(T:Nat->Nat->Nat->Int):D:= .tup [.int p,.tup (zz (m+1) λk=>(wd k:Int)),.tup (jZ m w wd T)]
@[simp] theorem zd4(m w wd T):(jZ m w wd T).length=m:=by simp [jZ]
theorem zaw(b:Bool):okD (.str (qv (wch b)))=true:=by cases b<;>decide +kernel
theorem YG(b:Bool):dEq (.str (qv (wch b))) (.str "r")=some (.bl (!b)):=by
 have e : ∀b:Bool,(qv (wch b)==(zhK "r")) = !b:=by decide +kernel
 have z:okD (.str (zhK "r"))=true:=by decide +kernel
 unfold dEq;rw [if_pos ⟨zaw b,z⟩];show some (D.bl (qv (wch b)==zhK "r"))=_;rw [e]
theorem zeP:zhK "r" = qv (wch false):=by decide +kernel
theorem zeQ:zhK "l" = qv (wch true):=by decide +kernel
theorem ke(b:Bool):F_other_way [.str (qv (wch b))]=some (.val (.str (qv (wch !b)))):=by
 have e1:=zeP;have z:=zeQ;have q:=YG b;rw [e1]at q;cases b<;>simp [F_other_way,z5,zV,e1,z]at q ⊢ <;> simp [q]
theorem zbB(w wd T k):okS (qC w wd T k)=true:=by
 have a:=zbC (hiW w wd k) (wiW w wd k) (T k);have b:=zaw (w k);simp only [okD,Bool.and_eq_true]at a b;show(okS _ && (okS _ && true))=true;rw [a.2,b.2];rfl
theorem WO(w wd T k):deep (qC w wd T k)<=4:=by
 have:=QT (hiW w wd k) (wiW w wd k) (T k);simp [qC,deep,deeps];omega
theorem zbD(p m w wd T):okD (jO p m w wd T)=true:=by
 have h1:deeps (jZ m w wd T)<=4:=kP λd hd=>by
  obtain⟨k,_,rfl⟩:=zhr.mp hd;exact WO w wd T k
 have h2:okSs (jZ m w wd T)=true:=wQ λd hd=>by
  obtain⟨k,_,rfl⟩:=zhr.mp hd;exact zbB w wd T k
 have I:=QS (m+1) λk=>(wd k:Int);have z:=K8 (m+1) λk=>(wd k:Int);refine zax (n:=10) ?_ ⋯ ?_
 ·simp only [jO,deep,deeps]at I ⊢
  omega
 ·simp only [jO,okS,okSs]at z ⊢
  simp [h2,z]
theorem YY{n i j:Nat}(f:Nat->D)(h1:i<=j)(h2:j<=n):QX ((zgX n).map f) (some (i:Int)) (some (j:Int))=(zgX (j - i)).map λk=>f (i+k):=by
 have c : ∀(d k:Nat),k<=n->J2 n d (some (k:Int))=k:=λd k I=>by
  show(if (k:Int)<0 then ((k:Int)+n).toNat else min (k:Int).toNat n)=k;rw [if_neg ⋯];simp only [zh1];omega
 have z:((zgX n).map f).length=n:=by simp
 unfold QX;rw [z,c 0 i ⋯,c n j h2];apply List.ext_getElem
 ·simp;omega
 ·intro k J g2
  simp
section
variable{p:Int}{m:Nat}{w:Nat->Bool}{wd:Nat->Nat}{T:Nat->Nat->Nat->Int}
theorem zdY{i j:Nat}(h1:i<=j)(h2:j<=m):QX (jZ m w wd T) (some (i:Int)) (some (j:Int))=jZ (j - i) (λk=>w (i+k)) (λk=>wd (i+k)) (λk=>T (i+k)):=by
 unfold jZ;rw [YY _ h1 h2];apply zhi;intro k z;unfold qC hiW wiW;rfl
end
section
variable{p:Int}
def qR(h w:Nat)(f:Nat->Nat->Int):List D:=(zgX h).map λi=>D.lst (zz w (f i))
@[simp] theorem zdT(h w f):(qR h w f).length=h:=by simp [qR]
end
theorem zn{f g:Nat->Int} : ∀{n:Nat},(∀k,k<n->f k=g k)->sumTo f n=sumTo g n
 | 0,_=>rfl
 | n+1,h=>by
  simp only [sumTo];rw [zn (n:=n) λk z=>h k ⋯,h n ⋯]
theorem zG(n:Nat):sumTo (λ_=>0) n=0:=by
 induction n with
 | zero=>rfl
 | succ n z=>simp [sumTo,z]
theorem zR{f:Nat->Int}{n i:Nat}(hi:i<n)(h : ∀k,k<n->k≠i->f k=0):sumTo f n=f i:=by
 induction n with
 | zero=>omega
 | succ n z=>
  simp only [sumTo];by_cases e:i=n
  ·subst e
   rw [zn (g:=λ_=>0) (λk I=>h k ⋯ ⋯),zG];omega
  ·rw [z ⋯ λk I=>h k ⋯,h n ⋯ ⋯]
   omega
theorem jG(f g:Nat->Int)(n:Nat):sumTo (λk=>f k+g k) n=sumTo f n+sumTo g n:=by
 induction n with
 | zero=>rfl
 | succ n z=>simp only [sumTo,z];omega
theorem j8(f:Nat->Int)(c:Int)(n:Nat):sumTo (λk=>f k*c) n=sumTo f n*c:=by
 induction n with
 | zero=>simp [sumTo]
 | succ n z=>simp only [sumTo,z,Int.add_mul]
theorem jo(f:Nat->Int)(c:Int)(n:Nat):sumTo (λk=>c*f k) n=c*sumTo f n:=by
 induction n with
 | zero=>simp [sumTo]
 | succ n z=>simp only [sumTo,z,zj3]
theorem j7(f:Nat->Nat->Int)(n m:Nat):sumTo (λi=>sumTo (λj=>f i j) m) n=sumTo (λj=>sumTo (λi=>f i j) n) m:=by
 induction n with
 | zero=>simp [sumTo,zG]
 | succ n z=>simp only [sumTo];rw [z,<- jG]
theorem zK{p:Int}{f g:Nat->Int} : ∀{n:Nat},(∀k,k<n->f k%p=g k%p)->sumTo f n%p=sumTo g n%p
 | 0,_=>rfl
 | n+1,h=>by
  simp only [sumTo];rw [zhp,zK (n:=n) (λk z=>h k ⋯),h n ⋯,<- zhp]
theorem ZS(p x y:Int):(x*(y%p))%p=(x*y)%p:=by rw [zg8,zhs,<- zg8]
abbrev Vc:=Nat->Int
def Pr(p:Int):Prop:=p=2\/p=3\/p=5\/p=7
theorem Pr.pos{p:Int}(h:Pr p):0<p:=by unfold Pr at h;omega
theorem Pr.two{p:Int}(h:Pr p):2<=p:=by unfold Pr at h;omega
theorem Pr.le{p:Int}(h:Pr p):p<=7:=by unfold Pr at h;omega
theorem Pr.one{p:Int}(h:Pr p):(1:Int)%p=1:=zik ⋯ (by have:=h.two;omega)
inductive Span(p:Int)(n:Nat)(G:Vc->Prop):Vc->Prop where
 | zero {v:Vc}:(∀i,i<n->v i%p=0)->Span p n G v
 | step {v w g:Vc} {c:Int}:G g->Span p n G w->(∀i,i<n->v i%p=(w i+c*g i)%p)->Span p n G v
section
variable{p:Int}{n:Nat}{G G':Vc->Prop}
theorem Span.congr{v z:Vc}(h:Span p n G v)(e : ∀i,i<n->z i%p=v i%p):Span p n G z:=by
 cases h with
 | zero h=>exact .zero λi hi=>by rw [e i hi,h i hi]
 | step I hw h=>exact .step I hw λi hi=>by rw [e i hi,h i hi]
theorem Span.gen{g:Vc}(h:G g):Span p n G g:= .step (c:=1) h (.zero (v:=λ_=>0) λi _=>by simp) λi _=>by simp
theorem Span.add{v w:Vc}(I:Span p n G v)(hw:Span p n G w) : ∀c:Int,Span p n G λi=>w i+c*v i:=by
 induction I with
 | zero h=>
  intro c;refine hw.congr λi hi=>?_;rw [zhp,zg8,h i hi];simp
 | @step v w' g z J Q h O=>
  intro c;refine .step (c:=c*z) J (O c) λi hi=>?_;have e:(c*v i)%p=(c*(w' i+z*g i))%p:=by rw [zg8,h i hi,<- zg8]
  rw [zhp,e,<- zhp];congr 1;rw [zj3,<- ziw,Int.add_assoc]
theorem Span.smul{v:Vc}(z:Span p n G v)(c:Int):Span p n G λi=>c*v i:=
 (z.add (w:=λ_=>0) (.zero λi _=>by simp) c).congr λi _=>by simp
theorem Span.le{v:Vc}(h:Span p n G v)(z : ∀g,G g->Span p n G' g):Span p n G' v:=by
 induction h with
 | zero h=>exact .zero h
 | step I hw h J=>exact((z _ I).add J _).congr h
end
structure IsB(p:Int)(n r:Nat)(B:Nat->Vc)(l:Nat->Nat):Prop where
 lt : ∀k,k<r->l k<n
 mono : ∀k m,k<m->m<r->l k<l m
 one : ∀k,k<r->B k (l k)=1
 bef : ∀k j,k<r->j<l k->B k j=0
 oth : ∀k m,k<r->m<r->m≠k->B k (l m)=0
 rng : ∀k i,k<r->i<n->0<=B k i/\B k i<p
def Fam(r:Nat)(B:Nat->Vc):Vc->Prop:=λv=>∃k,k<r/\v=B k
section
variable{p:Int}{n r r':Nat}{B B':Nat->Vc}{l l':Nat->Nat}
theorem yq(I:IsB p n r B l){v:Vc}(h:Span p n (Fam r B) v) : ∀i,i<n->v i%p=sumTo (λk=>v (l k)*B k i) r%p:=by
 induction h with
 | @zero v h=>
  intro i hi;rw [h i hi];have:sumTo (λk=>v (l k)*B k i) r%p=sumTo (λ_=>0) r%p:=zK λk z=>by rw [zg8,h _ (I.lt k z)];simp
  rw [this,zG];rfl
 | @step v w g c O hw h Q=>
  intro i hi;obtain⟨m,J,rfl⟩:=O;rw [h i hi];have e1:sumTo (λk=>v (l k)*B k i) r%p=sumTo (λk=>w (l k)*B k i+c*B m (l k)*B k i) r%p:=zK λk z=>by
   rw [zg8,h _ (I.lt k z),<- zg8,Int.add_mul]
  have S:sumTo (λk=>c*B m (l k)*B k i) r=c*B m i:=by
   rw [zR (i:=m) J λk z U=>by rw [I.oth m k J z U];simp,I.one m J];simp
  rw [e1,jG,S,zhp,Q i hi,<- zhp]
theorem JP(z:IsB p n r B l){v:Vc}(h:Span p n (Fam r B) v){j:Nat}(J:j<n)(O:v j%p≠0)(Q : ∀i,i<j->v i%p=0) : ∃k,k<r/\l k=j:=by
 apply zhV;intro S;apply O;rw [yq z h j J];have:sumTo (λk=>v (l k)*B k j) r%p=sumTo (λ_=>0) r%p:=zK λk I=>by
  have U:l k≠j:=λe=>S ⟨k,I,e⟩;rcases zhd (l k) j with q | q
  ·rw [zg8,Q _ q];simp
  ·rw [z.bef k j I ⋯];simp
 rw [this,zG];rfl
theorem QI(J : ∀k m,k<m->m<r->l k<l m)(O : ∀k m,k<m->m<r'->l' k<l' m)(s1 : ∀k,k<r->∃m,m<r'/\l' m=l k)(s2 : ∀k,k<r'->∃m,m<r/\l m=l' k) :
 ∀k,k<r->k<r'/\l k=l' k:=by
 intro k
 induction k using Nat.strongRecOn with
 | ind k Q=>
  intro S;obtain⟨m,U,Y⟩:=s1 k S;have a0:k<=m:=by
   rcases zhd m k with q | q
   ·have:=(Q m q ⋯).2
    have:=J m k q S;omega
   ·exact q
  have I:k<r':=by omega
  refine⟨I,?_⟩;obtain⟨q,Z,eq⟩:=s2 k I;have a2:k<=q:=by
   rcases zhd q k with z | z
   ·have:=(Q q z ⋯).2
    have:=O q k z I;omega
   ·exact z
  rcases zhd k m with z | z
  ·have h1:=O k m z U
   have h2:l k<=l q:=by
    rcases zhd k q with y | y
    ·exact zkh (J k q y Z)
    ·have:k=q:=by omega
     subst this;exact zg3 _
   omega
  ·have:m=k:=by omega
   subst this;exact Y.symm
theorem Jf(U:Pr p)(I:IsB p n r B l)(J:IsB p n r' B' l')(h1 : ∀v,Span p n (Fam r B) v->Span p n (Fam r' B') v)(h2 : ∀v,Span p n (Fam r' B') v->Span p n (Fam r B) v) :
 r=r'/\(∀k,k<r->l k=l' k)/\∀k i,k<r->i<n->B k i=B' k i:=by
 have one:=U.one;have s1 : ∀k,k<r->∃m,m<r'/\l' m=l k:=λk z=>JP J (h1 _ (.gen ⟨k,z,rfl⟩)) (I.lt k z) (by rw [I.one k z,one];decide) λi hi=>by rw [I.bef k i z hi];simp
 have s2 : ∀k,k<r'->∃m,m<r/\l m=l' k:=λk z=>JP I (h2 _ (.gen ⟨k,z,rfl⟩)) (J.lt k z) (by rw [J.one k z,one];decide) λi hi=>by rw [J.bef k i z hi];simp
 have e1:=QI I.mono J.mono s1 s2;have Y:=QI J.mono I.mono s2 s1;have Z:r=r':=by
  rcases zjr r r' with q | q | q
  ·exact absurd (Y r q).1 (zhC _)
  ·exact q
  ·exact absurd (e1 r' q).1 (zhC _)
 subst Z;refine⟨rfl,λk z=>(e1 k z).2,λk i z hi=>?_⟩;have c:=yq J (h1 _ (.gen ⟨k,z,rfl⟩)) i hi;rw [zR (i:=k) z λm O a0=>by rw [<- (e1 m O).2,I.oth k m z O a0];simp,<- (e1 k z).2,I.one k z,Int.one_mul]at c;have Q:=I.rng k i z hi;have S:=J.rng k i z hi;rw [zik Q.1 Q.2,zik S.1 S.2]at c;exact c
end
theorem zY{α:Type}{T:Tg}{k:CO Bool}{f:CO D}{γ:Ctx}{g:α->D}(q:α->Bool)(r:α->D) : ∀(l:List α),(∀x∈l,∃γ1,jQ T (g x) γ=some γ1/\k γ1=some (q x)/\(q x=true->f γ1=some (r x)))->
 zL T k f γ (l.map g)=some ((l.filter q).map r)
 | [],_=>rfl
 | x::l,h=>by
  obtain⟨γ1,h1,h2,I⟩:=h x zhj;have z:=zY q r l λy J=>h y (zhg _ J);simp only [zhq,zL,h1,h2,zg5];cases e:q x with
  | true=>simp [I e,z,e]
  | false=>simp [z,e]
theorem zdN{p x:Int}(z:Pr p)(I:0<x)(h1:x<p) : ∃y:Nat,1<=y/\(y:Int)<p/\(y:Int)*x%p=1:=by
 rcases z with rfl | rfl | rfl | rfl
 ·obtain rfl:x=1:=by omega
  exact⟨1,by decide,by decide,by decide⟩
 ·rcases (show x=1\/x=2 by omega)with rfl | rfl
  ·exact⟨1,by decide,by decide,by decide⟩
  ·exact⟨2,by decide,by decide,by decide⟩
 ·rcases (show x=1\/x=2\/x=3\/x=4 by omega)with rfl | rfl | rfl | rfl
  ·exact⟨1,by decide,by decide,by decide⟩
  ·exact⟨3,by decide,by decide,by decide⟩
  ·exact⟨2,by decide,by decide,by decide⟩
  ·exact⟨4,by decide,by decide,by decide⟩
 ·rcases (show x=1\/x=2\/x=3\/x=4\/x=5\/x=6 by omega)with rfl | rfl | rfl | rfl | rfl | rfl
  ·exact⟨1,by decide,by decide,by decide⟩
  ·exact⟨4,by decide,by decide,by decide⟩
  ·exact⟨5,by decide,by decide,by decide⟩
  ·exact⟨2,by decide,by decide,by decide⟩
  ·exact⟨3,by decide,by decide,by decide⟩
  ·exact⟨6,by decide,by decide,by decide⟩
theorem xv{q:Nat->Bool}{n a:Nat}{rest:List Nat}(h:(zgX n).filter q=a::rest):a<n/\q a=true/\∀i,i<a->q i=false:=by
 have z:a∈(zgX n).filter q:=by rw [h];exact zhj
 refine⟨zgZ.mp (zhm.mp z).1,(zhm.mp z).2,λi hi=>?_⟩;apply zhV;intro I;have J:q i=true:=by simpa using I
 have O:i∈a::rest:=by rw [<- h];exact zhm.mpr ⟨zgZ.mpr (by have:=zgZ.mp (zhm.mp z).1;omega),J⟩
 have Q:(a::rest).Pairwise (· < ·):=by rw [<- h];exact zjV _ zjj
 rcases zhh.mp O with e | e
 ·omega
 ·have:=(List.pairwise_cons.mp Q).1 i e;omega
theorem yY{q:Nat->Bool}{n:Nat}(h:(zgX n).filter q=[]) : ∀i,i<n->q i=false:=λi hi=>by
 apply zhV;intro z;have:i∈(zgX n).filter q:=zhm.mpr ⟨zgZ.mpr hi,by simpa using z⟩;rw [h]at this;simp at this
theorem Jo{p x:Int}(z:Pr p)(I:0<x)(h1:x<p) : ∃y,F_inverse [.int p,.int x]=some (.val (.int y))/\1<=y/\y<p/\x*y%p=1:=by
 rcases z with rfl | rfl | rfl | rfl
 ·have:x=1:=by omega
  subst this;exact⟨1,rfl,by decide,by decide,by decide⟩
 ·have:x=1\/x=2:=by omega
  rcases this with rfl | rfl
  ·exact⟨1,rfl,by decide,by decide,by decide⟩
  ·exact⟨2,rfl,by decide,by decide,by decide⟩
 ·have:x=1\/x=2\/x=3\/x=4:=by omega
  rcases this with rfl | rfl | rfl | rfl
  ·exact⟨1,rfl,by decide,by decide,by decide⟩
  ·exact⟨3,rfl,by decide,by decide,by decide⟩
  ·exact⟨2,rfl,by decide,by decide,by decide⟩
  ·exact⟨4,rfl,by decide,by decide,by decide⟩
 ·have:x=1\/x=2\/x=3\/x=4\/x=5\/x=6:=by omega
  rcases this with rfl | rfl | rfl | rfl | rfl | rfl
  ·exact⟨1,rfl,by decide,by decide,by decide⟩
  ·exact⟨4,rfl,by decide,by decide,by decide⟩
  ·exact⟨5,rfl,by decide,by decide,by decide⟩
  ·exact⟨2,rfl,by decide,by decide,by decide⟩
  ·exact⟨3,rfl,by decide,by decide,by decide⟩
  ·exact⟨6,rfl,by decide,by decide,by decide⟩
theorem yo{p:Int}(I:Pr p){n t:Nat}(J:n<=lim)(z:t<n)(w P:Nat->Int)(hw : ∀i,i<n->0<=w i/\w i<p) :
 F_cleared [.int p,.tup (zz n w),.tup (zz n P),.int t]=some (.val (.tup (zz n λi=>(w i - w t*P i)%p))):=by
 have S:=hw t z;have U:=I.le;have Q : ∀x,Zg (w t) x=true:=λx=>kc _ _ ⋯ ⋯;by_cases O:w t=0
 ·simp [F_cleared,z5,zV,zO,z,O]
  apply kO;intro i hi;rw [zik (hw i hi).1 (hw i hi).2]
 ·simp [F_cleared,z5,zV,zO,z,O,yu,J,z6,qb,zg2]
  rw [zv (r:=λi=>D.int (w i - w t*P i))]
  ·rw [<- z9]
   simp [vz _ I.pos J]
  ·intro i hi
   refine zw rfl rfl ?_;simp [Q]
theorem JJ{l:Nat->Nat}{r t:Nat}(z : ∀k m,k<m->m<r->l k<l m)(I : ∀k,k<r->l k<t):r<=t:=by
 have J : ∀k,k<r->k<=l k:=by
  intro k
  induction k with
  | zero=>intro _;exact zh7 _
  | succ k O=>
   intro Q;have h1:=O ⋯;have h2:=z k (k+1) ⋯ Q;omega
 cases r with
 | zero=>exact zh7 _
 | succ r=>
  have h1:=J r ⋯;have h2:=I r ⋯;omega
def yE:CO Fl:=(zI (zQ 6 (jk (zF (zD (zf 3)) (.nm 0) 1 [5] (sB (zu dNe (sIx (zf 0) (zc 1)) (zg (.int 0)))) (zc 0)))) (zI (sIf (xl (VM (zf 6))) VO j4) (zI (zQ 7 (zq F_inverse (za (zc 0) (za (sIx (zA (sIx (zf 6) (zg (.int 0)))) (zc 5)) zo)))) (zI (zQ 8 (zq F_rests (za (zc 0) (za (jk (zF (zD (zA (sIx (zf 6) (zg (.int 0))))) (.nm 0) 1 [7] ja (zu qI (zc 1) (zc 0)))) zo)))) (zI (zQ 3 (jk (zF (zD (zf 3)) (.nm 0) 1 [0,5,8] ja (zq F_cleared (za (zc 1) (za (zc 0) (za (zc 3) (za (zc 2) zo)))))))) (qL 4 (kA (jz (zF (zD (zf 4)) (.nm 0) 1 [0,5,8] ja (zq F_cleared (za (zc 1) (za (zc 0) (za (zc 3) (za (zc 2) zo))))))) (jz (qj (za (zc 8) zo))))))))))
def Un(r:Nat)(B:Nat->Vc)(m:Nat)(W:Nat->Vc):Vc->Prop:=λv=>Fam r B v\/Fam m W v
structure BInv(p:Int)(n m:Nat)(W:Nat->Vc)(t r:Nat)(B:Nat->Vc)(l:Nat->Nat)(Wt:Nat->Vc):Prop where
 rng : ∀j i,j<m->i<n->0<=Wt j i/\Wt j i<p
 zer : ∀j i,j<m->i<t->Wt j i=0
 isb:IsB p n r B l
 lt : ∀k,k<r->l k<t
 span : ∀v,Span p n (Un r B m Wt) v↔Span p n (Fam m W) v
section
variable{p:Int}{n m:Nat}{W:Nat->Vc}{t r:Nat}{B:Nat->Vc}{l:Nat->Nat}{Wt:Nat->Vc}
theorem BInv.skip(h:BInv p n m W t r B l Wt)(I : ∀j,j<m->Wt j t=0):BInv p n m W (t+1) r B l Wt:=
 ⟨h.rng,λj i z hi=>by
  rcases zhd i t with q | q
  ·exact h.zer j i z q
  ·have:i=t:=by omega
   subst this;exact I j z,h.isb,λk J=>zh0 (h.lt k J),h.span⟩
def clr(p:Int)(P:Vc)(t:Nat)(w:Vc):Vc:=λi=>(w i - w t*P i)%p
def XF(p:Int)(P:Vc)(t r:Nat)(B:Nat->Vc):Nat->Vc:=λk=>if k<r then clr p P t (B k)else P
def zaz(t r:Nat)(l:Nat->Nat):Nat->Nat:=λk=>if k<r then l k else t
theorem yC{G:Vc->Prop}{P w:Vc}(z:Span p n G P)(hw:Span p n G w):Span p n G (clr p P t w):=
 (z.add hw (-(w t))).congr λi _=>by unfold clr;rw [zhs];congr 1;rw [Int.neg_mul];omega
theorem Qh{G:Vc->Prop}{P w:Vc}(z:Span p n G P)(hw:Span p n G (clr p P t w)):Span p n G w:=
 (z.add hw (w t)).congr λi _=>by
   unfold clr;rw [zhp,zhs,<- zhp];congr 1;omega
theorem BInv.next(Y:Pr p)(h:BInv p n m W t r B l Wt)(ht:t<n){O:Nat}(a4:O<m){y:Int}(hy:Wt O t*y%p=1){P:Vc}(Q : ∀i,i<n->P i=y*Wt O i%p) :
 BInv p n m W (t+1) (r+1) (XF p P t r B) (zaz t r l) (λj=>clr p P t (Wt j)):=by
 have p0:=Y.pos;have one:=Y.one;have Pt:P t=1:=by rw [Q t ht,zix];exact hy
 have Z : ∀i,i<t->P i=0:=λi hi=>by rw [Q i ⋯,h.zer O i a4 hi];simp
 have aa : ∀i,i<n->0<=P i/\P i<p:=λi hi=>by rw [Q i hi];exact⟨zhM _ ⋯,zht _ p0⟩
 have cr : ∀(w:Vc) i,0<=clr p P t w i/\clr p P t w i<p:=λw i=>⟨zhM _ ⋯,zht _ p0⟩;have S : ∀(w:Vc) i,i<t->0<=w i->w i<p->clr p P t w i=w i:=λw i hi h1 h2=>by
  unfold clr;rw [Z i hi,zkJ,Int.sub_zero];exact zik h1 h2
 have ct : ∀w:Vc,clr p P t w t=0:=λw=>by unfold clr;rw [Pt,zj2,Int.sub_self];simp
 refine⟨λj i J hi=>cr _ _,λj i J hi=>?_,⟨λk I=>?_,λk q ab hq=>?_,λk I=>?_,λk j I J=>?_,λk q I hq ad=>?_,λk i I hi=>?_⟩,λk I=>?_,λv=>?_⟩
 ·rcases zhd i t with q | q
  ·have e:=h.zer j i J q
   rw [S _ i q ⋯ ⋯];exact e
  ·have:i=t:=by omega
   subst this;exact ct _
 ·unfold zaz;split
  ·rename_i q;exact h.isb.lt k q
  ·exact ht
 ·unfold zaz
  have I:k<r:=by omega
  rw [if_pos I];split
  ·rename_i z;exact h.isb.mono k q ab z
  ·exact h.lt k I
 ·unfold zaz XF;split
  ·rename_i q
   have e:=h.isb.one k q;have U:=h.lt k q;rw [S _ _ U ⋯ (by have:=Y.two;omega)];exact e
  ·exact Pt
 ·unfold XF;unfold zaz at J;split at J
  ·rename_i q
   have e:=h.isb.bef k j q J;have U:=h.lt k q;rw [if_pos q,S _ _ ⋯ ⋯ ⋯];exact e
  ·rename_i q
   rw [if_neg q];exact Z j J
 ·unfold XF zaz
  by_cases z1:k<r
  ·rw [if_pos z1]
   by_cases z2:q<r
   ·rw [if_pos z2]
    have e:=h.isb.oth k q z1 z2 ad;have U:=h.lt q z2;rw [S _ _ U ⋯ ⋯];exact e
   ·rw [if_neg z2];exact ct _
  ·rw [if_neg z1]
   have z2:q<r:=by omega
   rw [if_pos z2];exact Z _ (h.lt q z2)
 ·unfold XF;split
  ·exact cr _ _
  ·exact aa i hi
 ·unfold zaz;split
  ·rename_i q;exact zh0 (h.lt k q)
  ·exact zif _
 ·rw [<- h.span v]
  have a0:Span p n (Un r B m Wt) P:=((Span.gen (p:=p) (n:=n) (G:=Un r B m Wt) (g:=Wt O) (.inr ⟨O,a4,rfl⟩)).smul y).congr λi hi=>by rw [Q i hi,zhs]
  have a8:Span p n (Un (r+1) (XF p P t r B) m λj=>clr p P t (Wt j)) P:= .gen (.inl ⟨r,zif r,by unfold XF;rw [if_neg (zhC r)]⟩);constructor
  ·refine λhv=>hv.le λg hg=>?_
   rcases hg with⟨k,I,rfl⟩ | ⟨j,J,rfl⟩
   ·unfold XF;split
    ·rename_i q;exact yC a0 (.gen (.inl ⟨k,q,rfl⟩))
    ·exact a0
   ·exact yC a0 (.gen (.inr ⟨j,J,rfl⟩))
  ·refine λhv=>hv.le λg hg=>?_
   rcases hg with⟨k,I,rfl⟩ | ⟨j,J,rfl⟩
   ·refine Qh (t:=t) a8 (.gen (.inl ⟨k,zh0 I,?_⟩))
    unfold XF;rw [if_pos I]
   ·exact Qh (t:=t) a8 (.gen (.inr ⟨j,J,rfl⟩))
theorem BInv.done(h:BInv p n m W n r B l Wt)(v:Vc):Span p n (Fam r B) v↔Span p n (Fam m W) v:=by
 rw [<- h.span v];constructor
 ·exact λI=>I.le λg z=> .gen (.inl z)
 ·refine λI=>I.le λg z=>?_
  rcases z with z | ⟨j,J,rfl⟩
  ·exact .gen z
  ·exact .zero λi hi=>by rw [h.zer j i J hi];simp
theorem YS(I:True)(P:Vc):zM (r+1) n (XF p P t r B)=zM r n (λk=>clr p P t (B k))++[.tup (zz n P)]:=by
 unfold zM;rw [zh5,zhG];congr 1
 ·apply zhi
  intro k z;have:=zgZ.mp z;simp [XF,this]
 ·simp [XF]
end
theorem jX{p:Int}(S:Pr p){n m:Nat}(hn:n<=100)(Z:m<=lim)(kk:Sk)(W:Nat->Vc) :
 ∃r B l,F_base_of [.int p,.int n,dsq kk (zM m n W)]=some (.own (zM r n B))/\IsB p n r B l/\∀v,Span p n (Fam r B) v↔Span p n (Fam m W) v:=by
 have hl:=jf;have U:n<=lim:=by omega
 have p0:=S.pos;have a6:=xu (T:= .nm 5) (F:=yE)
  (λt γ=>∃r B l Wt c5 c6 c7 c8,γ=[.val (.int p),.val (.int n),.val (dsq kk (zM m n W)),.val (.lst (zM m n Wt)),.own (zM r n B),c5,c6,c7,c8]/\BInv p n m W t r B l Wt)
  ((zgX n).map λ(i:Nat)=>D.int i) 0 [.val (.int p),.val (.int n),.val (dsq kk (zM m n W)),.val (.lst (zM m n λj i=>W j i%p)),.own [],.no,.no,.no,.no]
  ⟨0,λ_ _=>0,λ_=>0,λj i=>W j i%p,.no,.no,.no,.no,rfl,λj i _ _=>⟨zhM _ ⋯,zht _ p0⟩,λj i _ hi=>absurd hi (zhn _),
   ⟨λk I=>absurd I (zhn _),λk q _ I=>absurd I (zhn _),λk I=>absurd I (zhn _),λk j I=>absurd I (zhn _),λk q I=>absurd I (zhn _),λk i I=>absurd I (zhn _)⟩,
   λk I=>absurd I (zhn _),λv=>⟨λhv=>hv.le λg hg=>by
    rcases hg with⟨k,I,_⟩ | ⟨j,O,rfl⟩
    ·exact absurd I (zhn _)
    ·exact(Span.gen (p:=p) (n:=n) (G:=Fam m W) (g:=W j) ⟨j,O,rfl⟩).congr λi _=>zhs _ _,λhv=>hv.le λg hg=>by
    obtain⟨j,O,rfl⟩:=hg;exact(Span.gen (p:=p) (n:=n) (G:=Un 0 (λ_ _=>0) m λj i=>W j i%p) (g:=λi=>W j i%p) (.inr ⟨j,O,rfl⟩)).congr λi _=>(zhs _ _).symm⟩⟩ (by
   rintro t d γ hd ⟨r,B,l,Wt,c5,c6,c7,c8,rfl,J⟩;rw [ziO]at J ⊢;have Q:t<n:=by have:=(zhe.mp hd).1;simpa using this
   have a7:d = .int t:=by simp [Q]at hd;exact hd.symm
   subst a7;have Y:zL (.nm 0) (sB (zu dNe (sIx (zf 0) (zc 1)) (zg (.int 0)))) (zc 0) [Cell.no,Cell.val (.int t)] (zM m n Wt)=some (((zgX m).filter λj=> !decide (Wt j t=0)).map λj=>D.tup (zz n (Wt j))):=by
    unfold zM;refine zY _ _ _ λj O=>⟨_,rfl,?_,λ_=>rfl⟩;simp [Q]
   have hr:r<=t:=JJ J.isb.mono J.lt;have a8:r<=lim:=by omega
   cases hf:(zgX m).filter λj=> !decide (Wt j t=0)with
   | nil=>
    have hz : ∀j,j<m->Wt j t=0:=λj O=>by
     apply zhV;intro a3;have:j∈(zgX m).filter λj=> !decide (Wt j t=0):=zhm.mpr ⟨zgZ.mpr O,by simp [a3]⟩;rw [hf]at this;simp at this
    rw [hf]at Y;refine⟨_,.inr ?_,r,B,l,Wt,.val (.int t),.val (.lst []),c7,c8,rfl,J.skip hz⟩;simp only [xO,zg5,zhx,zhw,yE];rw [zO];simp [zO,z6,qb,zg2,Y,Z]
   | cons z rest=>
    have a4:z∈(zgX m).filter λj=> !decide (Wt j t=0):=by rw [hf];exact zhj
    have a5:z<m:=zgZ.mp (zhm.mp a4).1;have a3:Wt z t≠0:=by simpa using (zhm.mp a4).2
    have aa:=J.rng z t a5 Q;obtain⟨y,ey,y1,y2,yy⟩:=Jo S (x:=Wt z t) ⋯ aa.2;rw [hf]at Y;have nx:=J.next S Q a5 yy (P:=λi=>y*Wt z i%p) λi _=>rfl;refine⟨_,.inl ?_,r+1,XF p (λi=>y*Wt z i%p) t r B,zaz t r l,λj=>clr p (λi=>y*Wt z i%p) t (Wt j),.val (.int t),.val (.lst ((z::rest).map λj=>D.tup (zz n (Wt j)))),.val (.int y),.val (.tup (zz n λi=>y*Wt z i%p)),rfl,nx⟩;have ap:=S.le;have cy : ∀x,Zg y x=true:=λx=>kc _ _ ⋯ ⋯;have ae:zL (.nm 0) ja (zu qI (zc 1) (zc 0)) [Cell.no,Cell.val (.int y)] (zz n (Wt z))=some (zz n λi=>y*Wt z i):=by
     rw [z9,z9];refine zv _ _ λi hi=>zw rfl rfl ?_;simp [cy]
    have af:zL (.nm 0) ja (zq F_cleared (za (zc 1) (za (zc 0) (za (zc 3) (za (zc 2) zo))))) [Cell.no,Cell.val (.int p),Cell.val (.int t),Cell.val (.tup (zz n λi=>y*Wt z i%p))] (zM m n Wt)=some (zM m n λj=>clr p (λi=>y*Wt z i%p) t (Wt j)):=by
     unfold zM;refine zv _ _ λj O=>zw rfl rfl ?_;simp [yo S U Q (Wt j) (λi=>y*Wt z i%p) λi hi=>J.rng j i (zgZ.mp O) hi];rfl
    have ag:zL (.nm 0) ja (zq F_cleared (za (zc 1) (za (zc 0) (za (zc 3) (za (zc 2) zo))))) [Cell.no,Cell.val (.int p),Cell.val (.int t),Cell.val (.tup (zz n λi=>y*Wt z i%p))] (zM r n B)=some (zM r n λj=>clr p (λi=>y*Wt z i%p) t (B j)):=by
     unfold zM;refine zv _ _ λj O=>zw rfl rfl ?_;simp [yo S U Q (B j) (λi=>y*Wt z i%p) λi hi=>J.isb.rng j i (zgZ.mp O) hi];rfl
    have ah:r+1<=lim:=by omega
    rw [YS trivial];simp only [xO,zg5,zhx,zhw,yE];rw [zO];simp [zO,z6,qb,zg2,Y,Z,U,Q,ey,ae,vz _ p0 U,af,ag,a8,ah])
 obtain⟨γ',e1,r,B,l,Wt,c5,c6,c7,c8,rfl,J⟩:=a6;simp only [zhk,ziI,ziO]at J;refine⟨r,B,l,?_,J.isb,J.done⟩;have ai:zL (.nm 0) ja (zq F_rests (za (zc 1) (za (zc 0) zo))) [Cell.no,Cell.val (.int p)] (zM m n W)=some (zM m n λj i=>W j i%p):=by
  unfold zM;refine zv _ _ λj O=>zw rfl rfl ?_;simp [Vl _ p0 U]
 have e0:F_base_of [.int p,.int n,dsq kk (zM m n W)]=z5 9 (zI (zQ 3 (jk (zF (zD (zf 2)) (.nm 0) 1 [0] ja (zq F_rests (za (zc 1) (za (zc 0) zo)))))) (zI (qL 4 (qj zo)) (zI (yk (ji (zc 1)) (.nm 5) yE) (kz 4)))) [.int p,.int n,dsq kk (zM m n W)]:=rfl;rw [e0];simp [z5,zV,zO,Z,z6,qb,zg2,ai,U,jK];rw [z9 n λi=>(i:Int),e1];simp
@[simp] theorem zd5(γ:Ctx)(f):Ju f γ=(f γ).bind λa=>match a.1 with
 | .L=>VH a.2
 | _=>none:=rfl
def xS(n r:Nat)(B:Nat->Vc)(l:Nat->Nat):List D:=(zgX r).map λk=>D.tup [.int (l k),.lst (zz n (B k))]
@[simp] theorem QR(n r B l):(xS n r B l).length=r:=by simp [xS]
def xY{α:Type}(q:Nat)(x:α)(f:Nat->α):Nat->α:=λk=>if k<q then f k else if k=q then x else f (k - 1)
theorem Yn(n:Nat)(B:Nat->Vc)(l:Nat->Nat)(ks:List Nat):vK (ks.map λk=>D.tup [.int (l k),.lst (zz n (B k))])=some (ks.map λk=>(l k:Int)):=by
 induction ks with
 | nil=>rfl
 | cons k ks z=>simp [vK,zex,z]
theorem QJ : ∀(ds:List D) (e:D) (k:Int) (z:List Int),vK ds=some z->zex e=some k->vK (ds++[e])=some (z++[k])
 | [],e,k,z,h,he=>by cases h;simp [vK,he]
 | d::ds,e,k,z,h,he=>by
  simp only [vK]at h;cases e1:zex d with
  | none=>rw [e1]at h;simp at h
  | some a=>
   rw [e1]at h;cases e2:vK ds with
   | none=>rw [e2]at h;simp at h
   | some r=>
    rw [e2]at h;simp at h;subst h;simp [vK,e1,QJ ds e k r e2 he]
theorem Jg{l:Nat->Nat} : ∀(m a:Nat),(∀k,a<=k->k+1<a+m->l k<l (k+1))->zd3 ((ziz a m).map λk=>(l k:Int))=true
 | 0,a,_=>rfl
 | 1,a,_=>rfl
 | m+2,a,h=>by
  rw [zia,zhq];have e:ziz (a+1) (m+1)=(a+1)::ziz (a+1+1) m:=zia ..;rw [e,zhq];simp only [zd3];have h1:l a<l (a+1):=h a (zg3 _) ⋯;rw [Bool.and_eq_true];refine⟨decide_eq_true ⋯,?_⟩;have:=Jg (m+1) (a+1) λk z I=>h k ⋯ ⋯;rw [e,zhq]at this;exact this
def kT(l:Nat->Nat)(r x:Nat):Nat:=((zgX r).filter λk=>decide (l k<x)).length
theorem yB{l:Nat->Nat}{x:Nat} : ∀{r:Nat},(∀k m,k<m->m<r->l k<l m)->(∀k,k<r->l k≠x)->kT l r x<=r/\(∀k,k<kT l r x->l k<x)/\∀k,kT l r x<=k->k<r->x<l k
 | 0,_,_=>⟨zg3 _,λk I=>absurd I (by simp [kT]),λk _ I=>absurd I (zhn _)⟩
 | r+1,hm,hne=>by
  obtain⟨h1,h2,J⟩:=yB (r:=r) (x:=x) (λk m a b=>hm k m a ⋯) λk I=>hne k ⋯;have e:kT l (r+1) x=kT l r x+if l r<x then 1 else 0:=by
   unfold kT;rw [zh5,zjM,zh3];by_cases q:l r<x<;>simp [q]
  by_cases q:l r<x
  ·rw [e,if_pos q]
   have O:kT l r x=r:=by
    rcases zhd (kT l r x) r with z | z
    ·have Q:=J (kT l r x) (zg3 _) z
     have S:=hm (kT l r x) r z (zif r);omega
    ·omega
   rw [O];refine⟨zg3 _,λk I=>?_,λk a b=>absurd b ⋯⟩;rcases zhd k r with z | z
   ·exact h2 k ⋯
   ·have:k=r:=by omega
    subst this;exact q
  ·rw [e,if_neg q,zkF]
   refine⟨by omega,h2,λk a b=>?_⟩;rcases zhd k r with z | z
   ·exact J k a z
   ·have:k=r:=by omega
    subst this;have:=hne k b;omega
theorem Yv{α:Type}(f:Nat->α)(x:α){q r:Nat}(S:q<=r):((zgX r).map f).take q++(x::((zgX r).map f).drop q)=(zgX (r+1)).map (xY q x f):=by
 apply zjl;intro i;have I:(((zgX r).map f).take q).length=q:=by simp;omega
 have O : ∀k,((zgX (r+1)).map (xY q x f))[k]? = if k<r+1 then some (xY q x f k)else none:=λk=>by
  by_cases z:k<r+1
  ·rw [if_pos z,zg0 (by simpa using z)];simp
  ·rw [if_neg z,zkb (by simpa using z)]
 have J : ∀k,((zgX r).map f)[k]? = if k<r then some (f k)else none:=λk=>by
  by_cases z:k<r
  ·rw [if_pos z,zg0 (by simpa using z)];simp
  ·rw [if_neg z,zkb (by simpa using z)]
 rw [O];rcases zjr i q with h | h | h
 ·rw [zhX ⋯,List.getElem?_take,if_pos h,J,if_pos ⋯,if_pos ⋯]
  unfold xY;rw [if_pos h]
 ·subst h
  rw [zhL ⋯,I,Nat.sub_self,if_pos ⋯];unfold xY;rw [if_neg (zhC _),if_pos rfl];rfl
 ·obtain⟨d,rfl⟩ : ∃d,i=q+1+d:=⟨i - (q+1),by omega⟩
  rw [zhL ⋯,I,show q+1+d - q=d+1 by omega,zhb,List.getElem?_drop,J];have Q:q+1+d - 1=q+d:=by omega
  by_cases hd:q+d<r
  ·rw [if_pos hd,if_pos ⋯]
   unfold xY;rw [if_neg ⋯,if_neg ⋯,Q]
  ·rw [if_neg hd,if_neg ⋯]
theorem Kq{n r x:Nat}{B:Nat->Vc}{l:Nat->Nat}{R:Vc}(hr:r<=7)(z : ∀k m,k<m->m<r->l k<l m)(I : ∀k,k<r->l k≠x) :
 VH (xS n r B l++[.tup [.int x,.lst (zz n R)]])=some (xS n (r+1) (xY (kT l r x) R B) (xY (kT l r x) x l)):=by
 have S:=QJ (xS n r B l) (.tup [.int x,.lst (zz n R)]) x _ (Yn n B l (zgX r)) rfl;unfold VH;rw [S];simp only [zg5];have U:zd3 ((zgX r).map λk=>(l k:Int))=true:=by
  rw [zie];exact Jg r 0 λk _ J=>z k (k+1) ⋯ ⋯
 have Y : ¬((x:Int)∈(zgX r).map λk=>(l k:Int)):=by
  intro h;obtain⟨k,J,e⟩:=zhr.mp h;exact I k (zgZ.mp J) ⋯
 have O:((zgX r).map (λk=>(l k:Int))++[(x:Int)]).dropLast=(zgX r).map λk=>(l k:Int):=by simp
 have Q:((zgX r).map (λk=>(l k:Int))++[(x:Int)]).getLast?.getD 0=(x:Int):=by simp
 rw [O,Q,if_pos ⟨⟨by simp,by simp;omega⟩,U,decide_eq_false Y⟩];have Z:zfb ((zgX r).map (λk=>(l k:Int))++[(x:Int)])=kT l r x:=by
  unfold zfb kT;rw [O,Q,List.filter_map,zhk];congr 1;apply zkz;intro k _;simp
 rw [Z];unfold zga;have hq:=(yB z I).1;have e1:(xS n r B l++[D.tup [.int x,.lst (zz n R)]]).dropLast=xS n r B l:=by simp
 have e2:(xS n r B l++[D.tup [.int x,.lst (zz n R)]]).drop ((xS n r B l++[D.tup [.int x,.lst (zz n R)]]).length - 1)=[D.tup [.int x,.lst (zz n R)]]:=by simp
 rw [e1,e2];have:=Yv (λk=>D.tup [.int (l k),.lst (zz n (B k))]) (D.tup [.int x,.lst (zz n R)]) hq;unfold xS;refine congrArg some (Eq.trans this ?_);apply zhi;intro k _;unfold xY;split
 ·rfl
 ·split<;>rfl
section
variable{p:Int}{n r:Nat}{B:Nat->Vc}{l:Nat->Nat}{w:Vc}
structure RInv(p:Int)(n r:Nat)(B:Nat->Vc)(l:Nat->Nat)(w:Vc)(k:Nat)(R:Vc):Prop where
 rng : ∀i,i<n->0<=R i/\R i<p
 zer : ∀q,q<k->R (l q)=0
 eqv : ∀G,(∀k,k<r->Span p n G (B k))->(Span p n G w↔Span p n G R)
theorem RInv.next(S:Pr p)(Q:IsB p n r B l){k:Nat}{R:Vc}(h:RInv p n r B l w k R)(I:k<r):RInv p n r B l w (k+1) (clr p (B k) (l k) R):=by
 have U:=S.pos;refine⟨λi _=>⟨zhM _ ⋯,zht _ U⟩,λq Y=>?_,λG J=>?_⟩
 ·unfold clr
  rcases zhd q k with z | z
  ·rw [h.zer q z,Q.oth k q I ⋯ ⋯];simp
  ·have:q=k:=by omega
   subst this;rw [Q.one q I];simp
 ·rw [h.eqv G J]
  exact⟨λO=>yC (J k I) O,λO=>Qh (J k I) O⟩
theorem ZX{α:Type}{q:Nat}{x:α}{f:Nat->α}{k:Nat}(J:q<=r)(O:k<r+1):(k=q/\xY q x f k=x)\/∃I,I<r/\xY q x f k=f I/\((k<q/\I=k)\/(q<k/\I+1=k)):=by
 unfold xY;rcases zjr k q with z | z | z
 ·right;exact⟨k,by omega,by rw [if_pos z],.inl ⟨z,rfl⟩⟩
 ·left;subst z;exact⟨rfl,by rw [if_neg (zhC _),if_pos rfl]⟩
 ·right;exact⟨k - 1,by omega,by rw [if_neg ⋯,if_neg ⋯],.inr ⟨z,by omega⟩⟩
theorem ins_at_q{α:Type}{q:Nat}{x:α}{f:Nat->α}:xY q x f q=x:=by unfold xY;rw [if_neg (zhC _),if_pos rfl]
theorem zbO{α:Type}{q:Nat}{x:α}{f:Nat->α}{k:Nat} : ∃I,(I<q/\I=k\/q<I/\I=k+1)/\xY q x f I=f k:=by
 rcases zhd k q with z | z
 ·exact⟨k,.inl ⟨z,rfl⟩,by unfold xY;rw [if_pos z]⟩
 ·exact⟨k+1,.inr ⟨by omega,rfl⟩,by unfold xY;rw [if_neg ⋯,if_neg ⋯];rfl⟩
theorem zbP(hp:Pr p)(S:IsB p n r B l){a:Nat}{R:Vc}(ha:a<n)(h1:R a=1)(hz : ∀i,i<a->R i=0)(hl : ∀k,k<r->R (l k)=0)(hR : ∀i,i<n->0<=R i/\R i<p) :
 IsB p n (r+1) (xY (kT l r a) R λk=>clr p R a (B k)) (xY (kT l r a) a l):=by
 have p0:=hp.pos;have a9 : ∀k,k<r->l k≠a:=λk J e=>by have:=hl k J;rw [e,h1]at this;omega
 obtain⟨hq,q1,q2⟩:=yB S.mono a9;have cr : ∀(w:Vc) i,0<=clr p R a w i/\clr p R a w i<p:=λw i=>⟨zhM _ ⋯,zht _ p0⟩;have ca : ∀w:Vc,clr p R a w a=0:=λw=>by unfold clr;rw [h1,zj2,Int.sub_self];simp
 have cl : ∀(w:Vc) k,k<r->0<=w (l k)->w (l k)<p->clr p R a w (l k)=w (l k):=λw k J h1 h2=>by
  unfold clr;rw [hl k J,zkJ,Int.sub_zero];exact zik h1 h2
 have cb : ∀k j,k<r->j<l k->clr p R a (B k) j=0:=λk j J Y=>by
  unfold clr;rw [S.bef k j J Y];rcases zhd a (l k)with z | z
  ·rw [S.bef k a J z];simp
  ·rw [hz j ⋯];simp
 have two:=hp.two;have Q : ∀k,k<r+1->(k=kT l r a/\xY (kT l r a) R (λk=>clr p R a (B k)) k=R/\xY (kT l r a) a l k=a)\/
  ∃I,I<r/\xY (kT l r a) R (λk=>clr p R a (B k)) k=clr p R a (B I)/\xY (kT l r a) a l k=l I/\((k<kT l r a/\I=k)\/(kT l r a<k/\I+1=k)):=by
  intro k J;rcases ZX (x:=R) (f:=λk=>clr p R a (B k)) hq J with⟨e1,e2⟩ | ⟨I,O,e1,e2⟩
  ·left;refine⟨e1,e2,?_⟩;subst e1;exact ins_at_q
  ·right
   refine⟨I,O,e1,?_,e2⟩;rcases e2 with⟨z1,z2⟩ | ⟨z1,z2⟩
   ·unfold xY;rw [if_pos z1,z2]
   ·unfold xY;rw [if_neg ⋯,if_neg ⋯];congr 1;omega
 refine⟨λk J=>?_,λk m ag hm=>?_,λk J=>?_,λk j J Y=>?_,λk m J hm ah=>?_,λk i J hi=>?_⟩
 ·rcases Q k J with⟨_,_,e⟩ | ⟨I,O,_,e,_⟩
  ·rw [e];exact ha
  ·rw [e];exact S.lt I O
 ·rcases Q k ⋯with⟨z,_,e⟩ | ⟨I,O,_,e,z⟩<;>rcases Q m hm with⟨z',_,Z⟩ | ⟨m',U,_,Z,z'⟩<;>rw [e,Z]
  ·omega
  ·exact q2 m' ⋯ U
  ·exact q1 I ⋯
  ·exact S.mono I m' ⋯ U
 ·rcases Q k J with⟨_,e1,e⟩ | ⟨I,O,e1,e,_⟩<;>rw [e1,e]
  ·exact h1
  ·have o:=S.one I O
   rw [cl _ I O ⋯ ⋯];exact o
 ·rcases Q k J with⟨_,e1,e⟩ | ⟨I,O,e1,e,_⟩<;>rw [e1]<;>rw [e]at Y
  ·exact hz j Y
  ·exact cb I j O Y
 ·rcases Q k J with⟨z,e1,_⟩ | ⟨I,O,e1,_,z⟩<;>rcases Q m hm with⟨z',_,Z⟩ | ⟨m',U,_,Z,z'⟩<;>rw [e1,Z]
  ·omega
  ·exact hl m' U
  ·exact ca _
  ·have o:=S.oth I m' O U ⋯
   rw [cl _ m' U ⋯ ⋯];exact o
 ·rcases Q k J with⟨_,e1,_⟩ | ⟨I,O,e1,_,_⟩<;>rw [e1]
  ·exact hR i hi
  ·exact cr _ _
theorem zbQ{G:Vc->Prop}{q:Nat}{R:Vc}{F:Nat->Vc}(z:q<=r)(I:Span p n G R)(J : ∀k,k<r->Span p n G (F k)) : ∀g,Fam (r+1) (xY q R F) g->Span p n G g:=by
 rintro g ⟨k,O,rfl⟩;rcases ZX (x:=R) (f:=F) z O with⟨_,e⟩ | ⟨Q,S,e,_⟩<;>rw [e]
 ·exact I
 ·exact J Q S
theorem zbJ{q:Nat}{R:Vc}{F:Nat->Vc}(I:q<=r):Fam (r+1) (xY q R F) R/\∀k,k<r->Fam (r+1) (xY q R F) (F k):=by
 refine⟨⟨q,by omega,ins_at_q.symm⟩,λk J=>?_⟩;obtain⟨z,h,e⟩:=zbO (q:=q) (x:=R) (f:=F) (k:=k);exact⟨z,by omega,e.symm⟩
theorem WA(hp:Pr p){W:Nat->Vc}{j a:Nat}{R R':Vc}{y:Int}(hb:IsB p n r B l)(ha:a<n)(O : ∀v,Span p n (Fam r B) v↔Span p n (Fam j W) v)(Q:RInv p n r B l (W j) r R)(hy:y*R a%p=1)(S : ∀i,i<n->R' i=y*R i%p)(U:kT l r a<=r)(v:Vc) :
 Span p n (Fam (r+1) (xY (kT l r a) R' λk=>clr p R' a (B k))) v↔Span p n (Fam (j+1) W) v:=by
 have up : ∀v,Span p n (Fam j W) v->Span p n (Fam (j+1) W) v:=λv J=>J.le λg ⟨i,hi,e⟩=> .gen ⟨i,by omega,e⟩;have Y : ∀k,k<r->Span p n (Fam (j+1) W) (B k):=λk I=>up _ ((O _).mp (.gen ⟨k,I,rfl⟩));have a4:Span p n (Fam (j+1) W) R:=(Q.eqv _ Y).mp (.gen ⟨j,by omega,rfl⟩);have Z:Span p n (Fam (j+1) W) R':=(a4.smul y).congr λi hi=>by rw [S i hi,zhs]
 obtain⟨m1,m2⟩:=zbJ (R:=R') (F:=λk=>clr p R' a (B k)) U;have a0:Span p n (Fam (r+1) (xY (kT l r a) R' λk=>clr p R' a (B k))) R':= .gen m1;have gB : ∀k,k<r->Span p n (Fam (r+1) (xY (kT l r a) R' λk=>clr p R' a (B k))) (B k):=λk I=>Qh (t:=a) a0 (.gen (m2 k I));have gR:Span p n (Fam (r+1) (xY (kT l r a) R' λk=>clr p R' a (B k))) R:=(a0.smul (R a)).congr λi hi=>by
  rw [S i hi,ZS,<- ziw,zix (R a) y,zg8,hy,Int.one_mul,zhs]
 constructor
 ·exact λJ=>J.le (zbQ U Z λk I=>yC Z (Y k I))
 ·refine λJ=>J.le ?_
  rintro g ⟨i,hi,rfl⟩;rcases zhd i j with z | z
  ·exact((O _).mpr (.gen ⟨i,z,rfl⟩)).le λg hZ=>by obtain⟨k,I,e⟩:=hZ;rw [e];exact gB k I
  ·have:i=j:=by omega
   subst this;exact(Q.eqv _ gB).mpr gR
theorem Kw{W:Nat->Vc}{j:Nat}{R:Vc}(J : ∀v,Span p n (Fam r B) v↔Span p n (Fam j W) v)(O:RInv p n r B l (W j) r R)(Q : ∀i,i<n->R i=0)(v:Vc):Span p n (Fam r B) v↔Span p n (Fam (j+1) W) v:=by
 constructor
 ·exact λI=>((J v).mp I).le λg ⟨i,hi,e⟩=> .gen ⟨i,by omega,e⟩
 ·refine λI=>I.le ?_
  rintro g ⟨i,hi,rfl⟩;rcases zhd i j with z | z
  ·exact(J _).mpr (.gen ⟨i,z,rfl⟩)
  ·have:i=j:=by omega
   subst this;exact(O.eqv _ λk S=> .gen ⟨k,S,rfl⟩).mpr (.zero λi hi=>by rw [Q i hi];simp)
end
def Zh:CO Fl:=(zI (zQ 8 (sIx (zf 5) (zc 6))) (zQ 5 (jk (zF (Qn (zc 5) (zc 7)) (.tp [0,1]) 2 [0,8] ja (zu qx (zu qP (zc 0) (zu qI (zc 3) (zc 1))) (zc 2))))))
def yD:CO Fl:=(zI (zQ 8 (sIx (zf 7) (zc 6))) (qs 11 (jp (za (zc 12) (za (jk (zF (Qn (zc 7) (zc 5)) (.tp [0,1]) 2 [0,8] ja (zu qx (zu qP (zc 0) (zu qI (zc 3) (zc 1))) (zc 2)))) zo)))))
def Y8:CO Fl:=(zI (zQ 6 (sIx (zf 9) (zg (.int 0)))) (zI (zQ 10 (sIx (jz (zF (kg (zg (.int 1)) (zc 0)) (.nm 0) 1 [0,5,6] (sB (zu dEq (zu qx (zu qI (zc 0) (sIx (zf 2) (zc 3))) (zc 1)) (zg (.int 1)))) (zc 0))) (zg (.int 0)))) (zI (zQ 5 (jk (zF (zD (zf 5)) (.nm 0) 1 [0,10] ja (zu qx (zu qI (zc 2) (zc 0)) (zc 1))))) (zI (qL 11 (qj zo)) (zI (yk (zD (zA (zc 3))) (.tp [12,7]) yD) (zQ 3 (jk (Ju (jz (kA (zf 11) (jz (qj (za (jp (za (zc 6) (za (zc 5) zo))) zo)))))))))))))
def Q2:CO Fl:=(zI (zQ 5 (jk (Jw (zf 4)))) (zI (yk (zD (zA (zc 3))) (.tp [6,7]) Zh) (zI (zQ 9 (jk (zF (ji (zc 1)) (.nm 0) 1 [5] (sB (zu dNe (sIx (zf 1) (zc 0)) (zg (.int 0)))) (zc 0)))) (sIf (sB (zu dGt (k4 (zf 9)) (zg (.int 0)))) Y8 j4))))
section
variable{p:Int}{n m:Nat}{kk:Sk}{W:Nat->Vc}{r:Nat}{B:Nat->Vc}{l:Nat->Nat}
theorem QZ{n:Nat}{p:Int}(z:Pr p)(J:n<=lim)(x y:Vc)(t:Nat)(O:0<=x t/\x t<p) :
 zL (.tp [0,1]) ja (zu qx (zu qP (zc 0) (zu qI (zc 3) (zc 1))) (zc 2)) [Cell.no,Cell.no,Cell.val (.int p),Cell.val (.int (x t))] ((zgX n).map λi=>D.tup [.int (x i),.int (y i)])=some (zz n (clr p y t x)):=by
 have I:=z.pos;have Q:=z.le;rw [z9];refine zv _ _ λi hi=>zw rfl rfl ?_;simp [kc (x t) (y i) ⋯ ⋯,I,clr]
theorem VW(U:Pr p)(Y:n<=lim)(Z:IsB p n r B l)(w:Vc)(hw : ∀i,i<n->0<=w i/\w i<p)(I J c6 c7 c8 c9 c10 O Q:Cell) :
 ∃R d6 d7 d8,RInv p n r B l w r R/\qh (.tp [6,7]) Zh (xS n r B l) [.val (.int p),.val (.int n),I,.val (.lst (xS n r B l)),J,.val (.lst (zz n w)),c6,c7,c8,c9,c10,O,Q] =
  some (.next [.val (.int p),.val (.int n),I,.val (.lst (xS n r B l)),J,.val (.lst (zz n R)),d6,d7,d8,c9,c10,O,Q]):=by
 have a5:=xu (T:= .tp [6,7]) (F:=Zh)
  (λk γ=>∃R c6 c7 c8,γ=[.val (.int p),.val (.int n),I,.val (.lst (xS n r B l)),J,.val (.lst (zz n R)),c6,c7,c8,c9,c10,O,Q]/\RInv p n r B l w k R)
  (xS n r B l) 0 [.val (.int p),.val (.int n),I,.val (.lst (xS n r B l)),J,.val (.lst (zz n w)),c6,c7,c8,c9,c10,O,Q]
  ⟨w,c6,c7,c8,rfl,hw,λq hq=>absurd hq (zhn _),λG _=>Iff.rfl⟩ (by
   rintro k d γ hd ⟨R,c6,c7,c8,rfl,z⟩;rw [ziO]at z ⊢;have S:k<r:=by have:=(zhe.mp hd).1;simpa using this
   have a7:d = .tup [.int (l k),.lst (zz n (B k))]:=by simp [xS,S]at hd;exact hd.symm
   subst a7;have a0:=Z.lt k S;refine⟨_,.inl ?_,clr p (B k) (l k) R,.val (.int (l k)),.val (.lst (zz n (B k))),.val (.int (R (l k))),rfl,z.next U Z S⟩;have cc:=QZ U Y R (B k) (l k) (z.rng _ a0);simp only [kU,zg5,zhx,zhw,Zh];simp [zO,a0,yu,Y,z6,qb,zg2,cc])
 obtain⟨γ',e,R,c6,c7,c8,rfl,z⟩:=a5;rw [ziO,QR]at z;exact⟨R,c6,c7,c8,z,e⟩
theorem Ko(S:Pr p)(O:n<=lim)(hr:r<=8)(U:IsB p n r B l)(R:Vc){a:Nat}(ha:a<n)(I J c7 c8 c9 c10 z:Cell) :
 ∃Y Z a0,qh (.tp [12,7]) yD (xS n r B l) [.val (.int p),.val (.int n),I,.val (.lst (xS n r B l)),J,.val (.lst (zz n R)),.val (.int a),c7,c8,c9,c10,.own [],z] =
  some (.next [.val (.int p),.val (.int n),I,.val (.lst (xS n r B l)),J,.val (.lst (zz n R)),.val (.int a),Y,Z,c9,c10,.own (xS n r (λk=>clr p R a (B k)) l),a0]):=by
 have hl:=jf;have a1:=xu (T:= .tp [12,7]) (F:=yD)
  (λk γ=>∃c7 c8 z,γ=[.val (.int p),.val (.int n),I,.val (.lst (xS n r B l)),J,.val (.lst (zz n R)),.val (.int a),c7,c8,c9,c10,.own (xS n k (λk=>clr p R a (B k)) l),z])
  (xS n r B l) 0 [.val (.int p),.val (.int n),I,.val (.lst (xS n r B l)),J,.val (.lst (zz n R)),.val (.int a),c7,c8,c9,c10,.own [],z]
  ⟨c7,c8,z,rfl⟩ (by
   rintro k d γ hd ⟨c7,c8,z,rfl⟩;have Q:k<r:=by have:=(zhe.mp hd).1;simpa using this
   have a3:d = .tup [.int (l k),.lst (zz n (B k))]:=by simp [xS,Q]at hd;exact hd.symm
   subst a3;refine⟨_,.inl ?_,.val (.lst (zz n (B k))),.val (.int (B k a)),.val (.int (l k)),rfl⟩;have cc:=QZ S O (B k) R a (U.rng k a Q ha);have a5:xS n (0+k+1) (λk=>clr p R a (B k)) l=xS n (0+k) (λk=>clr p R a (B k)) l++[.tup [.int (l k),.lst (zz n (clr p R a (B k)))]]:=by
    simp [xS,zh5]
   rw [a5];have a6:k<lim:=by omega
   simp only [kU,zg5,zhx,zhw,yD];simp [zO,ha,yu,O,z6,qb,zg2,cc,a6])
 obtain⟨γ',e,c7,c8,z,rfl⟩:=a1;rw [ziO,QR]at e;exact⟨c7,c8,z,e⟩
theorem Zn(J:Pr p)(hn:n<=100)(hm:m<=8)(kk:Sk)(W:Nat->Vc)(hW : ∀j i,j<m->i<n->0<=W j i/\W j i<p) :
 ∃r B l,ww [.int p,.int n,dsq kk (zM m n W)]=some (.own (zM r n B))/\IsB p n r B l/\r<=m/\∀v,Span p n (Fam r B) v↔Span p n (Fam m W) v:=by
 have hl:=jf;have S:n<=lim:=by omega
 have p0:=J.pos;have two:=J.two;have bg:=J.le;have af:=xu (T:= .nm 4) (F:=Q2)
  (λj γ=>∃r B l c4 c5 c6 c7 c8 c9 c10 U O,γ=[.val (.int p),.val (.int n),.val (dsq kk (zM m n W)),.val (.lst (xS n r B l)),c4,c5,c6,c7,c8,c9,c10,U,O]/\IsB p n r B l/\r<=j/\∀v,Span p n (Fam r B) v↔Span p n (Fam j W) v)
  (zM m n W) 0 [.val (.int p),.val (.int n),.val (dsq kk (zM m n W)),.val (.lst []),.no,.no,.no,.no,.no,.no,.no,.no,.no]
  ⟨0,λ_ _=>0,λ_=>0,.no,.no,.no,.no,.no,.no,.no,.no,.no,rfl,
   ⟨λk z=>absurd z (zhn _),λk q _ z=>absurd z (zhn _),λk z=>absurd z (zhn _),λk j z=>absurd z (zhn _),λk q z=>absurd z (zhn _),λk i z=>absurd z (zhn _)⟩,
   zg3 _,λv=>⟨λhv=>hv.le λg ⟨k,z,_⟩=>absurd z (zhn _),λhv=>hv.le λg ⟨k,z,_⟩=>absurd z (zhn _)⟩⟩ (by
   rintro j d γ hd ⟨r,B,l,c4,c5,c6,c7,c8,c9,c10,U,O,rfl,I,Z,Q⟩;rw [ziO]at Z Q ⊢;have hj:j<m:=by have:=(zhe.mp hd).1;simpa using this
   have ag:d = .tup (zz n (W j)):=by simp [hj]at hd;exact hd.symm
   subst ag;have ah:r<=7:=by omega
   obtain⟨R,ai,a8,a9,Y,el⟩:=VW J S I (W j) (λi hi=>hW j i hj hi) (.val (dsq kk (zM m n W))) (.val (.tup (zz n (W j)))) c6 c7 c8 c9 c10 U O;have a0:zL (.nm 0) (sB (zu dNe (sIx (zf 1) (zc 0)) (zg (.int 0)))) (zc 0) [Cell.no,Cell.val (.lst (zz n R))] ((zgX n).map λ(i:Nat)=>D.int i)=some (((zgX n).filter λi=> !decide (R i=0)).map λ(i:Nat)=>D.int i):=by
    refine zY _ _ _ λi hi=>⟨_,rfl,?_,λ_=>rfl⟩;simp [zgZ.mp hi]
   cases hf:(zgX n).filter λi=> !decide (R i=0)with
   | nil=>
    have h0 : ∀i,i<n->R i=0:=λi hi=>by have:=yY hf i hi;simpa using this
    rw [hf]at a0;refine⟨_,.inl ?_,r,B,l,.val (.tup (zz n (W j))),.val (.lst (zz n R)),ai,a8,a9,.val (.lst []),c10,U,O,rfl,I,by omega,Kw Q Y h0⟩;simp only [xO,zg5,zhx,zhw,Q2];rw [zO];simp [zO];rw [el];simp [S,jK,z6,qb,zg2];rw [z9 n λi=>(i:Int),a0];simp
   | cons a rest=>
    obtain⟨ha,ak,al⟩:=xv hf;have am:R a≠0:=by simpa using ak
    have an : ∀i,i<a->R i=0:=λi hi=>by have:=al i hi;simpa using this
    have ao:=Y.rng a ha;rw [hf]at a0;have a4:zL (.nm 0) (sB (zu dEq (zu qx (zu qI (zc 0) (sIx (zf 2) (zc 3))) (zc 1)) (zg (.int 1)))) (zc 0) [Cell.no,Cell.val (.int p),Cell.val (.lst (zz n R)),Cell.val (.int a)] (qE 1 (p - 1).toNat)=some (((zgX (p - 1).toNat).filter λ(i:Nat)=>decide ((1+(i:Int))*R a%p=1)).map λ(i:Nat)=>D.int (1+(i:Int))):=by
     unfold qE;refine zY _ _ _ λi hi=>⟨_,rfl,?_,λ_=>rfl⟩;have bh:=zgZ.mp hi;simp [ha,kc (1+(i:Int)) (R a) ⋯ ⋯,p0]
    obtain⟨y0,bi,bj,ap⟩:=zdN J (x:=R a) ⋯ ao.2;cases hg:(zgX (p - 1).toNat).filter λ(i:Nat)=>decide ((1+(i:Int))*R a%p=1)with
    | nil=>
     have:=yY hg (y0 - 1) ⋯;rw [show(1:Int)+((y0 - 1:Nat):Int)=y0 by omega]at this;simp [ap]at this
    | cons b bl=>
     obtain⟨bm,aq,_⟩:=xv hg;rw [hg]at a4;have ab:(1+(b:Int))*R a%p=1:=by simpa using aq
     have cy : ∀x,Zg (1+(b:Int)) x=true:=λx=>kc _ _ ⋯ ⋯;have as:zL (.nm 0) ja (zu qx (zu qI (zc 2) (zc 0)) (zc 1)) [Cell.no,Cell.val (.int p),Cell.val (.int (1+(b:Int)))] (zz n R)=some (zz n λi=>(1+(b:Int))*R i%p):=by
      rw [z9,z9];refine zv _ _ λi hi=>zw rfl rfl ?_;simp [cy,p0]
     have au:(1+(b:Int))*R a%p=1:=ab;have ac : ∀k,k<r->l k≠a:=λk z e=>by have:=Y.zer k z;rw [e]at this;exact am this
     have isb:=zbP J I (R:=λi=>(1+(b:Int))*R i%p) ha au (λi hi=>by rw [an i hi];simp) (λk z=>by rw [Y.zer k z];simp) λi _=>⟨zhM _ ⋯,zht _ p0⟩;have sp:=WA J (R':=λi=>(1+(b:Int))*R i%p) I ha Q Y ab (λi _=>rfl) (yB I.mono ac).1;obtain⟨av,aw,ax,es⟩:=Ko J S ⋯ I (λi=>(1+(b:Int))*R i%p) ha (.val (dsq kk (zM m n W))) (.val (.tup (zz n (W j)))) a8 a9 (.val (.lst ((a::rest).map λ(i:Nat)=>D.int i))) (.val (.int (1+(b:Int)))) O;have so:=Kq (n:=n) (x:=a) (B:=λk=>clr p (λi=>(1+(b:Int))*R i%p) a (B k)) (R:=λi=>(1+(b:Int))*R i%p) ah I.mono ac;refine⟨_,.inl ?_,r+1,_,_,.val (.tup (zz n (W j))),.val (.lst (zz n λi=>(1+(b:Int))*R i%p)),.val (.int a),av,aw,.val (.lst ((a::rest).map λ(i:Nat)=>D.int i)),.val (.int (1+(b:Int))),.own (xS n r (λk=>clr p (λi=>(1+(b:Int))*R i%p) a (B k)) l),ax,rfl,isb,by omega,sp⟩;simp only [xO,zg5,zhx,zhw,Q2];rw [zO];simp [zO];rw [el];simp [S,jK,z6,qb,zg2];rw [z9 n λi=>(i:Int),a0];have az:inR p=true:=QM ⋯ ⋯;have i1:inR 1=true:=by decide
     have lp:(qE 1 (p - 1).toNat).length<=lim:=by simp [qE];omega
     have b9:(0:Int)<(rest.length:Int)+1:=by omega
     have ba:(p - 1).toNat=p.toNat - 1:=by omega
     rw [ba]at a4 lp;simp [Y8,zO,b9,az,i1,lp,z6,qb,zg2,a4,as,S];simp at es;rw [es];have a6:r+1<=lim:=by omega
     simp [a6,so])
 obtain⟨γ',e1,r,B,l,c4,c5,c6,c7,c8,c9,c10,U,O,rfl,I,Z,Q⟩:=af;rw [ziO,Za]at Z Q;refine⟨r,B,l,?_,I,Z,Q⟩;have e0:ww [.int p,.int n,dsq kk (zM m n W)]=z5 13 (zI (zQ 3 (jk (qj zo))) (zI (yk (zD (zA (zc 2))) (.nm 4) Q2) (qW (zF (zD (zf 3)) (.tp [0,1]) 2 [] ja (zN (zf 1)))))) [.int p,.int n,dsq kk (zM m n W)]:=rfl;have bc:zL (.tp [0,1]) ja (zN (zf 1)) [Cell.no,Cell.no] (xS n r B l)=some (zM r n B):=by
  unfold xS zM;refine zv _ _ λk z=>zw rfl rfl ?_;simp
 have a6:r<=lim:=by omega
 rw [e0];simp [z5,zV,zO,zg2];rw [e1];simp [a6,z6,zg2,bc]
end
@[simp] theorem wr(h w f):(qR h w f).length=h:=by simp [qR]
section
variable{p:Int}{n m r:Nat}{G:Vc->Prop}
theorem Span.sum{u:Nat->Vc}(c:Nat->Int) : ∀{m:Nat},(∀k,k<m->Span p n G (u k))->Span p n G λi=>sumTo (λk=>c k*u k i) m
 | 0,_=> .zero λi _=>by simp [sumTo]
 | m+1,h=>(((h m ⋯).add (Span.sum c (m:=m) λk z=>h k ⋯) (c m))).congr λi _=>by simp [sumTo]
def Rk(p:Int)(n m:Nat)(W:Nat->Vc)(r:Nat):Prop:=∃B l,IsB p n r B l/\∀v,Span p n (Fam r B) v↔Span p n (Fam m W) v
theorem kh(O:Pr p){W:Nat->Vc}{r r':Nat}(h:Rk p n m W r)(h':Rk p n m W r'):r=r':=by
 obtain⟨B,l,Q,I⟩:=h;obtain⟨B',l',S,J⟩:=h';exact(Jf O Q S (λv z=>(J v).mpr ((I v).mp z)) (λv z=>(I v).mpr ((J v).mp z))).1
theorem Xv(z:Pr p)(J:n<=100)(O:m<=8)(W:Nat->Vc) : ∃r,r<=m/\Rk p n m W r:=by
 obtain⟨r,B,l,_,Q,S,U⟩:=Zn z J O .L (λj i=>W j i%p) (λj i _ _=>⟨zhM _ (by have:=z.pos;omega),zht _ z.pos⟩);refine⟨r,S,B,l,Q,λv=>(U v).trans ⟨λh=>h.le λg ⟨k,I,e⟩=>?_,λh=>h.le λg ⟨k,I,e⟩=>?_⟩⟩
 ·subst e;exact(Span.gen (g:=W k) ⟨k,I,rfl⟩).congr λi _=>by rw [zhs]
 ·subst e;exact(Span.gen (g:=λi=>W k i%p) ⟨k,I,rfl⟩).congr λi _=>by rw [zhs]
theorem zcW(Z:Pr p){m' r r':Nat}{W Q:Nat->Vc}(h:Rk p n m W r)(h':Rk p n m' Q r')(hw : ∀j,j<m->Span p n (Fam m' Q) (W j)):r<=r':=by
 obtain⟨B,l,O,hs⟩:=h;obtain⟨B',l',S,a1⟩:=h';have s1 : ∀k,k<r->∃q,q<r'/\l' q=l k:=λk I=>JP S ((a1 _).mpr (((hs _).mp (.gen ⟨k,I,rfl⟩)).le λg ⟨j,hj,e⟩=>e ▸ hw j hj)) (O.lt k I) (by rw [O.one k I,Z.one];decide) λi hi=>by rw [O.bef k i I hi];simp
 have a3 : ∀k,k<r->∀q,q<r'->l' q=l k->k<=q:=by
  intro k
  induction k with
  | zero=>intro _ q _ _;exact zh7 _
  | succ k ih=>
   intro I q U e;obtain⟨J,Y,e0⟩:=s1 k ⋯;have h1:=ih ⋯ J Y e0;have h2:=O.mono k (k+1) ⋯ I;rcases zhd J q with z | z
   ·omega
   ·rcases zhd q J with y | y
    ·have:=S.mono q J y Y
     omega
    ·have:q=J:=by omega
     subst this;omega
 rcases Nat.eq_zero_or_pos r with z | z
 ·omega
 ·obtain⟨q,U,e⟩:=s1 (r - 1) ⋯
  have:=a3 (r - 1) ⋯ q U e;omega
end
section
variable{p:Int}{n m r h w:Nat}
theorem xJ{l:Nat->Nat}(h:Nat) : ∀{r:Nat},(∀k m,k<m->m<r->l k<l m)->∃s,s<=r/\(∀k,k<s->l k<h)/\∀k,s<=k->k<r->h<=l k
 | 0,_=>⟨0,zg3 _,λk I=>absurd I (zhn _),λk _ I=>absurd I (zhn _)⟩
 | r+1,hm=>by
  obtain⟨s,h1,h2,J⟩:=xJ h (r:=r) λk m I O=>hm k m I ⋯;by_cases e:l r<h
  ·refine⟨r+1,zg3 _,λk I=>?_,λk h1 h2=>by omega⟩
   rcases zhd k r with z | z
   ·have:=hm k r z ⋯;omega
   ·have:k=r:=by omega
    subst this;exact e
  ·refine⟨s,by omega,h2,λk I Q=>?_⟩
   rcases zhd k r with z | z
   ·exact J k I z
   ·have:k=r:=by omega
    subst this;omega
theorem JW{q:Nat->Bool}{s r:Nat}(J:s<=r)(h1 : ∀k,k<s->q k=false)(h2 : ∀k,s<=k->k<r->q k=true):(zgX r).filter q=(zgX (r - s)).map (s + ·):=by
 obtain⟨d,rfl⟩ : ∃d,r=s+d:=⟨r - s,by omega⟩;rw [zjs,zjM];have e1:(zgX s).filter q=[]:=List.filter_eq_nil_iff.mpr λk z=>by rw [h1 k (zgZ.mp z)];decide
 have I:((zgX d).map (s + ·)).filter q=(zgX d).map (s + ·):=List.filter_eq_self.mpr λk z=>by
  obtain⟨i,hi,rfl⟩:=zhr.mp z;exact h2 _ ⋯ (by have:=zgZ.mp hi;omega)
 rw [e1,I,zhu];rfl
def jW(h:Nat)(u v:Vc):Vc:=λi=>if i<h then u i else v (i - h)
def jn(j:Nat):Vc:=λk=>if j=k then 1 else 0
theorem zP{u v:Vc}{i:Nat}(hi:i<h):jW h u v i=u i:=if_pos hi
theorem zZ{u v:Vc}(i:Nat):jW h u v (h+i)=v i:=by unfold jW;rw [if_neg ⋯,zhu]
theorem xf(h w:Nat)(u v:Vc):zz h u++zz w v=zz (h+w) (jW h u v):=by
 unfold zz;rw [zjs,zhG];congr 1
 ·exact zhi λi hi=>by rw [zP (zgZ.mp hi)]
 ·rw [zhU]
  exact zhi λi _=>by simp only [Function.comp];rw [zZ]
theorem YL(h w:Nat)(v:Vc):(zz (h+w) v).take h=zz h v:=by
 unfold zz;rw [<- List.map_take,List.take_range,Nat.min_eq_left (zh8 h w)]
theorem YM(h w:Nat)(v:Vc):(zz (h+w) v).drop h=zz w λj=>v (h+j):=by
 unfold zz;rw [zjs,zhG,List.drop_append_of_le_length ⋯,List.drop_eq_nil_of_le ⋯,zhU];rfl
theorem QW(h w:Nat)(v:Vc):QX (zz (h+w) v) none (some (h:Int))=zz h v:=by
 have c : ¬((h:Int)<0):=by omega
 have e:min h (h+w)=h:=Nat.min_eq_left (zh8 h w);simp [QX,J2,c,e,YL]
theorem QV(h w:Nat)(v:Vc):QX (zz (h+w) v) (some (h:Int)) none=zz w λj=>v (h+j):=by
 have c : ¬((h:Int)<0):=by omega
 have e:min h (h+w)=h:=Nat.min_eq_left (zh8 h w);have t : ∀g:Vc,(zz w g).take w=zz w g:=λg=>zih ⋯;simp [QX,J2,c,e,YM,t]
theorem Qi(v:Vc) : ∀n,yL (zz n v)=some ((zgX n).map λi=>v i != 0)
 | 0=>rfl
 | n+1=>by
  have z : ∀l:List Nat,yL (l.map λi=>D.int (v i))=some (l.map λi=>v i != 0):=by
   intro l
   induction l with
   | nil=>rfl
   | cons a l I=>simp [yL,zeR,I]
  exact z _
theorem xk{B:Nat->Vc}{l:Nat->Nat}(I:IsB p (h+w) r B l)(O:r<=lim){s:Nat}(Q:s<=r)(h1 : ∀k,k<s->l k<h)(h2 : ∀k,s<=k->k<r->h<=l k) :
 F_behind_noughts [.int h,.lst (zM r (h+w) B)]=some (.own (zM (r - s) w λk j=>B (s+k) (h+j))):=by
 have J:zL (.nm 0) (xl (sB (zag (zA (Qo (zc 0) X9 (sBd (zc 1))))))) (Qo (zc 0) (sBd (zc 1)) X9) [Cell.no,Cell.val (.int h)] (zM r (h+w) B)=some (((zgX r).filter λk=>decide (h<=l k)).map λk=>D.tup (zz w λj=>B k (h+j))):=by
  unfold zM;refine zY (λk=>decide (h<=l k)) _ _ λk z=>⟨_,rfl,?_,λS=>?_⟩
  ·have z:=zgZ.mp z
   simp [QW,Qi];by_cases e:h<=l k
   ·simp [e]
    intro i hi;have:=I.bef k i z ⋯;simp [this]
   ·simp [e]
    exact⟨l k,by omega,by rw [I.one k z];decide⟩
  ·simp [QV]
 rw [JW Q (λk z=>decide_eq_false (by have:=h1 k z;omega)) (λk a b=>decide_eq_true (h2 k a b))]at J;simp [F_behind_noughts,z5,zV,O,z6,qb,zg2,J];unfold zM;rfl
def Ker(p:Int)(h w:Nat)(f:Nat->Nat->Int)(v:Vc):Prop:=∀i,i<h->sumTo (λj=>f i j*v j) w%p=0
theorem Wb{f:Nat->Nat->Int}{v:Vc}(J:Span p (h+w) (Fam w λj=>jW h (λi=>f i j) (jn j)) v) : ∀i,i<h->v i%p=sumTo (λj=>f i j*v (h+j)) w%p:=by
 induction J with
 | @zero v z=>
  intro i hi;rw [z i ⋯];have:sumTo (λj=>f i j*v (h+j)) w%p=sumTo (λ_=>0) w%p:=zK λj O=>by rw [zg8,z (h+j) ⋯];simp
  rw [this,zG];rfl
 | @step v u g c Q Z I S=>
  intro i hi;obtain⟨m,U,rfl⟩:=Q;rw [I i ⋯,zhp,S i hi,<- zhp];have e1:sumTo (λj=>f i j*v (h+j)) w%p=sumTo (λj=>f i j*u (h+j)+c*(f i j*jn m j)) w%p:=zK λj O=>by
   rw [zg8,I (h+j) ⋯,<- zg8];simp only [zZ];rw [zj3,zkC]
  rw [e1,jG,jo,zR (f:=λj=>f i j*jn m j) U λj _ Y=>by simp [jn,zhO Y]];simp [jn,zP hi]
theorem Qg(I:Pr p)(w:Nat):IsB p w w jn id where
 lt:=λk z=>z
 mono:=λk m z _=>z
 one:=λk _=>if_pos rfl
 bef:=λk j _ J=>if_neg (by simp only [id]at J;omega)
 oth:=λk m _ _ O=>if_neg (by simp only [id];omega)
 rng:=λk i _ _=>by have:=I.two;unfold jn;split<;>omega
theorem Span.map{n':Nat}{G G':Vc->Prop}(t:Nat->Nat)(z : ∀i,i<n'->t i<n)(I : ∀g,G g->Span p n' G' λi=>g (t i)){v:Vc}(J:Span p n G v):Span p n' G' λi=>v (t i):=by
 induction J with
 | @zero v O=>exact .zero λi hi=>O _ (z i hi)
 | @step v u g c Q Y S U=>exact((I _ Q).add U c).congr λi hi=>S _ (z i hi)
theorem qB(U:Pr p)(hh:h<=20)(hw:w<=8)(f:Nat->Nat->Int) :
 ∃q K l s,xj [.int p,jV h w f]=some (.own (zM q w K))/\IsB p w q K l/\(∀v,Span p w (Fam q K) v↔Ker p h w f v)/\Rk p h w (λj i=>f i j) s/\q+s=w:=by
 have hl:=jf;have a6:h<=lim:=by omega
 have Z:w<=lim:=by omega
 have a7:h+w<=lim:=by omega
 obtain⟨r,B,l,e,J,Y⟩:=jX U (show h+w<=100 by omega) Z .L λj=>jW h (λi=>f i j) (jn j);have a8 : ∀v,Span p (h+w) (Fam r B) v->∀i,i<h->v i%p=sumTo (λj=>f i j*v (h+j)) w%p:=λv Q=>Wb ((Y v).mp Q);have a9:r<=w:=by
  obtain⟨r',h1,h2⟩:=Xv U (n:=h+w) ⋯ hw λj=>jW h (λi=>f i j) (jn j);rw [kh U ⟨B,l,J,Y⟩ h2];exact h1
 have aa:w<=r:=by
  obtain⟨r',h1,h2⟩:=Xv U (n:=w) ⋯ (show r<=8 by omega) λk j=>B k (h+j);refine zh2 (zcW U (m:=w) (W:=jn) ⟨jn,id,Qg U w,λv=>Iff.rfl⟩ h2 λj O=>?_) h1;have:=Span.map (n':=w) (G':=Fam r λk j=>B k (h+j)) (λi=>h+i) (λi hi=>by omega) (λg ⟨k,I,S⟩=> .gen ⟨k,I,by rw [S]⟩) ((Y (jW h (λi=>f i j) (jn j))).mpr (.gen ⟨j,O,rfl⟩));exact this.congr λi _=>by rw [zZ]
 have er:r=w:=Nat.le_antisymm a9 aa;subst er;obtain⟨s,hs,s1,s2⟩:=xJ h J.mono;have eb:=xk J Z hs s1 s2;have ae:IsB p r (r - s) (λk j=>B (s+k) (h+j)) (λk=>l (s+k) - h):={
  lt:=λk I=>by have:=J.lt (s+k) ⋯;have:=s2 (s+k) ⋯ ⋯;omega
  mono:=λk m I hm=>by have:=J.mono (s+k) (s+m) ⋯ ⋯;have:=s2 (s+k) ⋯ ⋯;omega
  one:=λk I=>by
   have:=s2 (s+k) ⋯ ⋯;rw [show h+(l (s+k) - h)=l (s+k)by omega];exact J.one _ ⋯
  bef:=λk j I O=>J.bef _ _ ⋯ ⋯
  oth:=λk m I hm a0=>by
   have:=s2 (s+m) ⋯ ⋯;rw [show h+(l (s+m) - h)=l (s+m)by omega];exact J.oth _ _ ⋯ ⋯ ⋯
  rng:=λk i I hi=>J.rng _ _ ⋯ ⋯}
 refine⟨r - s,_,_,s,?_,ae,λv=>⟨λQ=>?_,λQ=>?_⟩,?_,by omega⟩
 ·have ov:=xD f a6 Z
  have sm:=xC (n:=r) Z;have af:zL (.tp [0,1]) ja (zu jq (zc 0) (zc 1)) [Cell.no,Cell.no] ((zgX r).map λj=>D.tup [.tup (zz h λi=>f i j),.tup (zz r λk=>if j=k then 1 else 0)])=some (zM r (h+r) λj=>jW h (λi=>f i j) (jn j)):=by
   unfold zM;refine zv _ _ λj O=>zw rfl rfl ?_;simp [jq,a7,xf];rfl
  have zp:vD (zM r h λi j=>f j i) (zM r r λi j=>if i=j then 1 else 0)=(zgX r).map λj=>D.tup [.tup (zz h λi=>f i j),.tup (zz r λk=>if j=k then 1 else 0)]:=by
   unfold vD zM;rw [zjy];simp
  have c1:((h:Int)+(r:Int))=((h+r:Nat):Int):=by omega
  simp only [dsq]at e;rw [<- c1]at e;unfold jV at ov sm ⊢;have nl : ∀T t f γ,zL T t f γ []=some []:=λ_ _ _ _=>rfl;simp [xj,F_led_into,z5,zV,zO,ov,sm,zp,Z,z6,zg2,af,nl,e,eb]
 ·intro i hi
  induction Q with
  | @zero v hz=>
   have:sumTo (λj=>f i j*v j) r%p=sumTo (λ_=>0) r%p:=zK λj O=>by rw [zg8,hz j O];simp
   rw [this,zG];rfl
  | @step v u g c hg hu he ih=>
   obtain⟨k,I,rfl⟩:=hg;have e1:sumTo (λj=>f i j*v j) r%p=sumTo (λj=>f i j*u j+c*(f i j*B (s+k) (h+j))) r%p:=zK λj O=>by
    rw [zg8,he j O,<- zg8,zj3,zkC]
   have e2:=a8 (B (s+k)) (.gen ⟨s+k,by omega,rfl⟩) i hi;have e3:B (s+k) i=0:=J.bef _ _ ⋯ (by have:=s2 (s+k) ⋯ ⋯;omega);rw [e3]at e2;rw [e1,jG,jo,zhp,ih,zg8,<- e2];simp
 ·
  have an:Span p (h+r) (Fam r B) (jW h (λ_=>0) v):=by
   refine(Y _).mpr ((Span.sum (u:=λj=>jW h (λi=>f i j) (jn j)) v (m:=r) λj O=> .gen ⟨j,O,rfl⟩).congr λi hi=>?_);rcases zhd i h with z | z
   ·simp only [zP z]
    rw [zn (g:=λj=>f i j*v j) λj _=>zix _ _,Q i z];simp
   ·obtain⟨k,rfl⟩ : ∃k,i=h+k:=⟨i - h,by omega⟩
    simp only [zZ];rw [zR (f:=λj=>v j*jn j k) (i:=k) ⋯ λj _ a0=>by simp [jn,a0]];simp [jn]
  have co:=yq J an;refine(Span.sum (u:=λk j=>B (s+k) (h+j)) (λk=>jW h (λ_=>0) v (l (s+k))) (m:=r - s) λk I=> .gen ⟨k,I,rfl⟩).congr λj O=>?_;have:=co (h+j) ⋯;rw [zZ]at this;rw [this];obtain⟨d,rfl⟩ : ∃d,r=s+d:=⟨r - s,by omega⟩;rw [zhu];have sp : ∀(F:Nat->Int) (d:Nat),(∀k,k<s->F k=0)->sumTo F (s+d)=sumTo (λk=>F (s+k)) d:=by
   intro F d hF
   induction d with
   | zero=>
    show sumTo F s=0;rw [zn (g:=λ_=>0) hF,zG]
   | succ d ih=>rw [<- zj1];simp only [sumTo];rw [ih]
  rw [sp _ d λk I=>by rw [zP (s1 k I)];simp]
 ·
  refine⟨λk i=>B k i,l,⟨λk I=>s1 k I,λk m I hm=>J.mono k m I ⋯,λk I=>J.one k ⋯,λk j I O=>J.bef k j ⋯ O,λk m I hm a0=>J.oth k m ⋯ ⋯ a0,λk i I hi=>J.rng k i ⋯ ⋯⟩,λv=>⟨λQ=>Q.le λg ⟨k,I,S⟩=>?_,λQ=>Q.le λg ⟨j,O,S⟩=>?_⟩⟩
  ·subst S
   exact Span.map (n':=h) (G':=Fam r λj i=>f i j) (λi=>i) (λi hi=>by omega) (λg ⟨j,O,S⟩=>(Span.gen (g:=λi=>f i j) ⟨j,O,rfl⟩).congr λi hi=>by rw [S];simp only [zP hi]) ((Y (B k)).mp (.gen ⟨k,by omega,rfl⟩))
  ·subst S
   have:=Span.map (n':=h) (G':=Fam s λk i=>B k i) (λi=>i) (λi hi=>by omega) (λg hZ=>by
    obtain⟨k,I,S⟩:=hZ;subst S;rcases zhd k s with z | z
    ·exact .gen ⟨k,z,rfl⟩
    ·exact .zero λi hi=>by rw [J.bef k i I (by have:=s2 k z I;omega)];simp) ((Y (jW h (λi=>f i j) (jn j))).mpr (.gen ⟨j,O,rfl⟩))
   exact this.congr λi hi=>by rw [zP hi]
end
section
variable{p:Int}{h w q r:Nat}
def app(f:Nat->Nat->Int)(w:Nat)(v:Vc):Vc:=λi=>sumTo (λj=>f i j*v j) w
theorem vq{f:Nat->Nat->Int}{u g v:Vc}{c:Int}(z : ∀j,j<w->v j%p=(u j+c*g j)%p)(i:Nat):app f w v i%p=(app f w u i+c*app f w g i)%p:=by
 unfold app;have e:sumTo (λj=>f i j*v j) w%p=sumTo (λj=>f i j*u j+c*(f i j*g j)) w%p:=zK λj I=>by
  rw [zg8,z j I,<- zg8,zj3,zkC]
 rw [e,jG,jo]
theorem yF{f:Nat->Nat->Int}{v:Vc}(z : ∀j,j<w->v j%p=0)(i:Nat):app f w v i%p=0:=by
 unfold app;have:sumTo (λj=>f i j*v j) w%p=sumTo (λ_=>0) w%p:=zK λj I=>by rw [zg8,z j I];simp
 rw [this,zG];rfl
theorem jH{f:Nat->Nat->Int}{u v:Vc}(z : ∀j,j<w->v j%p=u j%p)(i:Nat):app f w v i%p=app f w u i%p:=by
 unfold app;exact zK λj I=>by rw [zg8,z j I,<- zg8]
theorem Qa(Y:Pr p)(hh:h<=100)(hw:w<=lim)(Z:q<=lim)(f:Nat->Nat->Int)(hf : ∀i j,i<h->j<w->0<=f i j/\f i j<100)(K:Nat->Vc) :
 ∃r B l,F_led_on [.int p,jV h w f,.lst (zM q w K)]=some (.own (zM r h B))/\IsB p h r B l/\∀v,Span p h (Fam r B) v ↔ ∃y,Span p w (Fam q K) y/\∀i,i<h->v i%p=app f w y i%p:=by
 have hl:=jf;obtain⟨r,B,l,e,hb,a4⟩:=jX Y hh Z .L λk i=>app f w (K k) i%p;refine⟨r,B,l,?_,hb,λv=>(a4 v).trans ⟨λz=>?_,λ⟨y,J,z⟩=>?_⟩⟩
 ·have a5:zL (.nm 0) ja (zq F_led (za (zc 1) (za (zc 2) (za (zc 0) zo)))) [Cell.no,Cell.val (.int p),Cell.val (jV h w f)] (zM q w K)=some (zM q h λk i=>app f w (K k) i%p):=by
   unfold zM;refine zv _ _ λk I=>zw rfl rfl ?_;have:=Zm (p:=p) .T f (K k) Y.pos (show h<=lim by omega) hw hf;simp only [dsq]at this;simp [this];rfl
  simp only [dsq]at e;have sq:jw (jV h w f)=some (.T,[.int h,.int w,.tup (zM h w f)]):=rfl;simp [F_led_on,z5,zV,Z,z6,qb,zg2,a5,sq,e]
 ·induction z with
  | @zero v O=>exact⟨λ_=>0,.zero λi _=>by simp,λi hi=>by rw [O i hi,yF (p:=p) (λ_ _=>by simp)]⟩
  | @step v u g c Q hu S U=>
   obtain⟨y,J,a6⟩:=U;obtain⟨k,I,rfl⟩:=Q;refine⟨λj=>y j+c*K k j,(Span.gen (g:=K k) ⟨k,I,rfl⟩).add J c,λi hi=>?_⟩;rw [vq (p:=p) (u:=y) (g:=K k) (c:=c) (λ_ _=>rfl) i,S i hi,zhp,a6 i hi,zg8,zhs,<- zg8,<- zhp]
 ·induction J generalizing v with
  | @zero y O=>exact .zero λi hi=>by rw [z i hi];exact yF O i
  | @step y u g c Q hu S U=>
   obtain⟨k,I,rfl⟩:=Q;have h1:=U (app f w u) ⟨u,hu,λ_ _=>rfl⟩ λi hi=>rfl;refine((Span.gen (g:=λi=>app f w (K k) i%p) ⟨k,I,rfl⟩).add h1 c).congr λi hi=>?_;rw [z i hi,vq (p:=p) S i,zhp,zg8,<- zhs (app f w (K k) i),<- zg8,<- zhp,zhs]
theorem vU(J:IsB p (h+w) r B l){s:Nat}(hs:s<=r)(s1 : ∀k,k<s->l k<h)(s2 : ∀k,s<=k->k<r->h<=l k) :
 IsB p w (r - s) (λk j=>B (s+k) (h+j)) (λk=>l (s+k) - h)/\∀v,Span p w (Fam (r - s) λk j=>B (s+k) (h+j)) v↔Span p (h+w) (Fam r B) (jW h (λ_=>0) v):=by
 refine⟨{
  lt:=λk I=>by have:=J.lt (s+k) ⋯;have:=s2 (s+k) ⋯ ⋯;omega
  mono:=λk m I S=>by have:=J.mono (s+k) (s+m) ⋯ ⋯;have:=s2 (s+k) ⋯ ⋯;omega
  one:=λk I=>by
   have:=s2 (s+k) ⋯ ⋯;rw [show h+(l (s+k) - h)=l (s+k)by omega];exact J.one _ ⋯
  bef:=λk j I U=>J.bef _ _ ⋯ ⋯
  oth:=λk m I S a3=>by
   have:=s2 (s+m) ⋯ ⋯;rw [show h+(l (s+m) - h)=l (s+m)by omega];exact J.oth _ _ ⋯ ⋯ ⋯
  rng:=λk i I hi=>J.rng _ _ ⋯ ⋯},λv=>⟨λO=>?_,λO=>?_⟩⟩
 ·induction O with
  | @zero v Y=>
   refine .zero λi hi=>?_;rcases zhd i h with z | z
   ·rw [zP z];simp
   ·obtain⟨k,rfl⟩ : ∃k,i=h+k:=⟨i - h,by omega⟩
    rw [zZ];exact Y k ⋯
  | @step v u g c Z hu he Q=>
   obtain⟨k,I,rfl⟩:=Z;refine .step (g:=B (s+k)) (c:=c) ⟨s+k,by omega,rfl⟩ Q λi hi=>?_;rcases zhd i h with z | z
   ·rw [zP z,zP z,J.bef (s+k) i ⋯ (by have:=s2 (s+k) ⋯ ⋯;omega)];simp
   ·obtain⟨j,rfl⟩ : ∃k,i=h+k:=⟨i - h,by omega⟩
    rw [zZ,zZ];exact he j ⋯
 ·have co:=yq J O
  refine(Span.sum (u:=λk j=>B (s+k) (h+j)) (λk=>jW h (λ_=>0) v (l (s+k))) (m:=r - s) λk I=> .gen ⟨k,I,rfl⟩).congr λj U=>?_;have:=co (h+j) ⋯;rw [zZ]at this;rw [this];obtain⟨d,rfl⟩ : ∃d,r=s+d:=⟨r - s,by omega⟩;rw [zhu];have sp : ∀(F:Nat->Int) (d:Nat),(∀k,k<s->F k=0)->sumTo F (s+d)=sumTo (λk=>F (s+k)) d:=by
   intro F d hF
   induction d with
   | zero=>
    show sumTo F s=0;rw [zn (g:=λ_=>0) hF,zG]
   | succ d Q=>rw [<- zj1];simp only [sumTo];rw [Q]
  rw [sp _ d λk I=>by rw [zP (s1 k I)];simp]
end
section
variable{p:Int}{h w q:Nat}
def jY(h w:Nat)(f:Nat->Nat->Int)(g:Nat->Vc):Nat->Vc:=λm=>if m<w then jW h (λi=>f i m) (jn m)else jW h (g (m - w)) (λ_=>0)
theorem YR(f:Nat->Nat->Int)(g:Nat->Vc):zM w (h+w) (λj=>jW h (λi=>f i j) (jn j))++zM q (h+w) (λk=>jW h (g k) λ_=>0)=zM (w+q) (h+w) (jY h w f g):=by
 unfold zM;rw [zjs,zhG,zhU];congr 1
 ·refine zhi λm z=>?_
  unfold jY;rw [if_pos (zgZ.mp z)]
 ·refine zhi λm z=>?_
  simp only [Function.comp];unfold jY;rw [if_neg ⋯,zhu]
theorem yG(f:Nat->Nat->Int){j:Nat}(z:j<w)(i:Nat):app f w (jn j) i=f i j:=by
 unfold app;rw [zR (f:=λk=>f i k*jn j k) z λk _ I=>by simp [jn,zhO I]];simp [jn]
theorem K7{f:Nat->Nat->Int}{g:Nat->Vc}{z:Vc}(I:Span p (h+w) (Fam (w+q) (jY h w f g)) z):Span p h (Fam q g) λi=>z i - app f w (λj=>z (h+j)) i:=by
 induction I with
 | @zero z I=>
  refine .zero λi hi=>?_;rw [zio,I i ⋯,yF (p:=p) (λj Y=>I (h+j) ⋯) i];simp
 | @step z u g' c Z hu Q S=>
  obtain⟨m,hm,rfl⟩:=Z;have e2:=λi=>vq (p:=p) (w:=w) (f:=f) (u:=λj=>u (h+j)) (g:=λj=>jY h w f g m (h+j)) (v:=λj=>z (h+j)) (c:=c) (λj Y=>Q (h+j) ⋯) i;have U : ∀i,i<h->(z i - app f w (λj=>z (h+j)) i)%p=((u i - app f w (λj=>u (h+j)) i)+c*(jY h w f g m i - app f w (λj=>jY h w f g m (h+j)) i))%p:=λi hi=>by
   rw [zio,Q i ⋯,e2 i,<- zio];congr 1;rw [Int.mul_sub];omega
  rcases zhd m w with J | J
  ·refine S.congr λi hi=>?_
   rw [U i hi];have t:app f w (λj=>jY h w f g m (h+j)) i=f i m:=by
    have:(λj=>jY h w f g m (h+j))=jn m:=by
     funext j;unfold jY;rw [if_pos J,zZ]
    rw [this,yG f J]
   have O:jY h w f g m i=f i m:=by unfold jY;rw [if_pos J,zP hi]
   rw [t,O];simp
  ·refine .step (g:=g (m - w)) (c:=c) ⟨m - w,by omega,rfl⟩ S λi hi=>?_
   rw [U i hi];have t:app f w (λj=>jY h w f g m (h+j)) i=0:=by
    have:(λj=>jY h w f g m (h+j))=λ_=>0:=by
     funext j;unfold jY;rw [if_neg ⋯,zZ]
    rw [this];unfold app;simp [zG]
   have O:jY h w f g m i=g (m - w) i:=by unfold jY;rw [if_neg ⋯,zP hi]
   rw [t,O];simp
theorem zbU{f:Nat->Nat->Int}{g:Nat->Vc}{y:Vc}(I:Span p h (Fam q g) y):Span p (h+w) (Fam (w+q) (jY h w f g)) (jW h y λ_=>0):=by
 induction I with
 | @zero y J=>
  refine .zero λi hi=>?_;rcases zhd i h with z | z
  ·rw [zP z];exact J i z
  ·obtain⟨k,rfl⟩ : ∃k,i=h+k:=⟨i - h,by omega⟩
   rw [zZ];simp
 | @step y u g' c O U Q S=>
  obtain⟨k,Y,rfl⟩:=O;refine .step (g:=jY h w f g (w+k)) (c:=c) ⟨w+k,by omega,rfl⟩ S λi hi=>?_;have e:jY h w f g (w+k)=jW h (g k) λ_=>0:=by
   unfold jY;rw [if_neg ⋯,zhu]
  rw [e];rcases zhd i h with z | z
  ·rw [zP z,zP z,zP z];exact Q i z
  ·obtain⟨j,rfl⟩ : ∃k,i=h+k:=⟨i - h,by omega⟩
   rw [zZ,zZ,zZ];simp
theorem k3(hp:Pr p)(hh:h<=20)(hw:w<=20)(hq:q<=100)(f:Nat->Nat->Int)(g:Nat->Vc) :
 ∃r B l,F_led_into [.int p,jV h w f,.lst (zM q h g)]=some (.own (zM r w B))/\IsB p w r B l/\∀v,Span p w (Fam r B) v↔Span p h (Fam q g) (app f w v):=by
 have hl:=jf;have aa:h<=lim:=by omega
 have I:w<=lim:=by omega
 have O:h+w<=lim:=by omega
 have ab:q<=lim:=by omega
 have Q:w+q<=lim:=by omega
 obtain⟨r,B,l,e,J,a1⟩:=jX hp (show h+w<=100 by omega) Q .L (jY h w f g);have ac:r<=h+w:=JJ J.mono J.lt;obtain⟨s,S,s1,s2⟩:=xJ h J.mono;have eb:=xk J ⋯ S s1 s2;obtain⟨a3,tl⟩:=vU J S s1 s2;refine⟨r - s,_,_,?_,a3,λv=>(tl v).trans ((a1 _).trans ⟨λU=>?_,λU=>?_⟩)⟩
 ·have Y:=xD f aa I
  have Z:=xC (n:=w) I;have a4:zL (.tp [0,1]) ja (zu jq (zc 0) (zc 1)) [Cell.no,Cell.no] ((zgX w).map λj=>D.tup [.tup (zz h λi=>f i j),.tup (zz w λk=>if j=k then 1 else 0)])=some (zM w (h+w) λj=>jW h (λi=>f i j) (jn j)):=by
   unfold zM;refine zv _ _ λj hj=>zw rfl rfl ?_;simp [jq,O,xf];rfl
  have zp:vD (zM w h λi j=>f j i) (zM w w λi j=>if i=j then 1 else 0)=(zgX w).map λj=>D.tup [.tup (zz h λi=>f i j),.tup (zz w λk=>if j=k then 1 else 0)]:=by
   unfold vD zM;rw [zjy];simp
  have a6:inR (w:Int)=true:=wX I;have zr:qI (.tup [.int 0]) (.int w)=some (.tup (zz w λ_=>0)):=by
   show(if [D.int 0].length*(w:Int).toNat<=lim/\inR (w:Int)=true then some (D.tup (zg2 (w:Int).toNat [D.int 0]).flatten)else none)=_;rw [if_pos ⟨by simpa using I,a6⟩];congr 2;rw [zh1];clear a4 zp Z Y eb a3 tl a1 J e a6 Q O I hw hq s1 s2 S ac
   induction w with
   | zero=>rfl
   | succ w ih=>rw [List.replicate_succ',List.flatten_append,ih];unfold zz;rw [zh5,zhG];rfl
  have fr:zL (.nm 0) ja (zu jq (zc 0) (zu qI (jp (za (zg (.int 0)) zo)) (sIx (zf 1) (zg (.int 1))))) [Cell.no,Cell.val (jV h w f)] (zM q h g)=some (zM q (h+w) λk=>jW h (g k) λ_=>0):=by
   unfold zM;refine zv _ _ λk hk=>zw rfl rfl ?_;have sq:jw (jV h w f)=some (.T,[.int h,.int w,.tup (zM h w f)]):=rfl;simp [sq,zr,jq,O,xf]
  have c1:((h:Int)+(w:Int))=((h+w:Nat):Int):=by omega
  simp only [dsq]at e;rw [<- c1,<- YR]at e;have sq:jw (jV h w f)=some (.T,[.int h,.int w,.tup (zM h w f)]):=rfl;unfold jV at Y Z fr ⊢;simp [F_led_into,z5,zV,zO,Y,Z,zp,I,ab,Q,z6,qb,zg2,a4,fr,e,eb]
 ·have:=K7 U
  refine(this.smul (-1)).congr λi hi=>?_;congr 1;show app f w v i = -1*(jW h (λ_=>0) v i - app f w (λj=>jW h (λ_=>0) v (h+j)) i);rw [zP hi,show(λj=>jW h (λ_=>0) v (h+j))=v from funext λj=>zZ j];omega
 ·have a:=Span.sum (p:=p) (n:=h+w) (G:=Fam (w+q) (jY h w f g)) (u:=λj=>jY h w f g j) v (m:=w) λj hj=> .gen ⟨j,by omega,rfl⟩
  have b:=zbU (w:=w) (f:=f) U;refine(b.add a (-1)).congr λi hi=>?_;congr 1;rcases zhd i h with z | z
  ·rw [zP z,zP z]
   have:sumTo (λk=>v k*jY h w f g k i) w=app f w v i:=by
    unfold app;exact zn λk hk=>by unfold jY;rw [if_pos hk,zP z,zix]
   rw [this];omega
  ·obtain⟨k,rfl⟩ : ∃k,i=h+k:=⟨i - h,by omega⟩
   rw [zZ,zZ];have:sumTo (λj=>v j*jY h w f g j (h+k)) w=v k:=by
    rw [zR (f:=λj=>v j*jY h w f g j (h+k)) (i:=k) ⋯ λj hj ag=>by unfold jY;rw [if_pos hj,zZ];simp [jn,ag]];unfold jY;rw [if_pos (show k<w by omega),zZ];simp [jn]
   rw [this];simp
end
def dlt(i j:Nat):Int:=if i=j then 1 else 0
def zeL(p:Int)(n:Nat)(f g:Nat->Nat->Int):Prop:=∀i j,i<n->j<n->sumTo (λk=>f i k*g k j) n%p=dlt i j%p
theorem wS{p x y X Y:Int}(h1:x%p=X%p)(h2:y%p=Y%p):(x*y)%p=(X*Y)%p:=by rw [zg8,h1,h2,<- zg8]
@[simp] theorem zcl(r):qb (.nest r) = .no:=rfl
@[simp] theorem zdw(r):qb (.own r) = .no:=rfl
@[simp] theorem zdv(d):qb (.val d) = .val d:=rfl
@[simp] theorem zek:qb .no = .no:=rfl
def begR(w:Nat->Bool)(k:Nat):Nat:=if w k then k+1 else k
def endR(w:Nat->Bool)(k:Nat):Nat:=if w k then k else k+1
theorem Yx(w:Nat->Bool)(wd:Nat->Nat)(k):hiW w wd k=wd (endR w k):=by unfold hiW endR;split<;>rfl
theorem W7(w:Nat->Bool)(wd:Nat->Nat)(k):wiW w wd k=wd (begR w k):=by unfold wiW begR;split<;>rfl
theorem Va(w:Nat->Bool){k m:Nat}(h:k<m):begR w k<m+1:=by unfold begR;split<;>omega
theorem YK(w:Nat->Bool){k m:Nat}(h:k<m):endR w k<m+1:=by unfold endR;split<;>omega
structure Bar where
 s:Nat
 n:Nat
 v:Nat->Vc
def Bar.has(b:Bar)(r:Nat):Bool:=decide (b.s<=r) && decide (r<b.s+b.n)
theorem has_iff{b:Bar}{r:Nat}:b.has r=true↔b.s<=r/\r<b.s+b.n:=by simp [Bar.has]
def Kb:Bar:=⟨0,0,λ_ _=>0⟩
structure BarOk(p:Int)(w:Nat->Bool)(wd:Nat->Nat)(T:Nat->Nat->Nat->Int)(k:Nat)(b:Bar):Prop where
 n1:1<=b.n
 le:b.s+b.n<=k+1
 rng : ∀r i,b.has r=true->i<wd r->0<=b.v r i/\b.v r i<p
 arr : ∀j,j<k->b.has (begR w j)=true->∀i,i<wd (endR w j)->app (T j) (wd (begR w j)) (b.v (begR w j)) i%p=(if b.has (endR w j)=true then b.v (endR w j) i else 0)%p
def Ord(w:Nat->Bool)(a b:Bar):Prop:=(a.s<b.s->w (b.s - 1)=true)/\(b.s<a.s->w (a.s - 1)=false)
def GenB(bars:List Bar)(r:Nat):Vc->Prop:=λg=>∃b,b∈bars/\b.has r=true/\g=b.v r
def mxV(p:Int)(A:Nat->Bar)(N:Nat)(t:Vc)(r:Nat):Vc:=λc=>sumTo (λj=>if (A j).has r=true then t j*(A j).v r c else 0) N%p
def mxB(p:Int)(A:Nat->Bar)(N:Nat)(t:Vc)(i:Nat):Bar:=⟨(A i).s,(A i).n,mxV p A N t⟩
section
variable{p:Int}{w:Nat->Bool}{wd:Nat->Nat}{T:Nat->Nat->Nat->Int}{k N:Nat}{A:Nat->Bar}
theorem ko(f:Nat->Nat->Int)(h:Nat)(t:Vc)(u:Nat->Vc)(n:Nat)(i:Nat):app f h (λc=>sumTo (λj=>t j*u j c) n) i=sumTo (λj=>t j*app f h (u j) i) n:=by
 unfold app;have e:sumTo (λj=>f i j*sumTo (λk=>t k*u k j) n) h=sumTo (λj=>sumTo (λk=>t k*(f i j*u k j)) n) h:=zn λj _=>by
  rw [<- jo];exact zn λk _=>by rw [<- ziw,<- ziw,zix (f i j)]
 rw [e,j7];exact zn λj _=>jo ..
theorem zbN(c:Prop) [Decidable c](x y:Int):(if c then x*y else 0)=x*(if c then y else 0):=by split<;>simp
theorem Vf(f:Nat->Nat->Int)(h r:Nat)(t:Vc)(i:Nat):app f h (mxV p A N t r) i%p=sumTo (λj=>t j*(if (A j).has r=true then app f h ((A j).v r) i else 0)) N%p:=by
 have e:app f h (mxV p A N t r) i%p=app f h (λc=>sumTo (λj=>t j*(if (A j).has r=true then (A j).v r c else 0)) N) i%p:=jH (λc _=>by
  unfold mxV;rw [zhs];congr 1;exact zn λj _=>zbN ..) i
 rw [e,ko];congr 1;refine zn λj _=>?_;congr 1;by_cases z:(A j).has r=true
 ·simp only [if_pos z]
 ·simp only [if_neg z]
  unfold app;simp [zG]
theorem zdA(p0:0<p)(U : ∀j,j<N->BarOk p w wd T k (A j))(hk : ∀j,j<N->(A j).has k=true){t:Vc}{i:Nat}(hi:i<N)(hO : ∀c,i<c->c<N->Ord w (A i) (A c))(tz : ∀c,c<i->t c=0) :
 BarOk p w wd T k (mxB p A N t i):=by
 refine⟨(U i hi).n1,(U i hi).le,λr c _ _=>⟨zhM _ ⋯,zht _ p0⟩,λj hj J c hc=>?_⟩;have J:(A i).has (begR w j)=true:=J;show app (T j) (wd (begR w j)) (mxV p A N t (begR w j)) c%p=(if (A i).has (endR w j)=true then mxV p A N t (endR w j) c else 0)%p;rw [Vf];have a6 : ∀I,I<N->t I≠0->((A i).has (endR w j)=true->(A I).has (endR w j)=true->(A I).has (begR w j)=true)/\((A i).has (endR w j)=false->(A I).has (begR w j)=true->(A I).has (endR w j)=false):=λI O Y=>by
  have h1:=has_iff.mp (hk i hi);have h2:=has_iff.mp (hk I O);have Q:i<=I:=Nat.not_lt.mp λz=>Y (tz I z);rcases Nat.lt_or_eq_of_le Q with Q | Q
  ·obtain⟨o1,o2⟩:=hO I Q O
   have J:=has_iff.mp J;cases hw:w j with
   | false=>
    have S:begR w j=j:=by unfold begR;rw [hw];rfl
    have Z:endR w j=j+1:=by unfold endR;rw [hw];rfl
    rw [S]at J;rw [S,Z];refine⟨λ_ q=>has_iff.mpr ?_,λq _=>?_⟩
    ·have q:=has_iff.mp q
     refine⟨Nat.not_lt.mp λz=>?_,by omega⟩;have es:(A I).s=j+1:=by omega
     have:=o1 ⋯;rw [es]at this;simp [hw]at this
    ·exfalso
     have:(A i).has (j+1)=true:=has_iff.mpr ⋯;rw [this]at q;cases q
   | true=>
    have S:begR w j=j+1:=by unfold begR;rw [hw];rfl
    have Z:endR w j=j:=by unfold endR;rw [hw];rfl
    rw [S]at J;rw [S,Z];refine⟨λ_ q=>has_iff.mpr ?_,λq _=>?_⟩
    ·have q:=has_iff.mp q
     omega
    ·cases hx:(A I).has j with
     | false=>rfl
     | true=>
      exfalso;have hx:=has_iff.mp hx;have es:(A i).s=j+1:=by
       have : ¬((A i).s<=j):=λz=>by
        have:(A i).has j=true:=has_iff.mpr ⋯;rw [this]at q;cases q
       omega
      have:=o2 ⋯;rw [es]at this;simp [hw]at this
  ·subst Q
   exact⟨λ_ _=>J,λq _=>q⟩
 have e1:sumTo (λI=>t I*(if (A I).has (begR w j)=true then app (T j) (wd (begR w j)) ((A I).v (begR w j)) c else 0)) N%p
  = sumTo (λI=>if (A i).has (endR w j)=true then (if (A I).has (endR w j)=true then t I*(A I).v (endR w j) c else 0)else 0) N%p:=zK λI O=>by
  by_cases Y:t I=0
  ·simp [Y]
  obtain⟨k1,k2⟩:=a6 I O Y;cases hx:(A i).has (endR w j)with
  | false=>
   cases hy:(A I).has (begR w j)with
   | false=>simp
   | true=>
    have q:=(U I O).arr j hj hy c hc;rw [k2 hx hy]at q;simp only [if_true];rw [zg8,q];simp
  | true=>
   cases hy:(A I).has (begR w j)with
   | false=>
    cases hz:(A I).has (endR w j)with
    | false=>simp
    | true=>rw [k1 hx hz]at hy;cases hy
   | true=>
    have q:=(U I O).arr j hj hy c hc;simp only [if_true];rw [zg8,q,<- zg8];congr 1;cases hz:(A I).has (endR w j)<;>simp
 rw [e1];cases hx:(A i).has (endR w j)with
 | false=>simp [zG]
 | true=>
  simp only [if_true];unfold mxV;rw [zhs]
theorem Wl{G':Vc->Prop}{r n:Nat}{A':Nat->Bar}(t:Nat->Vc)(S : ∀i,i<N->t i i=1)(U : ∀i c,i<N->c<i->t i c=0)
 (Y : ∀i,i<N->(A i).has r=true->Span p n G' ((A' i).v r)) (Z : ∀i,i<N->(A i).has r=true->∀c,c<n->(A' i).v r c%p=mxV p A N (t i) r c%p) :
 ∀i,i<N->(A i).has r=true->Span p n G' ((A i).v r):=by
 have a0 : ∀d i,N - i<=d->i<N->(A i).has r=true->Span p n G' ((A i).v r):=by
  intro d
  induction d with
  | zero=>intro i h1 h2;omega
  | succ d ih=>
   intro i h1 h2 J;have hs:Span p n G' λc=>sumTo (λj=>(if j=i then 0 else if (A j).has r=true then t i j else 0)*(A j).v r c) N:=by
    have gen : ∀M,M<=N->Span p n G' λc=>sumTo (λj=>(if j=i then 0 else if (A j).has r=true then t i j else 0)*(A j).v r c) M:=by
     intro M
     induction M with
     | zero=>intro _;exact .zero λc _=>by simp [sumTo]
     | succ M a3=>
      intro hM;have q:=a3 ⋯;by_cases I:M=i\/¬((A M).has r=true)\/M<i
      ·refine q.congr λc _=>?_
       show(sumTo _ M+_)%p=_;rcases I with I | I | I
       ·simp [I]
       ·simp [I]
       ·have z:=U i M h2 I;simp only [z];simp
      ·have a4:M≠i/\(A M).has r=true/\¬M<i:=by
        refine⟨λz=>I (.inl z),?_,λz=>I (.inr (.inr z))⟩;cases hx:(A M).has r with
        | true=>rfl
        | false=>exact absurd (.inr (.inl (by rw [hx];decide))) I
       exact((ih M ⋯ ⋯ a4.2.1).add q (if M=i then 0 else if (A M).has r=true then t i M else 0)).congr λc _=>rfl
    exact gen N (zg3 _)
   have h0:=hs.add (Y i h2 J) (-1);refine h0.congr λc I=>?_;have e1:sumTo (λj=>if (A j).has r=true then t i j*(A j).v r c else 0) N=(A i).v r c+sumTo (λj=>(if j=i then 0 else if (A j).has r=true then t i j else 0)*(A j).v r c) N:=by
    have e2:(A i).v r c=sumTo (λj=>if j=i then (A i).v r c else 0) N:=by rw [zR h2 λk _ hk=>by simp [hk]];simp
    rw [e2,<- jG];refine zn λj hj=>?_;by_cases Q:j=i
    ·subst Q;simp [J,S j h2]
    ·simp only [if_neg Q]
     by_cases hx:(A j).has r=true
     ·simp [hx]
     ·simp [hx]
   have O:=Z i h2 J c I;unfold mxV at O;rw [zhs,e1]at O;rw [zhp,O,<- zhp];congr 1;omega
 exact λi h1 h2=>a0 N i ⋯ h1 h2
end
section
variable{p:Int}{n m N h r r2 q:Nat}{B B2 K:Nat->Vc}{l l2 lK:Nat->Nat}{M f:Nat->Nat->Int}
theorem yO{U:Nat->Vc}{v:Vc}(z:Span p n (Fam m U) v) : ∃t:Vc,∀i,i<n->v i%p=sumTo (λj=>t j*U j i) m%p:=by
 induction z with
 | zero h=>exact⟨λ_=>0,λi hi=>by rw [h i hi];simp [zG]⟩
 | @step v w g c I hw J O=>
  obtain⟨t,Q⟩:=O;obtain⟨k,S,rfl⟩:=I;refine⟨λj=>t j+if j=k then c else 0,λi hi=>?_⟩;rw [J i hi,zhp,Q i hi,<- zhp];congr 1;have e:sumTo (λj=>(t j+if j=k then c else 0)*U j i) m=sumTo (λj=>t j*U j i) m+sumTo (λj=>(if j=k then c else 0)*U j i) m:=by
   rw [<- jG];exact zn λj _=>Int.add_mul ..
  rw [e,zR (f:=λj=>(if j=k then c else 0)*U j i) S λj _ Y=>by simp [Y]];simp
theorem j9(a b:Nat->Int)(n:Nat):sumTo (λj=>a j*b j) n=sumTo (λj=>b j*a j) n:=zn λj _=>zix ..
theorem col_span{u:Vc}:Span p h (Fam N λj i=>M i j) u ↔ ∃x:Vc,∀i,i<h->u i%p=app M N x i%p:=by
 constructor
 ·intro q
  obtain⟨t,z⟩:=yO q;exact⟨t,λi hi=>by rw [z i hi];unfold app;rw [j9]⟩
 ·rintro⟨x,hx⟩
  refine(Span.sum (u:=λj i=>M i j) x (m:=N) λj I=> .gen ⟨j,I,rfl⟩).congr λi hi=>?_;rw [hx i hi];unfold app;rw [j9]
theorem Z1(n:Nat)(v:Vc):Span p n (Fam n jn) v:=by
 refine(Span.sum (u:=jn) v (m:=n) λj z=> .gen ⟨j,z,rfl⟩).congr λi hi=>?_;rw [zR (f:=λk=>v k*jn k i) hi λk _ I=>by simp [jn,I]];simp [jn]
theorem km(z:Pr p)(J:N<=8)(O : ∀v:Vc,∃t,∀i,i<N->v i%p=app f N t i%p){t:Vc}(Q : ∀i,i<N->app f N t i%p=0) : ∀j,j<N->t j%p=0:=by
 obtain⟨q,K,l,s,_,hb,I,S,a1⟩:=qB z (h:=N) ⋯ J f;have U:Rk p N N (λj i=>f i j) N:=⟨jn,id,Qg z N,λv=>⟨λ_=>col_span.mpr (O v),λ_=>Z1 N v⟩⟩;have:=kh z S U;have Y:q=0:=by omega
 subst Y;have:=(I t).mpr λi hi=>by
  have:=Q i hi;unfold app at this;exact this
 cases this with
 | zero h=>exact h
 | step Z _ _=>obtain⟨k,I,_⟩:=Z;omega
def vJ(r:Nat)(B:Nat->Vc)(l:Nat->Nat)(t:Vc):Vc:=λi=>t i - sumTo (λj=>t (l j)*B j i) r
theorem we(I:IsB p N r B l)(t:Vc){j:Nat}(z:j<r):vJ r B l t (l j)=0:=by
 unfold vJ;rw [zR (f:=λJ=>t (l J)*B J (l j)) z λk O Q=>by rw [I.oth k j O z (zhO Q)];simp];rw [I.one j z];omega
theorem QH(t:Vc):Span p N (Fam r B) λi=>sumTo (λj=>t (l j)*B j i) r:=Span.sum (u:=B) (λj=>t (l j)) λj z=> .gen ⟨j,z,rfl⟩
theorem zbR(z:IsB p N r B l){t:Vc}(h:Span p N (Fam r B) t)(I : ∀j,j<r->t (l j)%p=0) : ∀i,i<N->t i%p=0:=λi hi=>by
 rw [yq z h i hi];have e:sumTo (λk=>t (l k)*B k i) r%p=sumTo (λ_=>0) r%p:=zK λk J=>by rw [zg8,I k J];simp
 rw [e,zG];simp
theorem Qf(z:Pr p)(I:IsB p N r B l){i:Nat}(hi:i<N)(J : ∀j,j<r->l j≠i) : ¬Span p N (Fam r B) (jn i):=λh=>by
 have:=zbR I h (λj O=>by unfold jn;rw [if_neg (zhO (J j O))];simp) i hi;unfold jn at this;rw [if_pos rfl,z.one]at this;omega
theorem vn(g:Nat->Nat->Int)(w:Nat)(u v:Vc)(i:Nat):app g w (λj=>u j - v j) i=app g w u i - app g w v i:=by
 have e:app g w u i=app g w (λj=>u j - v j) i+app g w v i:=by
  unfold app;rw [<- jG];exact zn λj _=>by dsimp only;rw [<- zj3];congr 1;omega
 omega
def JF(M f:Nat->Nat->Int)(N:Nat):Nat->Nat->Int:=λi j=>sumTo (λk=>M i k*f k j) N
theorem yH(t:Vc)(i:Nat):app (JF M f N) N t i=app M N (app f N t) i:=by
 unfold app JF;have e:sumTo (λj=>sumTo (λk=>M i k*f k j) N*t j) N=sumTo (λj=>sumTo (λk=>M i k*(f k j*t j)) N) N:=zn λj _=>by
  rw [<- j8];exact zn λk _=>ziw ..
 rw [e,j7];exact zn λk _=>jo ..
theorem zcF(Y:Pr p)(hN:N<=8)(hh:h<=8)(hs : ∀v:Vc,∃t,∀i,i<N->v i%p=app f N t i%p)(Z:IsB p N r B l)(Q : ∀t,Span p N (Fam r B) t↔Ker p h N M (app f N t))
 (a3:IsB p h r2 B2 l2) (hI : ∀v,Span p h (Fam r2 B2) v↔Span p h (Fam N λj i=>M i j) v) :
 (∀j,j<r->∀i,i<h->app M N (app f N (B j)) i%p=0)/\(∀c,c<N->(∀j,j<r->l j≠c)->∃i,i<h/\app M N (λa=>f a c) i%p≠0)/\r+r2=N/\
   ∀O:Vc->Prop,(∀c,c<N->(∀j,j<r->l j≠c)->Span p h O (app M N λa=>f a c))->(∀c,c<h->(∀j,j<r2->l2 j≠c)->Span p h O (jn c))->∀v,Span p h O v:=by
 have a0 : ∀t:Vc,Ker p h N M (app f N t) ↔ ∀i,i<h->app M N (app f N t) i%p=0:=λt=>Iff.rfl;have a7 : ∀(c:Nat),c<N->∀i,app M N (λa=>f a c) i%p=app M N (app f N (jn c)) i%p:=λc I i=>jH (λa _=>by rw [yG f I]) i;refine⟨λj J=>(a0 _).mp ((Q (B j)).mp (.gen ⟨j,J,rfl⟩)),λc I hn=>?_,?_,λO h1 h2 v=>?_⟩
 ·refine zhV λz=>Qf Y Z I hn ((Q _).mpr ((a0 _).mpr λi hi=>?_))
  rw [<- a7 c I i];exact zhV λy=>z ⟨i,hi,y⟩
 ·obtain⟨q',K',l',s',_,aa,a5,ab,al⟩:=qB Y (h:=h) (w:=N) ⋯ hN (JF M f N)
  have e1:q'=r:=(Jf Y aa Z (λv hv=>(Q v).mpr λi hi=>by
   have:=(a5 v).mp hv i hi;rw [show sumTo (λj=>JF M f N i j*v j) N=app (JF M f N) N v i from rfl,yH]at this;exact this) λv hv=>(a5 v).mpr λi hi=>by
   have:=(Q v).mp hv i hi;rw [show sumTo (λj=>JF M f N i j*v j) N=app (JF M f N) N v i from rfl,yH];exact this).1
  have e2:s'=r2:=by
   refine kh Y ab ⟨B2,l2,a3,λv=>(hI v).trans ⟨λz=>?_,λz=>?_⟩⟩
   ·obtain⟨x,hx⟩:=col_span.mp z
    obtain⟨t,S⟩:=hs x;refine col_span.mpr ⟨t,λi hi=>?_⟩;rw [hx i hi,yH];exact jH S i
   ·obtain⟨t,S⟩:=col_span.mp z
    exact col_span.mpr ⟨app f N t,λi hi=>by rw [S i hi,yH]⟩
  omega
 ·
  have im : ∀t:Vc,Span p h O (app M N (app f N t)):=λt=>by
   have hz:=(a0 _).mp ((Q _).mp (QH (p:=p) (N:=N) (B:=B) (r:=r) (l:=l) t));have e : ∀i,i<h->app M N (app f N t) i%p=app M N (app f N (vJ r B l t)) i%p:=λi hi=>by
    have e0:app M N (app f N (vJ r B l t)) i=app M N (app f N t) i - app M N (app f N λi=>sumTo (λj=>t (l j)*B j i) r) i:=by
     rw [<- vn];congr 1;funext a;exact vn ..
    rw [e0,zio,hz i hi];simp
   refine Span.congr ?_ e;have e3 : ∀i,app M N (app f N (vJ r B l t)) i=sumTo (λc=>vJ r B l t c*app M N (λa=>f a c) i) N:=λi=>by
    rw [<- ko];congr 1;funext a;unfold app;exact j9 ..
   have s1 : ∀K,K<=N->Span p h O λi=>sumTo (λc=>vJ r B l t c*app M N (λa=>f a c) i) K:=by
    intro K
    induction K with
    | zero=>intro _;exact .zero λi _=>by simp [sumTo]
    | succ K U=>
     intro hK;by_cases I : ∃j,j<r/\l j=K
     ·obtain⟨j,J,rfl⟩:=I
      refine(U ⋯).congr λi _=>?_;show(sumTo _ (l j)+_)%p=_;have z:=we Z t J;simp only [z];simp
     ·exact((h1 K ⋯ λj J z=>I ⟨j,J,z⟩).add (U ⋯) _).congr λi _=>rfl
   exact(s1 N (zg3 _)).congr λi _=>by rw [e3]
  have ah : ∀u,Span p h (Fam r2 B2) u->Span p h O u:=λu hu=>by
   obtain⟨x,hx⟩:=col_span.mp ((hI u).mp hu);obtain⟨t,S⟩:=hs x;exact(im t).congr λi hi=>by rw [hx i hi];exact jH S i
  have s2 : ∀K,K<=h->Span p h O λi=>sumTo (λc=>vJ r2 B2 l2 v c*jn c i) K:=by
   intro K
   induction K with
   | zero=>intro _;exact .zero λi _=>by simp [sumTo]
   | succ K U=>
    intro hK;by_cases I : ∃j,j<r2/\l2 j=K
    ·obtain⟨j,J,rfl⟩:=I
     refine(U ⋯).congr λi _=>?_;show(sumTo _ (l2 j)+_)%p=_;have z:=we a3 v J;simp only [z];simp
    ·exact((h2 K ⋯ λj J z=>I ⟨j,J,z⟩).add (U ⋯) _).congr λi _=>rfl
  refine((ah _ (QH (B:=B2) (r:=r2) (l:=l2) v)).add (s2 h (zg3 _)) 1).congr λi hi=>?_;congr 1;rw [zR (f:=λc=>vJ r2 B2 l2 v c*jn c i) hi λc _ I=>by simp [jn,I]];simp only [jn,if_true,vJ];omega
theorem zcG(J:Pr p)(hN:N<=8)(hh:h<=8)(hs : ∀v:Vc,∃t,∀i,i<N->v i%p=app f N t i%p)(U:IsB p N r B l)(hW : ∀t,Span p N (Fam r B) t↔Span p N (Fam h λj i=>M i j) (app f N t))
 (hk : ∀v,Span p h (Fam q K) v↔Ker p N h M v) {s:Nat} (hr:Rk p N h (λj i=>M i j) s) (ar:q+s=h) :
 (∀j,j<r->∃y:Vc,∀i,i<N->app M h y i%p=app f N (B j) i%p)/\(∀c,c<N->(∀j,j<r->l j≠c)->¬∃y:Vc,∀i,i<N->app M h y i%p=f i c%p)/\r+q=h/\
   ∀(Y:Vc->Prop) (x:Nat->Vc),(∀j,j<r->Span p h Y (x j)/\∀i,i<N->app M h (x j) i%p=app f N (B j) i%p)->(∀j,j<q->Span p h Y (K j))->∀v,Span p h Y v:=by
 have a4 : ∀t,Span p N (Fam r B) t ↔ ∃y:Vc,∀i,i<N->app f N t i%p=app M h y i%p:=λt=>(hW t).trans col_span;have inj : ∀{t:Vc},(∀i,i<N->app f N t i%p=0)->∀j,j<N->t j%p=0:=λQ=>km J hN hs Q;refine⟨λj I=>?_,λc hc hn z=>?_,?_,λY x h1 h2 v=>?_⟩
 ·obtain⟨y,Z⟩:=(a4 (B j)).mp (.gen ⟨j,I,rfl⟩)
  exact⟨y,λi hi=>(Z i hi).symm⟩
 ·obtain⟨y,Z⟩:=z
  exact Qf J U hc hn ((a4 _).mpr ⟨y,λi hi=>by rw [yG f hc,Z i hi]⟩)
 ·have ac:s<=8/\r<=8:=by
   obtain⟨s',as,ah⟩:=Xv J (n:=N) (m:=h) ⋯ hh λj i=>M i j;refine⟨by rw [kh J hr ah];omega,?_⟩;have : ∀r',r'<=r->r'<=N:=by
    intro r';have mono : ∀k,k<r->k<=l k:=by
     intro k
     induction k with
     | zero=>intro _;omega
     | succ k ih=>intro hk;have:=ih ⋯;have:=U.mono k (k+1) ⋯ hk;omega
    intro au;cases r' with
    | zero=>omega
    | succ ad=>have:=mono ad ⋯;have:=U.lt ad ⋯;omega
   have:=this r (zg3 _);omega
  have av:s<=r:=by
   obtain⟨s',a1,a2⟩:=Xv J (n:=N) (m:=r) ⋯ ac.2 λj=>app f N (B j);have e:s=s':=by
    obtain⟨C,S,hC,a5⟩:=hr;refine kh J (m:=h) (W:=λj i=>M i j) ⟨C,S,hC,a5⟩ ?_;obtain⟨C',al,am,an⟩:=a2;refine⟨C',al,am,λv=>(an v).trans ⟨λz=>?_,λz=>?_⟩⟩
    ·exact z.le λg O=>by
      obtain⟨j,I,rfl⟩:=O;exact(hW (B j)).mp (.gen ⟨j,I,rfl⟩)
    ·obtain⟨y,Z⟩:=col_span.mp z
     obtain⟨t,Q⟩:=hs v;have aa:Span p N (Fam r B) t:=(a4 t).mpr ⟨y,λi hi=>by rw [<- Q i hi,Z i hi]⟩;refine(Span.sum (u:=λj=>app f N (B j)) (λj=>t (l j)) (m:=r) λj I=> .gen ⟨j,I,rfl⟩).congr λi hi=>?_;rw [Q i hi,<- ko];exact jH (λj I=>yq U aa j I) i
   omega
  have aw:r<=s:=by
   obtain⟨C,S,hC,a5⟩:=hr;have ex : ∀j,∃t:Vc,∀i,i<N->C j i%p=app f N t i%p:=λj=>hs (C j);have g:Nat->Vc:=λj=>Classical.choose (ex j);have O : ∃g:Nat->Vc,∀j i,i<N->C j i%p=app f N (g j) i%p:=⟨λj=>Classical.choose (ex j),λj=>Classical.choose_spec (ex j)⟩;obtain⟨g,O⟩:=O;obtain⟨s',a1,a2⟩:=Xv J (n:=N) (m:=s) ⋯ ac.1 g;have e:r=s':=by
    refine kh J (m:=s) (W:=g) ⟨B,l,U,λv=>⟨λz=>?_,λz=>?_⟩⟩ a2
    ·have hv:=(a5 _).mpr ((hW v).mp z)
     refine(Span.sum (u:=g) (λj=>app f N v (S j)) (m:=s) λj I=> .gen ⟨j,I,rfl⟩).congr λi hi=>?_;have z0 : ∀a,a<N->app f N (λi=>v i - sumTo (λj=>app f N v (S j)*g j i) s) a%p=0:=λa ha=>by
      rw [vn,ko,zio,yq hC hv a ha];have e:sumTo (λk=>app f N v (S k)*C k a) s%p=sumTo (λk=>app f N v (S k)*app f N (g k) a) s%p:=zK λk _=>by rw [zg8,O k a ha,<- zg8]
      rw [e];simp
     have:=inj z0 i hi;have q2:=Int.emod_emod_of_dvd;exact(Int.emod_emod_of_dvd _ (Int.dvd_refl p)).symm.trans (by
      rw [zhs];have:(v i - sumTo (λj=>app f N v (S j)*g j i) s)%p=0:=this;exact ziu.mpr this)
    ·refine z.le λu hu=>?_
     obtain⟨j,I,rfl⟩:=hu;refine(hW _).mpr (((a5 (C j)).mp (.gen ⟨j,I,rfl⟩)).congr λi hi=>(O j i hi).symm)
   omega
  omega
 ·obtain⟨t,Q⟩:=hs (app M h v)
  have aa:Span p N (Fam r B) t:=(a4 t).mpr ⟨v,λi hi=>(Q i hi).symm⟩;have hx:Span p h Y λc=>sumTo (λj=>t (l j)*x j c) r:=Span.sum (u:=x) (λj=>t (l j)) λj I=>(h1 j I).1;have hd:Span p h Y λc=>v c - sumTo (λj=>t (l j)*x j c) r:=by
   refine((hk _).mpr λi hi=>?_).le λg O=>by obtain⟨j,I,rfl⟩:=O;exact h2 j I
   show app M h (λc=>v c - sumTo (λj=>t (l j)*x j c) r) i%p=0;rw [vn,ko,zio];have e:sumTo (λj=>t (l j)*app M h (x j) i) r%p=app M h v i%p:=by
    rw [Q i hi,jH (λj I=>yq U aa j I) i,ko];exact zK λj I=>by rw [zg8,(h1 j I).2 i hi,<- zg8]
   rw [e];simp
  refine(hx.add hd 1).congr λc _=>?_;congr 1;omega
end
structure BrInv(p:Int)(w:Nat->Bool)(wd:Nat->Nat)(T:Nat->Nat->Nat->Int)(k:Nat)(bars:List Bar):Prop where
 ok : ∀b,b∈bars->BarOk p w wd T k b
 sp : ∀r,r<=k->∀v,Span p (wd r) (GenB bars r) v
 ct : ∀r,r<=k->bars.countP (λb=>b.has r)=wd r
 od:(bars.filter λb=>b.has k).Pairwise (Ord w)
def ldx(r:Nat)(l:Nat->Nat)(i:Nat):Option Nat:=(zgX r).find? λj=>l j==i
theorem qf{r:Nat}{l:Nat->Nat}{i j:Nat}(h:ldx r l i=some j):j<r/\l j=i:=by
 have h1:=List.find?_some h;have h2:=List.mem_of_find?_eq_some h;exact⟨zgZ.mp h2,by simpa using h1⟩
theorem yw{r:Nat}{l:Nat->Nat}{i:Nat}(h:ldx r l i=none) : ∀j,j<r->l j≠i:=λj z=>by
 have:=zjL.mp h j (zgZ.mpr z);simpa using this
def stB(p:Int)(A:Nat->Bar)(N r:Nat)(B:Nat->Vc)(l:Nat->Nat)(i:Nat):Bar:=match ldx r l i with
 | some j=>mxB p A N (B j) i
 | none=>A i
def exB(k:Nat)(b:Bar):Option Vc->Bar
 | none=>b
 | some y=>⟨b.s,b.n+1,λr=>if r=k+1 then y else b.v r⟩
def nuB(k:Nat)(y:Vc):Bar:=⟨k+1,1,λ_=>y⟩
def tco(r:Nat)(B:Nat->Vc)(l:Nat->Nat)(i:Nat):Vc:=match ldx r l i with
 | some j=>B j
 | none=>jn i
theorem Kp(p A N r B l i):(stB p A N r B l i).s=(A i).s:=by unfold stB;split<;>rfl
theorem zcH(p A N r B l i):(stB p A N r B l i).n=(A i).n:=by unfold stB;split<;>rfl
theorem Jr(p A N r B l i rm):(stB p A N r B l i).has rm=(A i).has rm:=by unfold Bar.has;rw [Kp,zcH]
theorem yd{k r:Nat}{y:Vc}:(nuB k y).has r=decide (r=k+1):=by
 unfold nuB Bar.has;by_cases h:r=k+1
 ·simp [h]
 ·simp [h];intro;omega
section
variable{p:Int}{w:Nat->Bool}{wd:Nat->Nat}{T:Nat->Nat->Nat->Int}{k N r:Nat}{A:Nat->Bar}{B:Nat->Vc}{l:Nat->Nat}
theorem zab(z:IsB p N r B l){i:Nat}(hi:i<N):tco r B l i i=1/\∀c,c<i->tco r B l i c=0:=by
 unfold tco;cases hj:ldx r l i with
 | some j=>
  obtain⟨h1,h2⟩:=qf hj;subst h2;exact⟨z.one j h1,λc I=>z.bef j c h1 I⟩
 | none=>exact⟨by simp [jn],λc I=>by simp only [jn];rw [if_neg ⋯]⟩
theorem zaS{z:Nat}{i c:Nat}(hi:i<N)(J:(A i).has z=true):(stB p A N r B l i).v z c%p=mxV p A N (tco r B l i) z c%p:=by
 unfold stB tco;cases I:ldx r l i with
 | some j=>rfl
 | none=>
  show(A i).v z c%p=_;unfold mxV;rw [zhs];congr 1;rw [zR (f:=λj=>if (A j).has z=true then jn i j*(A j).v z c else 0) hi λj _ I=>by unfold jn;rw [if_neg (zhO I)];simp];simp [jn,J]
theorem zac(I:0<p)(J:IsB p N r B l)(z : ∀j,j<N->BarOk p w wd T k (A j))(O : ∀j,j<N->(A j).has k=true)(Q : ∀i c,i<c->c<N->Ord w (A i) (A c)){i:Nat}(hi:i<N):BarOk p w wd T k (stB p A N r B l i):=by
 unfold stB;split
 ·next j S=>
  obtain⟨h1,h2⟩:=qf S;subst h2;exact zdA I z O hi (λc h1 h2=>Q _ c h1 h2) λc U=>J.bef j c h1 U
 ·exact z i hi
theorem wp{b:Bar}{o:Option Vc}{z:Nat}(I:z<=k)(J:b.s+b.n=k+1):(exB k b o).has z=b.has z/\(exB k b o).v z=b.v z:=by
 cases o with
 | none=>exact⟨rfl,rfl⟩
 | some y=>
  refine⟨?_,by simp only [exB];rw [if_neg ⋯]⟩;unfold exB Bar.has;simp only;congr 1;exact decide_eq_decide.mpr ⋯
theorem JX{b:Bar}{o:Option Vc}(z:b.s+b.n=k+1):(exB k b o).has (k+1)=o.isSome:=by
 cases o with
 | none=>unfold exB Bar.has;simp;omega
 | some y=>unfold exB Bar.has;simp;omega
theorem zbW(k b o):(exB k b o).s=b.s:=by cases o<;>rfl
theorem zdS(p0:0<p){b:Bar}{o:Option Vc}(J:b.s+b.n=k+1)(S:BarOk p w wd T k b)(hr : ∀y,o=some y->∀c,c<wd (k+1)->0<=y c/\y c<p)
 (h0:o=none->w k=false->∀c,c<wd (k+1)->app (T k) (wd k) (b.v k) c%p=0) (h1 : ∀y,o=some y->w k=false->∀c,c<wd (k+1)->app (T k) (wd k) (b.v k) c%p=y c%p)
 (h2 : ∀y,o=some y->w k=true->∀c,c<wd k->app (T k) (wd (k+1)) y c%p=b.v k c%p):BarOk p w wd T (k+1) (exB k b o):=by
 have ab:=S.n1;refine⟨?_,?_,λO c Z z=>?_,λj hj U c z=>?_⟩
 ·cases o with
  | none=>exact S.n1
  | some y=>show 1<=b.n+1;omega
 ·cases o with
  | none=>show b.s+b.n<=k+1+1;omega
  | some y=>show b.s+(b.n+1)<=k+1+1;omega
 ·by_cases a5:O<=k
  ·obtain⟨e1,I⟩:=wp (o:=o) a5 J
   rw [e1]at Z;rw [I];exact S.rng O c Z z
  ·have a1:=has_iff.mp Z
   cases o with
   | none=>exact absurd a1.2 (by show ¬(O<b.s+b.n);omega)
   | some y=>
    have:O=k+1:=by have:O<b.s+(b.n+1):=a1.2;omega
    subst this;have e:(exB k b (some y)).v (k+1)=y:=by simp [exB]
    rw [e];exact hr y rfl c z
 ·by_cases a0:j<k
  ·have g1:begR w j<=k:=by unfold begR;split<;>omega
   have g2:endR w j<=k:=by unfold endR;split<;>omega
   obtain⟨e1,I⟩:=wp (o:=o) g1 J;obtain⟨e3,e4⟩:=wp (o:=o) g2 J;rw [e1]at U;rw [I,e3,e4];exact S.arr j a0 U c z
  ·have a0:j=k:=by omega
   subst a0;obtain⟨e1,I⟩:=wp (o:=o) (zg3 j) J;have e5:=JX (k:=j) (o:=o) J;have a9:b.has j=true:=has_iff.mpr ⋯;cases hw:w j with
   | false=>
    have Y:begR w j=j:=by unfold begR;rw [hw];rfl
    have Q:endR w j=j+1:=by unfold endR;rw [hw];rfl
    rw [Q]at z;rw [Y,Q,I,e5];cases o with
    | none=>rw [h0 rfl hw c z];simp
    | some y=>rw [h1 y rfl hw c z];simp [exB]
   | true=>
    have Y:begR w j=j+1:=by unfold begR;rw [hw];rfl
    have Q:endR w j=j:=by unfold endR;rw [hw];rfl
    rw [Q]at z;rw [Y,e5]at U;rw [Y,Q,e1,I,a9];cases o with
    | none=>cases U
    | some y=>
     have e:(exB j b (some y)).v (j+1)=y:=by simp [exB]
     rw [e,h2 y rfl hw c z];simp
theorem zdy{y:Vc}(S : ∀c,c<wd (k+1)->0<=y c/\y c<p)(h2:w k=true->∀c,c<wd k->app (T k) (wd (k+1)) y c%p=0):BarOk p w wd T (k+1) (nuB k y):=by
 refine⟨zg3 _,by show k+1+1<=k+1+1;omega,λZ c J z=>?_,λj hj I c z=>?_⟩
 ·rw [yd]at J
  have:=of_decide_eq_true J;subst this;exact S c z
 ·rw [yd]at I
  have I:=of_decide_eq_true I;cases hw:w j with
  | false=>
   have O:begR w j=j:=by unfold begR;rw [hw];rfl
   omega
  | true=>
   have O:begR w j=j+1:=by unfold begR;rw [hw];rfl
   have Q:endR w j=j:=by unfold endR;rw [hw];rfl
   have U:j=k:=by omega
   subst U;rw [Q]at z;have Y:(nuB j y).has (endR w j)=false:=by rw [yd,Q];simp
   rw [Y,O];show app (T j) (wd (j+1)) y c%p=_;rw [h2 hw c z];simp
def xZ(p:Int)(k:Nat)(w:Nat->Bool)(bars:List Bar)(A:Nat->Bar)(N r:Nat)(B:Nat->Vc)(l:Nat->Nat)(nx:Nat->Option Vc)(z:List Vc):List Bar:=
 (bars.filter λb=> !b.has k)++(if w k then (zgX N).map (λi=>exB k (stB p A N r B l i) (nx i))++z.map (nuB k)else z.map (nuB k)++(zgX N).map λi=>exB k (stB p A N r B l i) (nx i))
theorem Yz(p0:0<p){bars:List Bar}(I:BrInv p w wd T k bars)(hN:(bars.filter λb=>b.has k).length=N)(S : ∀j,A j=(bars.filter λb=>b.has k).getD j Kb)(J:IsB p N r B l)
 {nx:Nat->Option Vc} {O:List Vc} (c1 : ∀i y,i<N->nx i=some y->∀c,c<wd (k+1)->0<=y c/\y c<p) (c2 : ∀y,y∈O->∀c,c<wd (k+1)->0<=y c/\y c<p)
 (d0 : ∀i,i<N->nx i=none->w k=false->∀c,c<wd (k+1)->app (T k) (wd k) ((stB p A N r B l i).v k) c%p=0)
 (d1 : ∀i y,i<N->nx i=some y->w k=false->∀c,c<wd (k+1)->app (T k) (wd k) ((stB p A N r B l i).v k) c%p=y c%p)
 (d2 : ∀i y,i<N->nx i=some y->w k=true->∀c,c<wd k->app (T k) (wd (k+1)) y c%p=(stB p A N r B l i).v k c%p)
 (d3 : ∀y,y∈O->w k=true->∀c,c<wd k->app (T k) (wd (k+1)) y c%p=0)
 (s1 : ∀v,Span p (wd (k+1)) (λg=>(∃i,i<N/\nx i=some g)\/g∈O) v) (n1:(zgX N).countP (λi=>(nx i).isSome)+O.length=wd (k+1)) :
 BrInv p w wd T (k+1) (xZ p k w bars A N r B l nx O):=by
 have mA : ∀j,j<N->A j∈bars/\(A j).has k=true:=λj U=>by
  have:A j∈bars.filter λb=>b.has k:=by
   rw [S j,zg4,zg0 ⋯];exact zis _
  have:=zhm.mp this;exact⟨this.1,by simpa using this.2⟩
 have a8 : ∀j,j<N->BarOk p w wd T k (A j):=λj U=>I.ok _ (mA j U).1;have hO : ∀i c,i<c->c<N->Ord w (A i) (A c):=λi c h1 h2=>by
  have:=ziF.mp I.od i c ⋯ ⋯ h1;rw [S i,S c,zg4,zg0 ⋯,zg4,zg0 ⋯];exact this
 have okS : ∀i,i<N->BarOk p w wd T k (stB p A N r B l i):=λi hi=>zac p0 J a8 (λj U=>(mA j U).2) hO hi;have Y : ∀i,i<N->(stB p A N r B l i).s+(stB p A N r B l i).n=k+1:=λi hi=>by
  rw [Kp,zcH];have h1:=has_iff.mp (mA i hi).2;have h2:=(a8 i hi).le;omega
 have a1 : ∀b,b∈bars->b.has k=false->b.s+b.n<=k:=λb J hk=>by
  have h1:=(I.ok b J).le;have h2:=(I.ok b J).n1;refine Nat.not_lt.mp λz=>?_;have:b.has k=true:=has_iff.mpr ⋯;rw [this]at hk;cases hk
 have mem : ∀b,b∈xZ p k w bars A N r B l nx O↔(b∈bars/\b.has k=false)\/(∃i,i<N/\b=exB k (stB p A N r B l i) (nx i))\/∃y,y∈O/\b=nuB k y:=λb=>by
  unfold xZ;rw [zjc,zhm];refine or_congr ⋯ ?_;cases w k<;>simp only [zir,if_false,if_true,zjc,zhr,zgZ]
  ·constructor
   ·rintro(⟨y,h1,h2⟩ | ⟨i,h1,h2⟩)
    ·exact .inr ⟨y,h1,h2.symm⟩
    ·exact .inl ⟨i,h1,h2.symm⟩
   ·rintro(⟨i,h1,h2⟩ | ⟨y,h1,h2⟩)
    ·exact .inr ⟨i,h1,h2.symm⟩
    ·exact .inl ⟨y,h1,h2.symm⟩
  ·constructor
   ·rintro(⟨i,h1,h2⟩ | ⟨y,h1,h2⟩)
    ·exact .inl ⟨i,h1,h2.symm⟩
    ·exact .inr ⟨y,h1,h2.symm⟩
   ·rintro(⟨i,h1,h2⟩ | ⟨y,h1,h2⟩)
    ·exact .inl ⟨i,h1,h2.symm⟩
    ·exact .inr ⟨y,h1,h2.symm⟩
 have cnt : ∀P:Bar->Bool,(xZ p k w bars A N r B l nx O).countP P=(bars.filter λb=> !b.has k).countP P+(zgX N).countP (λi=>P (exB k (stB p A N r B l i) (nx i)))+(O.map (nuB k)).countP P:=λP=>by
  unfold xZ;rw [List.countP_append];cases w k<;>simp only [zir,if_false,if_true,List.countP_append,zje (f:=λi=>exB k (stB p A N r B l i) (nx i))]
  ·rw [zj1,Nat.add_comm (List.countP P (List.map (nuB k) O))];rfl
  ·rw [zj1];rfl
 refine⟨λb an=>?_,λQ hr v=>?_,λQ hr=>?_,?_⟩
 ·rcases (mem b).mp an with⟨h1,h2⟩ | ⟨i,hi,rfl⟩ | ⟨y,hy,rfl⟩
  ·have hk:=a1 b h1 h2
   have ob:=I.ok b h1;refine⟨ob.n1,by omega,ob.rng,λj U ab c hc=>?_⟩;have as:=has_iff.mp ab;refine ob.arr j ?_ ab c hc;have:begR w j>=j:=by unfold begR;split<;>omega
   omega
  ·exact zdS p0 (Y i hi) (okS i hi) (λy e=>c1 i y hi e) (λe=>d0 i hi e) (λy e=>d1 i y hi e) λy e=>d2 i y hi e
  ·exact zdy (c2 y hy) (d3 y hy)
 ·by_cases Z:Q<=k
  ·refine(I.sp Q Z v).le λg hg=>?_
   obtain⟨b,h1,h2,rfl⟩:=hg;cases hbk:b.has k with
   | false=>exact .gen ⟨b,(mem b).mpr (.inl ⟨h1,hbk⟩),h2,rfl⟩
   | true=>
    have ap:b∈bars.filter λb=>b.has k:=zhm.mpr ⟨h1,by simpa using hbk⟩;obtain⟨i,hi,e⟩:=zkn ap;have ei:A i=b:=by rw [S i,zg4,zg0 hi];exact e
    rw [<- ei]at h2 ⊢;refine Wl (A:=A) (A':=λi=>stB p A N r B l i) (t:=λi=>tco r B l i) (λi hi=>(zab J hi).1) (λi c hi hc=>(zab J hi).2 c hc) (λi hi hh=>?_) (λi hi hh c _=>zaS hi hh) i ⋯ h2;obtain⟨x1,x2⟩:=wp (o:=nx i) Z (Y i hi);exact .gen ⟨_,(mem _).mpr (.inr (.inl ⟨i,hi,rfl⟩)),by rw [x1,Jr];exact hh,by rw [x2]⟩
  ·have:Q=k+1:=by omega
   subst this;refine(s1 v).le λg hg=>?_;rcases hg with⟨i,hi,e⟩ | hg
   ·refine .gen ⟨_,(mem _).mpr (.inr (.inl ⟨i,hi,rfl⟩)),?_,?_⟩
    ·rw [JX (Y i hi),e];rfl
    ·rw [e];simp [exB]
   ·exact .gen ⟨_,(mem _).mpr (.inr (.inr ⟨g,hg,rfl⟩)),by rw [yd];simp,rfl⟩
 ·rw [cnt]
  by_cases Z:Q<=k
  ·have e1:(O.map (nuB k)).countP (λb=>b.has Q)=0:=zkq.mpr λb J=>by
    obtain⟨y,_,rfl⟩:=zhr.mp J;rw [yd];simp;omega
   have e2:(zgX N).countP (λi=>(exB k (stB p A N r B l i) (nx i)).has Q)=(bars.filter λb=>b.has k).countP λb=>b.has Q:=by
    have:(bars.filter λb=>b.has k)=(zgX N).map A:=by
     rw [<- jP Kb (bars.filter λb=>b.has k),hN];exact zhi λj _=>(S j).symm
    rw [this,zje];refine zic λi hi=>?_;have hi:=zgZ.mp hi;rw [(wp (o:=nx i) Z (Y i hi)).1,Jr];rfl
   rw [e1,e2,<- I.ct Q Z,List.countP_eq_countP_filter_add bars (λb=>b.has Q) λb=>b.has k];omega
  ·have:Q=k+1:=by omega
   subst this;have e0:(bars.filter λb=> !b.has k).countP (λb=>b.has (k+1))=0:=zkq.mpr λb J=>by
    obtain⟨h1,h2⟩:=zhm.mp J;have:=a1 b h1 (by simpa using h2);intro z;have:=has_iff.mp z;omega
   have e1:(O.map (nuB k)).countP (λb=>b.has (k+1))=O.length:=by
    rw [List.countP_eq_length.mpr λb J=>?_,zhk];obtain⟨y,_,rfl⟩:=zhr.mp J;rw [yd];simp
   have e2:(zgX N).countP (λi=>(exB k (stB p A N r B l i) (nx i)).has (k+1))=(zgX N).countP λi=>(nx i).isSome:=zic λi hi=>by
    rw [JX (Y i (zgZ.mp hi))]
   rw [e0,e1,e2];omega
 ·have e0:((bars.filter λb=> !b.has k).filter λb=>b.has (k+1))=[]:=List.filter_eq_nil_iff.mpr λb J=>by
   obtain⟨h1,h2⟩:=zhm.mp J;have:=a1 b h1 (by simpa using h2);intro z;have:=has_iff.mp z;omega
  have pO:((zgX N).map λi=>exB k (stB p A N r B l i) (nx i)).Pairwise (Ord w):=by
   rw [zi1];refine ziY (λ{a b} ha J h=>?_) (zjj (n:=N));have:=hO a b h (zgZ.mp J);unfold Ord;rw [zbW,zbW,Kp,Kp];exact this
  have pN:(O.map (nuB k)).Pairwise (Ord w):=by
   rw [zi1];refine ziF.mpr λ_ _ _ _ _=>⟨λz=>?_,λz=>?_⟩
   ·exact absurd z (zhC (k+1))
   ·exact absurd z (zhC (k+1))
  have so : ∀b,b∈(zgX N).map (λi=>exB k (stB p A N r B l i) (nx i))->b.s<=k:=λb J=>by
   obtain⟨i,hi,rfl⟩:=zhr.mp J;have hi:=zgZ.mp hi;rw [zbW,Kp];exact(has_iff.mp (mA i hi).2).1
  have sn : ∀b,b∈O.map (nuB k)->b.s=k+1:=λb J=>by
   obtain⟨y,_,rfl⟩:=zhr.mp J;rfl
  unfold xZ;rw [zjM,e0,List.nil_append];refine zjV _ ?_;cases hw:w k with
  | false=>
   simp only [zir,if_false];refine List.pairwise_append.mpr ⟨pN,pO,λa ha b J=>?_⟩;have h1:=sn a ha;have h2:=so b J;exact⟨λz=>by omega,λ_=>by rw [h1];exact hw⟩
  | true=>
   simp only [if_true];refine List.pairwise_append.mpr ⟨pO,pN,λa ha b J=>?_⟩;have h1:=sn b J;have h2:=so a ha;exact⟨λ_=>by rw [h1];exact hw,λz=>by omega⟩
end
def zfe:Res->Option (Int×Int)
 | .val d=>match d with
  | .tup ds=>match ds with
   | [x,y]=>(asI x).bind λi=>(asI y).map λj=>(i,j)
   | _=>none
  | _=>none
 | .own _=>none
def Yo(F:List D->Option Res):List D->Option (List (Int×Int))
 | []=>some []
 | d::r=>((F [d]).bind zfe).bind λp=>(Yo F r).map λl=>p::l
def Ky(F:List D->Option Res)(f:CO (Sk×List D)):CO (List D):=λγ=>(f γ).bind λa=>match a.1 with
 | .L=>(Yo F a.2).bind λps=>if a.2.length<64 then some ((JG ps).map λi=>a.2.getD i .non)else none
 | _=>none
def jI:List D->Option Res:=z5 1 (jR (jp (za (sIx (zf 0) (zg (.int 0))) (za (zu qP (zu jq (sIx (zf 0) (zg (.int 0))) (k4 (zA (sIx (zf 0) (zg (.int 1)))))) (zg (.int 1))) zo))))
def jm:List D->Option Res:=z5 2 (jR (Qq dLe dLt (sIx (zf 0) (zg (.int 0))) (zc 1) (zu jq (sIx (zf 0) (zg (.int 0))) (k4 (zA (sIx (zf 0) (zg (.int 1))))))))
def qr:List D->Option Res:=z5 2 (qW (zF (zD (zf 0)) (.nm 0) 1 [1] (sB (zq jm (za (zc 0) (za (zc 1) zo)))) (sIx (zA (sIx (zf 0) (zg (.int 1)))) (zu qP (zc 1) (sIx (zf 0) (zg (.int 0)))))))
def xG:List D->Option Res:=z5 2 (jR (zq F_turned_over (za (jp (za (k4 (zf 1)) (za (zc 0) (za (zN (zf 1)) zo)))) zo)))
def xE:List D->Option Res:=z5 5 (zI (zQ 4 (jk (zF (Qn (zc 2) (zc 1)) (.tp [0,1]) 2 [3] (sB (zq jm (za (zc 1) (za (zc 2) zo)))) (zc 0)))) (jR (zq F_led (za (sIx (zf 0) (zg (.int 0))) (za (zq xG (za (sIx (zA (sIx (zf 0) (zg (.int 1)))) (zc 3)) (za (jk (zX qr (za (zc 1) (za (zc 3) zo)))) zo))) (za (zc 4) zo))))))
def Zk:List D->Option Res:=z5 5 (zI (zQ 3 (sIx (zf 1) (zq jJ (za (zc 2) zo)))) (zI (zQ 4 (jk (zF (ji (k4 (zA (sIx (zf 3) (zg (.int 1)))))) (.nm 0) 1 [0,1,2,3] ja (zq xE (za (zc 1) (za (zc 2) (za (zc 3) (za (zu jq (sIx (zf 4) (zg (.int 0))) (zc 0)) zo)))))))) (jR (jp (za (sIx (zf 3) (zg (.int 0))) (za (zN (zf 4)) zo))))))
def kZ:List D->Option Res:=z5 8 (zI (zQ 3 (sIx (zA (sIx (zA (sIx (zf 0) (zg (.int 2)))) (zc 1))) (zg (.int 0)))) (zI (zQ 4 (sIx (zA (sIx (zA (sIx (zf 0) (zg (.int 2)))) (zc 1))) (zg (.int 1)))) (zI (zQ 5 (Zp (sB (zu dEq (zc 3) (zg (.str "r")))) (jk (zX xj (za (sIx (zf 0) (zg (.int 0))) (za (zc 4) zo)))) (jk (zX kq (za (sIx (zf 0) (zg (.int 0))) (za (zc 4) zo)))))) (zI (zQ 6 (jk (zX F_led_into (za (sIx (zf 0) (zg (.int 0))) (za (zq xG (za (sIx (zA (sIx (zf 0) (zg (.int 1)))) (zc 1)) (za (jk (zX qr (za (zc 2) (za (zc 1) zo)))) zo))) (za (zc 5) zo)))))) (zI (zQ 7 (KB (zF (zD (zf 6)) (.nm 0) 1 [] ja (jp (za (zq jJ (za (zc 0) zo)) (za (zc 0) zo)))))) (qW (zF (Qp (zc 2)) (.tp [0,1]) 2 [0,2,7] ja (Zp (sB (zcS (zc 0) (zc 4))) (zq Zk (za (zc 2) (za (zc 3) (za (zef (zc 4) (zc 0)) zo)))) (zc 1)))))))))
def qc:List D->Option Res:=z5 4 (zI (sIf (sB (zu dEq (sIx (zf 1) (zg (.int 0))) (zg (.str "l")))) (jR (zq xP (za (zc 0) (za (sIx (zf 1) (zg (.int 1))) (za (zc 2) zo))))) j4) (zI (zQ 3 (zq F_led (za (zc 0) (za (sIx (zf 1) (zg (.int 1))) (za (zc 2) zo))))) (jR (Zp (sB (zag (zf 3))) (zc 3) (zg .non)))))
def qU:List D->Option Res:=z5 4 (zI (zQ 3 (zq qc (za (zc 0) (za (zc 1) (za (sIx (zA (sIx (zf 2) (zg (.int 1)))) (zed (zg (.int 1)))) zo))))) (jR (Zp (sB (zu zeB (zc 3) (zg .non))) (zc 2) (jp (za (sIx (zf 2) (zg (.int 0))) (za (zu jq (sIx (zf 2) (zg (.int 1))) (jp (za (zc 3) zo))) zo))))))
def xi:List D->Option Res:=z5 3 (zI (sIf (sB (zu dEq (sIx (zf 1) (zg (.int 0))) (zg (.str "l")))) (qW (zX xj (za (zc 0) (za (sIx (zf 1) (zg (.int 1))) zo)))) j4) (zI (zQ 2 (jk (zF (zD (jz (zX kq (za (zc 0) (za (sIx (zf 1) (zg (.int 1))) zo))))) (.nm 0) 1 [] ja (zq jJ (za (zc 0) zo))))) (qW (zF (VN (sIx (zA (zq F_same_table (za (sIx (zA (sIx (zf 1) (zg (.int 1)))) (zg (.int 0))) zo))) (zg (.int 2)))) (.tp [0,1]) 2 [2] (sB (wH (zc 0) (zf 2))) (zc 1)))))
def vA:List D->Option Res:=z5 9 (zI (zQ 3 (sIx (zf 0) (zg (.int 0)))) (zI (zQ 4 (sIx (zA (sIx (zf 0) (zg (.int 2)))) (zc 1))) (zI (zQ 5 (jk (zF (zD (zf 2)) (.nm 0) 1 [1] (xl (sB (zq jm (za (zc 0) (za (zc 1) zo))))) (zc 0)))) (zI (zQ 6 (jk (zX kZ (za (zc 0) (za (zc 1) (za (jk (zF (zD (zf 2)) (.nm 0) 1 [1] (sB (zq jm (za (zc 0) (za (zc 1) zo)))) (zc 0))) zo)))))) (zI (zQ 7 (jk (zF (zD (zf 6)) (.nm 0) 1 [3,4] ja (zq qU (za (zc 1) (za (zc 2) (za (zc 0) zo))))))) (zI (zQ 8 (jk (zF (zD (jz (zX xi (za (zc 3) (za (zc 4) zo))))) (.nm 0) 1 [1] ja (jp (za (zu jq (zc 1) (zg (.int 1))) (za (jp (za (zc 0) zo)) zo)))))) (jR (jk (kA (zf 5) (zA (Zp (sB (zu dEq (sIx (zf 4) (zg (.int 0))) (zg (.str "r")))) (jk (kA (zf 8) (zf 7))) (jk (kA (zf 7) (zf 8))))))))))))))
def vB:List D->Option Res:=z5 3 (zI (zQ 1 (jk (zF (zD (zA (sIx (zA (zq F_same_table (za (sIx (zA (sIx (zf 0) (zg (.int 1)))) (zg (.int 0))) zo))) (zg (.int 2))))) (.nm 0) 1 [] ja (jp (za (zg (.int 0)) (za (jp (za (zc 0) zo)) zo)))))) (zI (yk (ji (k4 (zA (sIx (zf 0) (zg (.int 2)))))) (.nm 2) (zQ 1 (zq vA (za (zc 0) (za (zc 2) (za (zc 1) zo)))))) (qW (Ky jI (zf 1)))))
theorem zC{F G:CO Fl}{γ γ':Ctx}{r:Option Fl}(h:F γ=some (.next γ'))(g:G γ'=r):zI F G γ=r:=by
 rw [zO,h];exact g
theorem jN{n:Nat}{F:CO Fl}{ds:List D}{r:Res}(h:F (zV n ds)=some (.ret r)):z5 n F ds=some r:=by
 show(F (zV n ds)).bind _=_;rw [h];rfl
theorem Z2{T:Tg}{F:CO Fl}(P:Nat->Ctx->Prop)(n:Nat){γ:Ctx}(J:P 0 γ)(step : ∀s,s<n->∀γ,P s γ->∃γ1 z,jQ T (.int (s:Int)) γ=some γ1/\F γ1=some (.next z)/\P (s+1) z) :
 ∃γ',qh T F ((zgX n).map λ(i:Nat)=>D.int (i:Int)) γ=some (.next γ')/\P n γ':=by
 have O : ∀(k s:Nat) (γ:Ctx),s+k=n->P s γ->∃γ',qh T F ((ziz s k).map λ(i:Nat)=>D.int (i:Int)) γ=some (.next γ')/\P n γ':=by
  intro k
  induction k with
  | zero=>
   intro s γ e I;obtain rfl:s=n:=by omega
   exact⟨γ,rfl,I⟩
  | succ k Q=>
   intro s γ e I;obtain⟨γ1,z,e1,S,U⟩:=step s ⋯ γ I;obtain⟨γ',Y,Z⟩:=Q (s+1) z ⋯ U;refine⟨γ',?_,Z⟩;rw [zia,zhq,jD,e1];simp only [zg5,S];exact Y
 have:=O n 0 γ ⋯ J;rw [<- zie]at this;exact this
theorem XI{T:Tg}{F:CO Fl}{f:CO D}(P:Nat->Ctx->Prop)(n:Nat)(Q:n<=lim){γ:Ctx}(I:f γ=some (.int (n:Int)))(J:P 0 γ)(step : ∀s,s<n->∀γ,P s γ->∃γ1 z,jQ T (.int (s:Int)) γ=some γ1/\F γ1=some (.next z)/\P (s+1) z) :
 ∃γ',yk (ji f) T F γ=some (.next γ')/\P n γ':=by
 obtain⟨γ',e,O⟩:=Z2 P n J step;refine⟨γ',?_,O⟩;have S:=jf;have r:inR (n:Int)=true:=QM ⋯ ⋯;rw [Q8,vw,I];simp only [zg5,qA,r,if_true,zh1,jK];rw [z9 n λi=>(i:Int)];exact e
@[simp] theorem zfO(γ:Ctx)(f g):za7 f g γ=((f γ).bind asI).bind λi=>((g γ).bind asI).map λj=> .int (if j<i then j else i):=rfl
def zf0(m m':Nat)(w w':Nat->Bool):Prop:=m=m'/\∀k,k<m->w k=w' k
instance (m m':Nat) (w w':Nat->Bool):Decidable (zf0 m m' w w'):=inferInstanceAs (Decidable (m=m'/\∀k,k<m->w k=w' k))
theorem Y3(xs:List D)(n:Nat)(J:xs.length=n)(a4 : ∀i (h:i<n),∃z,xs[i]'(J ▸ h) = .int z)(aq:n<=63)(k:Int)(hk:0<=k)(ar:k<100000) :
 ∃m,F_law_cell [.lst xs,.int k]=some (.val (.int m))/\0<=m/\m<1000000007:=by
 have O : ∀x:Int,Zg x 48271=true:=λx=>Q1 _ _ ⋯ ⋯;have Q : ∀x:Int,Zg 7 x=true:=λx=>kc _ _ ⋯ ⋯;have S : ∀x:Int,Zg 13 x=true:=λx=>kc _ _ ⋯ ⋯;have U : ∀x:Int,Zg x 69621=true:=λx=>Q1 _ _ ⋯ ⋯;have c5:Zg (7*k) k=true:=Q1 _ _ ⋯ ⋯;have I:zd0 10 9=true:=by decide
 have Y:zd0 10 30=true:=by decide
 have hl:lim=2500:=rfl;by_cases ac:n=0
 ·subst ac
  have Z:xs=[]:=zhy J;subst Z;simp [F_law_cell,z5,zV,zO,O,Q,S,U,c5,I,Y];omega
 ·have hp:0<n:=by omega
  obtain⟨i,hi⟩:=ziR (zhM k (show(n:Int)≠0 by omega));have a5:i<n:=by have:=zht k (show(0:Int)<n by omega);omega
  obtain⟨zi,ei⟩:=a4 i a5;have ii:ixD n (i:Int)=some i:=by rw [j3,if_pos a5]
  by_cases h1:n=1
  ·subst h1
   have i0:i=0:=by omega
   subst i0;have k1:k%1=0:=by omega
   simp [F_law_cell,z5,zV,zO,O,Q,S,U,c5,I,Y,J,ei];omega
  ·obtain⟨z0,Z⟩:=a4 0 hp
   have i0:ixD n 0=some 0:=by have:=j3 n 0;rw [if_pos hp]at this;exact this
   have q1:(0:Int)<(n:Int) - 1:=by omega
   have q2:(1:Int)<(n:Int):=by omega
   have ab:1<n:=by omega
   have q3:(n:Int) - 1<1073741824:=by omega
   have q4:(0:Int)<(n:Int):=by omega
   obtain⟨j,hj⟩:=ziR (zhM k (show(n:Int) - 1≠0 by omega));have a6:1+j<n:=by have:=zht k q1;omega
   obtain⟨zj,ej⟩:=a4 (1+j) a6;have ij:ixD n (1+(j:Int))=some (1+j):=by
    have:=j3 n (1+j);rw [if_pos a6]at this;rw [<- this];congr 1
   have hd:0<=k/((n:Int) - 1)/\k/((n:Int) - 1)<=k:=⟨Int.ediv_nonneg hk ⋯,Int.ediv_le_self _ hk⟩;obtain⟨t,ht⟩:=ziR hd.1;by_cases ha:z0%2=1
   ·obtain⟨t',am,aw⟩ : ∃t':Nat,(if (t:Int)<60 then (t:Int)else 60)=t'/\t'<=60:=by
     split
     ·exact⟨t,rfl,by omega⟩
     ·exact⟨60,rfl,by omega⟩
    have an:inR (t':Int)=true:=QM ⋯ ⋯;simp [F_law_cell,z5,zV,zO,O,Q,S,U,c5,J,hp,a6,q2,ab,Z,i0,q1,q3,ha,hj,ij,ej,ht,I,Y];rw [am,if_pos an];simp only [zg5,jK,zh1];rw [z9 t' λi=>(i:Int)];have ao : ∀(m s:Nat) (v:Int) (c:Cell),∃v' c',qh (.nm 3) (zQ 2 (zu Z7 (zc 2) (zu zb1 (zg (D.int 10)) (zg (D.int 9))))) ((ziz s m).map λ(i:Nat)=>D.int i) [.val (.lst xs),.val (.int k),.val (.int v),c,.no] =
     some (.next [.val (.lst xs),.val (.int k),.val (.int v'),c',.no]):=by
     intro m
     induction m with
     | zero=>intro s v c;exact⟨v,c,rfl⟩
     | succ m ih=>
      intro s v c;rw [zia,zhq,jD];obtain⟨v',c',h⟩:=ih (s+1) (v/10 ^ 9) (.val (.int s));refine⟨v',c',?_⟩;rw [<- h];simp [I]
    obtain⟨v',c',h⟩:=ao t' 0 zj .no;rw [<- zie]at h;rw [h];simp [I];omega
   ·simp [F_law_cell,z5,zV,zO,O,Q,S,U,c5,J,q2,ab,q4,hp,Z,i0,ha,hi,ei,a5,ii,I,Y]
    omega
theorem zb5(ns:List Int)(z:ns.length<=63)(k:Int)(I:0<=k)(J:k<100000) : ∃m,F_law_cell [x9 ns,.int k]=some (.val (.int m))/\0<=m/\m<1000000007:=
 Y3 (ns.map D.int) ns.length ⋯ (λi hi=>⟨ns[i],by simp⟩) z k I J
def qN(ns:List Int)(k:Int):Int:=match F_law_cell [x9 ns,.int k]with
 | some (.val (.int m))=>m
 | _=>0
theorem Zd{ns:List Int}(z:ns.length<=63){k:Int}(I:0<=k)(J:k<100000):F_law_cell [x9 ns,.int k]=some (.val (.int (qN ns k)))/\0<=qN ns k/\qN ns k<1000000007:=by
 obtain⟨m,h,h1,h2⟩:=zb5 ns z k I J;have e:qN ns k=m:=by unfold qN;rw [h]
 rw [e];exact⟨h,h1,h2⟩
def X2(bs:List (Int×Int)):List D:=bs.map λb=>D.tup [.int b.1,.int b.2]
@[simp] theorem zd2(bs):(X2 bs).length=bs.length:=by simp [X2]
def zaT(bs:List (Int×Int)):List (Int×Int):=(JG bs).map λi=>bs.getD i (0,0)
@[simp] theorem zeE(γ f):zaf f γ=(f γ).bind λa=>match a.1 with
 | .L=>zcJ a.2
 | _=>none:=rfl
section ap
variable(γ:Ctx)
@[simp] theorem zeD(f):zae f γ=(f γ).bind λd=>match d with
 | .str z=>if jj z=true then some (ql z)else none
 | _=>none:=rfl
@[simp] theorem zeG(f):yl f γ=(f γ).bind λd=>match d with
 | .str z=>if jj z=true then some (qM (ql z))else none
 | _=>none:=rfl
@[simp] theorem zeH(f):Qp f γ=(f γ).bind λd=>match d with
 | .lst ds=>some (qM ds)
 | _=>none:=rfl
@[simp] theorem zgm(f g):zf5 f g γ=(f γ).bind λd=>(g γ).bind λa=>match d with
 | .str x=>(zaR a.2).map λl=> .bl (l.any λy=>y==x)
 | _=>none:=rfl
end ap
def zgO(b:Int×Int)(r:Int):Bool:=decide (b.1<=r) && decide (r<=b.2)
def zar(bs:List (Int×Int))(r:Int):List Nat:=(zgX bs.length).filter λi=>zgO (bs.getD i (0,0)) r
def zfj(l:List Nat):List D:=l.map λ(i:Nat)=>D.int i
@[simp] theorem zel(l):(zfj l).length=l.length:=by simp [zfj]
theorem wy{p:Int}(z:Pr p){h w:Nat}(I:h<=100)(hw:w<=lim)(f:Nat->Nat->Int) :
 ∃r B l,kq [.int p,jV h w f]=some (.own (zM r h B))/\IsB p h r B l/\∀v,Span p h (Fam r B) v↔Span p h (Fam w λj i=>f i j) v:=by
 obtain⟨r,B,l,e,J,O⟩:=jX z I hw .T λj i=>f i j;have Q:=jf;refine⟨r,B,l,?_,J,O⟩;simp only [dsq]at e;have o:=xD f (show h<=lim by omega) hw;unfold jV at o ⊢;simp [kq,z5,zV,o,e]
theorem Z3{T:Tg}{F:CO Fl}(P:Nat->Ctx->Prop) : ∀(ds es:List D) (k:Nat) (γ:Ctx),P k γ->(∀i d γ,ds[i]? = some d->P (k+i) γ->∃γ',(jQ T d γ).bind F=some (.next γ')/\P (k+i+1) γ')->
 ∃γ',P (k+ds.length) γ'/\qh T F (ds++es) γ=qh T F es γ'
 | [],es,k,γ,h,_=>⟨γ,h,rfl⟩
 | d::ds,es,k,γ,h,step=>by
  obtain⟨γ1,e,h1⟩:=step 0 d γ rfl h;obtain⟨γ',h2,z⟩:=Z3 P ds es (k+1) γ1 (by simpa using h1) (λi d' I hd J=>by
   have:=step (i+1) d' I (by simpa using hd) (by rw [show k+(i+1)=k+1+i by omega];exact J);rw [show k+(i+1)+1=k+1+i+1 by omega]at this;exact this)
  refine⟨γ',by rw [show k+(d::ds).length=k+1+ds.length by simp;omega];exact h2,?_⟩;rw [zkI,jD];cases eb:jQ T d γ with
  | none=>rw [eb]at e;simp at e
  | some O=>
   rw [eb]at e;simp only [zg5]at e ⊢;rw [e];exact z
theorem WG(n:Nat)(v:Vc):qM (zz n v)=(zgX n).map λ(i:Nat)=>D.tup [.int i,.int (v i)]:=by
 unfold qM;rw [xc];refine zhi λi hi=>?_;have:=zgZ.mp hi;simp [zz,this]
theorem xF{n a:Nat}(J:n<=lim)(v:Vc)(ha:a<n)(O : ∀i,i<a->v i=0)(h1:v a≠0):jJ [.tup (zz n v)]=some (.val (.int a)):=by
 have I:zL (.tp [0,1]) (sB (zu dNe (zc 1) (zg (.int 0)))) (zc 0) [Cell.no,Cell.no] ((zgX n).map λ(i:Nat)=>D.tup [.int i,.int (v i)])=some (((zgX n).filter λi=> !decide (v i=0)).map λ(i:Nat)=>D.int i):=by
  refine zY _ _ _ λi hi=>⟨_,rfl,?_,λ_=>rfl⟩;simp
 cases hf:(zgX n).filter λi=> !decide (v i=0)with
 | nil=>exact absurd (by have:=yY hf a ha;simpa using this) h1
 | cons b rest=>
  obtain⟨U,Q,S⟩:=xv hf;have e:b=a:=by
   rcases zjr a b with z | z | z
   ·exact absurd (by have:=S a z;simpa using this) h1
   ·exact z.symm
   ·exact absurd (O b z) (by simpa using Q)
  subst e;rw [hf]at I;simp [jJ,z5,zV,WG,J,z6,zg2,I]
theorem XX{n a:Nat}(ha:a<n)(v z:Vc)(x:Int)(h1:z a=x)(h2 : ∀i,i<n->i≠a->z i=v i):(zz n v).set a (.int x)=zz n z:=by
 apply zjl;intro i;rw [List.getElem?_set];by_cases hi:i<n
 ·by_cases e:a=i
  ·subst e;simp [ha,zz,h1]
  ·have:=h2 i hi (zhO e)
   simp [e,zz,hi,this]
 ·have I:(zz n v)[i]? = none:=by simp [zz];omega
  have l2:(zz n z)[i]? = none:=by simp [zz];omega
  rw [I,l2,if_neg ⋯]
def J6(w:Nat)(B:Nat->Vc)(l:Nat->Nat)(r:Nat):Vc:=λj=>sumTo (λk=>if l k=j then B k w else 0) r
def qS:CO Fl:=(zI (zQ 6 (zq jJ (za (zc 5) zo))) (zI (sIf (sB (zu dEq (zc 6) (zc 3))) (jR (zg .non)) j4) (Kz 4 (zc 6) (sIx (zf 5) (zc 3)))))
section
variable{p:Int}{h w r:Nat}
theorem QE{l:Nat->Nat}(I : ∀k m,k<m->m<r->l k<l m){k m:Nat}(J:k<r)(O:m<r)(e:l k=l m):k=m:=by
 rcases zjr k m with z | z | z
 ·have:=I k m z O;omega
 ·exact z
 ·have:=I m k z J;omega
def aug(w:Nat)(f:Nat->Nat->Int)(b:Vc):Nat->Vc:=λi j=>if j<w then f i j else b i
theorem Xl{B:Nat->Vc}{l:Nat->Nat}(Y:w+1<=lim)(J:IsB p (w+1) r B l){s:Nat}(hs:s<=r)(h1 : ∀k,k<s->l k<w)(es:List D)(a0 z I:Cell) :
 ∃c5 c6,qh (.nm 5) qS (zM s (w+1) B++es) [a0,z,I,.val (.int w),.own (zz w λ_=>0),.no,.no]=qh (.nm 5) qS es [a0,z,I,.val (.int w),.own (zz w (J6 w B l s)),c5,c6]:=by
 obtain⟨γ',⟨c5,c6,rfl⟩,e⟩:=Z3 (T:= .nm 5) (F:=qS) (λt γ=>∃c5 c6,γ=[a0,z,I,.val (.int w),.own (zz w (J6 w B l t)),c5,c6]) (zM s (w+1) B) es 0 [a0,z,I,.val (.int w),.own (zz w λ_=>0),.no,.no]
  ⟨.no,.no,by rw [kO (f:=J6 w B l 0) (g:=λ_=>0) λi _=>rfl]⟩ (by
   rintro k d γ hd ⟨c5,c6,rfl⟩;rw [ziO];have S:k<s:=by have:=(zhe.mp hd).1;simpa using this
   have Z:d = .tup (zz (w+1) (B k)):=by simp [S]at hd;exact hd.symm
   subst Z;have O:k<r:=by omega
   have U:=h1 k S;have le:=xF Y (B k) (show l k<w+1 by omega) (λi hi=>J.bef k i O hi) (by rw [J.one k O];decide);refine⟨_,?_,.val (.tup (zz (w+1) (B k))),.val (.int (l k)),rfl⟩;have Q : ¬((l k:Int)=(w:Int)):=by omega
   have a3 : ¬l k=w:=by omega
   have hx:w<w+1:=by omega
   have ev:=XX U (J6 w B l k) (J6 w B l (k+1)) (B k w) (by
    unfold J6;simp only [sumTo,if_true];rw [zn (g:=λ_=>0) λm hm=>by
     rw [if_neg λe=>by have:=J.mono m k hm O;omega],zG]
    omega) (λi hi Q=>by
    unfold J6;simp only [sumTo];rw [if_neg (zhO Q)];omega)
   simp [qS,zO,le,Q,a3,U,hx,ev])
 rw [Za]at e;refine⟨c5,c6,?_⟩;rw [e];rw [ziO]
theorem zca(w:Nat)(f:Nat->Nat->Int)(b:Vc)(i:Nat):zz w (f i)++[.int (b i)]=zz (w+1) (aug w f b i):=by
 unfold zz;rw [zh5,zhG];congr 1
 ·exact zhi λj z=>by simp [aug,zgZ.mp z]
 ·simp [aug]
theorem vy(S:Pr p)(hh:h<=90)(hw:w<=90)(f:Nat->Nat->Int)(b:Vc) :
 ∃r B l s,IsB p (w+1) r B l/\(∀v,Span p (w+1) (Fam r B) v↔Span p (w+1) (Fam h (aug w f b)) v)/\s<=r/\(∀k,k<s->l k<w)/\(∀k,s<=k->k<r->w<=l k)/\
  xP [.int p,jV h w f,.tup (zz h b)]=some (.val (if s<r then .non else .tup (zz w (J6 w B l s)))):=by
 have hl:=jf;have O:h<=lim:=by omega
 have U:w<=lim:=by omega
 have J:w+1<=lim:=by omega
 obtain⟨r,B,l,e,I,Y⟩:=jX S (show w+1<=100 by omega) O .L (aug w f b);obtain⟨s,Q,s1,s2⟩:=xJ w I.mono;refine⟨r,B,l,s,I,Y,Q,s1,s2,?_⟩;have rows:zL (.tp [0,1]) ja (zu jq (zc 0) (jp (za (zc 1) zo))) [Cell.no,Cell.no] ((zgX h).map λi=>D.tup [.tup (zz w (f i)),.int (b i)])=some (zM h (w+1) (aug w f b)):=by
  unfold zM;refine zv _ _ λi hi=>zw rfl rfl ?_;simp [jq,J,zca]
 have Z:vD (zM h w f) (zz h b)=(zgX h).map λi=>D.tup [.tup (zz w (f i)),.int (b i)]:=by
  unfold vD zM zz;rw [zjy];simp
 have a0:zg2 w (D.int 0)=zz w λ_=>0:=by rw [xo];rfl
 have c1:((w+1:Nat):Int)=(w:Int)+1:=by omega
 simp only [dsq]at e;rw [c1]at e;obtain⟨d,hd⟩ : ∃d,r=s+d:=⟨r - s,by omega⟩;have sp:zM r (w+1) B=zM s (w+1) B++zM d (w+1) λk=>B (s+k):=by
  unfold zM;rw [hd,zjs,zhG,zhU];rfl
 obtain⟨c5,c6,lp⟩:=Xl J I Q s1 (zM d (w+1) λk=>B (s+k)) (.val (.int p)) (.val (jV h w f)) (.val (.tup (zz h b)));have x0:jw (jV h w f)=some (.T,[.int h,.int w,.tup (zM h w f)]):=rfl;have e0:xP=z5 7 (zI (zQ 3 (sIx (zf 1) (zg (.int 1)))) (zI (qL 4 (za5 (jz (qj (za (zg (.int 0)) zo))) (zc 3))) (zI (yk (zD (zA (jk (zX F_base_of (za (zc 0) (za (zu jq (zc 3) (zg (.int 1))) (za (jk (zF (Qn (sIx (zf 1) (zg (.int 2))) (zc 2)) (.tp [0,1]) 2 [] ja (zu jq (zc 0) (jp (za (zc 1) zo))))) zo))))))) (.nm 5) qS) (jR (zN (zf 4)))))):=rfl;rw [e0];simp [z5,zV,zO,x0,U,Z,O,z6,zg2,rows,e];rw [a0,sp,lp];by_cases z:s<r
 ·
  have a5:d=1:=by
   rcases zhd 1 d with q | q
   ·have h1:=I.mono s (s+1) ⋯ ⋯
    have h2:=s2 s (zg3 _) z;have h3:=I.lt (s+1) ⋯;omega
   ·omega
  subst a5;have a6:l s=w:=by have:=s2 s (zg3 _) z;have:=I.lt s z;omega
  have le:=xF J (B s) (show w<w+1 by omega) (λi hi=>I.bef s i z ⋯) (by have:=I.one s z;rw [a6]at this;rw [this];decide);have one:zM 1 (w+1) (λk=>B (s+k))=[.tup (zz (w+1) (B s))]:=rfl;rw [one,jD];simp [qS,zO,le,z]
 ·have a7:d=0:=by omega
  subst a7;have zero:zM 0 (w+1) (λk=>B (s+k))=[]:=rfl;rw [zero];simp [qh,z]
end
def vk(h w:Nat)(f g:Nat->Nat->Int)(i:Nat):Vc:=if i<h then jW w (f i) (λ_=>0)else jW w (λ_=>0) (g (i - h))
theorem WJ(h h' w:Nat)(f g F:Nat->Nat->Int)(h1 : ∀i j,i<h->j<w->F i j=f i j)(h2 : ∀i j,i<h'->j<w->F (h+i) j=g i j):zM h w f++zM h' w g=zM (h+h') w F:=by
 unfold zM;rw [zjs,zhG,zhU];congr 1
 ·exact zhi λi hi=>by rw [kO λj z=>(h1 i j (zgZ.mp hi) z).symm]
 ·exact zhi λi hi=>by
   simp only [Function.comp];rw [kO λj z=>(h2 i j (zgZ.mp hi) z).symm]
theorem zbG(n:Nat):(zg2 n [D.int 0]).flatten=zz n λ_=>0:=by
 induction n with
 | zero=>rfl
 | succ n z=>
  rw [zij,ziK,z];unfold zz;rw [<- xo,<- xo];rfl
theorem WZ{h w h' w':Nat}(f g:Nat->Nat->Int):zM h (w+w') (λi=>jW w (f i) λ_=>0)++zM h' (w+w') (λi=>jW w (λ_=>0) (g i))=zM (h+h') (w+w') (vk h w f g):=
 WJ h h' _ _ _ _ (λi j hi _=>by unfold vk;rw [if_pos hi]) λi j hi _=>by unfold vk;rw [if_neg ⋯,zhu]
theorem xU{h w h' w':Nat}(f g:Nat->Nat->Int)(hh:h<=400)(hw:w<=400)(a4:h'<=400)(a5:w'<=400) :
 F_tables_beside_5 [jV h w f,jV h' w' g]=some (.val (jV (h+h') (w+w') (vk h w f g))):=by
 have hl:=jf;have I:h<=lim:=by omega
 have l2:w<=lim:=by omega
 have Q:h'<=lim:=by omega
 have S:w'<=lim:=by omega
 have O:w+w'<=lim:=by omega
 have U:h+h'<=lim:=by omega
 have J : ∀(h w:Nat) (f:Nat->Nat->Int),jw (jV h w f)=some (.T,[.int h,.int w,.tup (zM h w f)]):=λ_ _ _=>rfl;have Y:qI (.tup [.int 0]) (.int w)=some (.tup (zz w λ_=>0)):=by
  show(if ([D.int 0]).length*(w:Int).toNat<=lim/\inR (w:Int)=true then _ else _)=_;rw [if_pos ⟨by simpa using l2,wX l2⟩,zh1,zbG]
 have Z:zL (.tp [0,1]) ja (zu jq (zc 0) (zc 1)) [Cell.no,Cell.no] (vD (zM h w f) (zM h w' λ_ _=>0))=some (zM h (w+w') λi=>jW w (f i) λ_=>0):=by
  have z:vD (zM h w f) (zM h w' λ_ _=>0)=(zgX h).map λi=>D.tup [.tup (zz w (f i)),.tup (zz w' λ_=>0)]:=by
   unfold vD zM;rw [zjy];simp
  rw [z];unfold zM;refine zv _ _ λi hi=>zw rfl rfl ?_;have e:jq (.tup (zz w (f i))) (.tup (zz w' λ_=>0))=some (.tup (zz (w+w') (jW w (f i) λ_=>0))):=by
   show(if (zz w (f i)).length+(zz w' λ_=>0).length<=lim then _ else _)=_;rw [if_pos (by simpa using O),xf]
  show zu _ _ _ [Cell.val (.tup (zz w (f i))),Cell.val (.tup (zz w' λ_=>0))]=_;simp [e]
 have g2:zL (.nm 0) ja (zu jq (zu qI (jp (za (zg (.int 0)) zo)) (sIx (zf 1) (zg (.int 1)))) (zc 0)) [Cell.no,Cell.val (jV h w f)] (zM h' w' g)=some (zM h' (w+w') λi=>jW w (λ_=>0) (g i)):=by
  unfold zM;refine zv _ _ λi hi=>zw rfl rfl ?_;have e:jq (.tup (zz w λ_=>0)) (.tup (zz w' (g i)))=some (.tup (zz (w+w') (jW w (λ_=>0) (g i)))):=by
   show(if (zz w λ_=>0).length+(zz w' (g i)).length<=lim then _ else _)=_;rw [if_pos (by simpa using O),xf]
  simp [J,Y,e]
 have zl:(vD (zM h w f) (zM h w' λ_ _=>0)).length<=lim:=by
  unfold vD zM;simp;exact I
 have nj:F_no_join [jV h w f,jV h' w' g]=some (.val (jV h w' λ_ _=>0)):=by
  simp [F_no_join,z5,zV,J,J9 I S]
 have tj:F_tables_joined [jV h w f,jV h' w' g,jV h w' λ_ _=>0]=some (.val (jV (h+h') (w+w') (vk h w f g))):=by
  simp [F_tables_joined,z5,zV,zO,J,I,Q,U,zl,z6,qb,zg2,Z,g2];rw [WZ];simp [jV]
 simp [F_tables_beside_5,z5,zV,nj,tj]
@[simp] theorem Xa(γ:Ctx)(F G g):Qr F G g γ=(g γ).bind λl=>match l with
 | [p,.str z,t,b]=>((if z=("r" : Str)then F else G) [p,t,b]).bind zck
 | _=>none:=rfl
section
variable{p:Int}{m:Nat}{w:Nat->Bool}{wd:Nat->Nat}{T:Nat->Nat->Nat->Int}{a:Nat}
def Stp(p:Int)(w:Nat->Bool)(wd:Nat->Nat)(T:Nat->Nat->Nat->Int)(k:Nat)(u v:Vc):Prop:=
 if w k then ∀x,x<wd k->u x%p=app (T k) (wd (k+1)) v x%p else ∀x,x<wd (k+1)->v x%p=app (T k) (wd k) u x%p
def Xb(p:Int)(w:Nat->Bool)(wd:Nat->Nat)(T:Nat->Nat->Nat->Int)(i a:Nat):Nat->Vc->Prop
 | 0,z=>∀x,x<a->z x%p=z (a+x)%p
 | t+1,z=>∃u:Vc,Xb p w wd T i a t (jW a z u)/\Stp p w wd T (i+t) u λx=>z (a+x)
theorem kt(F:Nat->Int)(s:Nat) : ∀d,sumTo F (s+d)=sumTo F s+sumTo (λk=>F (s+k)) d
 | 0=>by simp [sumTo]
 | d+1=>by rw [<- zj1];simp only [sumTo];rw [kt F s d];omega
theorem vo{f:Nat->Nat->Int}{c:Nat}(y:Vc)(x:Nat):app (vk a a (λi j=>if i=j then 1 else 0) f) (a+c) y x=if x<a then y x else app f c (λj=>y (a+j)) (x - a):=by
 unfold app;rw [kt];by_cases h:x<a
 ·rw [if_pos h]
  have e1:sumTo (λj=>vk a a (λi j=>if i=j then 1 else 0) f x j*y j) a=y x:=by
   rw [zR (f:=λj=>vk a a (λi j=>if i=j then 1 else 0) f x j*y j) (i:=x) h λj z J=>by
    unfold vk;rw [if_pos h,zP z];simp [zhO J]]
   unfold vk;rw [if_pos h,zP h];simp
  have I:sumTo (λk=>vk a a (λi j=>if i=j then 1 else 0) f x (a+k)*y (a+k)) c=0:=by
   rw [zn (g:=λ_=>0) λj _=>by unfold vk;rw [if_pos h,zZ];simp,zG]
  rw [e1,I];simp
 ·rw [if_neg h]
  have e1:sumTo (λj=>vk a a (λi j=>if i=j then 1 else 0) f x j*y j) a=0:=by
   rw [zn (g:=λ_=>0) λj z=>by unfold vk;rw [if_neg h,zP z];simp,zG]
  have I:sumTo (λk=>vk a a (λi j=>if i=j then 1 else 0) f x (a+k)*y (a+k)) c=sumTo (λj=>f (x - a) j*y (a+j)) c:=
   zn λj _=>by unfold vk;rw [if_neg h,zZ]
  rw [e1,I];simp
theorem zdk{i t:Nat}(hw:w (i+t)=false){q I:Nat}{B B':Nat->Vc}(J : ∀z,Span p (a+wd (i+t)) (Fam q B) z↔Xb p w wd T i a t z)
 (Q : ∀v,Span p (a+wd (i+t+1)) (Fam I B') v ↔ ∃y,Span p (a+wd (i+t)) (Fam q B) y/\∀x,x<a+wd (i+t+1)->v x%p=app (vk a a (λi j=>if i=j then 1 else 0) (T (i+t))) (a+wd (i+t)) y x%p) (v:Vc) :
 Span p (a+wd (i+t+1)) (Fam I B') v↔Xb p w wd T i a (t+1) v:=by
 rw [Q v];constructor
 ·rintro⟨y,S,O⟩
  refine⟨λx=>y (a+x),(J _).mp (S.congr λx hx=>?_),?_⟩
  ·rcases zhd x a with z | z
   ·rw [zP z]
    have:=O x ⋯;rw [vo,if_pos z]at this;exact this
   ·obtain⟨k,rfl⟩ : ∃k,x=a+k:=⟨x - a,by omega⟩
    rw [zZ]
  ·unfold Stp
   rw [hw,if_neg zhf];intro x hx;have:=O (a+x) ⋯;rw [vo,if_neg ⋯,zhu]at this;exact this
 ·rintro⟨u,h1,h2⟩
  unfold Stp at h2;rw [hw,if_neg zhf]at h2;refine⟨jW a v u,(J _).mpr h1,λx hx=>?_⟩;rw [vo];rcases zhd x a with z | z
  ·rw [if_pos z,zP z]
  ·rw [if_neg ⋯]
   obtain⟨k,rfl⟩ : ∃k,x=a+k:=⟨x - a,by omega⟩;rw [zhu,show(λj=>jW a v u (a+j))=u from funext λj=>zZ j];exact h2 k ⋯
theorem zdl{i t:Nat}(hw:w (i+t)=true){q I:Nat}{B B':Nat->Vc}(J : ∀z,Span p (a+wd (i+t)) (Fam q B) z↔Xb p w wd T i a t z)
 (O : ∀v,Span p (a+wd (i+t+1)) (Fam I B') v↔Span p (a+wd (i+t)) (Fam q B) (app (vk a a (λi j=>if i=j then 1 else 0) (T (i+t))) (a+wd (i+t+1)) v)) (v:Vc) :
 Span p (a+wd (i+t+1)) (Fam I B') v↔Xb p w wd T i a (t+1) v:=by
 rw [O v];constructor
 ·intro Q
  refine⟨λx=>app (T (i+t)) (wd (i+t+1)) (λj=>v (a+j)) x,(J _).mp (Q.congr λx hx=>?_),?_⟩
  ·rw [vo]
   rcases zhd x a with z | z
   ·rw [zP z,if_pos z]
   ·obtain⟨k,rfl⟩ : ∃k,x=a+k:=⟨x - a,by omega⟩
    rw [zZ,if_neg ⋯,zhu]
  ·unfold Stp
   rw [hw,if_pos rfl];exact λx _=>rfl
 ·rintro⟨u,h1,h2⟩
  unfold Stp at h2;rw [hw,if_pos rfl]at h2;refine((J _).mpr h1).congr λx hx=>?_;rw [vo];rcases zhd x a with z | z
  ·rw [zP z,if_pos z]
  ·obtain⟨k,rfl⟩ : ∃k,x=a+k:=⟨x - a,by omega⟩
   rw [zZ,if_neg ⋯,zhu];exact(h2 k ⋯).symm
def XM:CO Fl:=(zcj 4 (qL 4 (Qr F_led_on F_led_into (za (sIx (zf 0) (zg (.int 0))) (za (sIx (zf 5) (zg (.int 0))) (za (zq F_tables_beside_5 (za (zc 3) (za (sIx (zf 5) (zg (.int 1))) zo))) (za (zc 4) zo)))))))
theorem Wu:F_link=z5 6 (zI (zQ 3 (zq F_same_table (za (sIx (zA (sIx (zf 0) (zg (.int 1)))) (zc 1)) zo))) (zI (qL 4 (zF (zD (zA (sIx (zf 3) (zg (.int 2))))) (.nm 0) 1 [] ja (zu jq (zc 0) (zc 0)))) (zI (yk (zD (zA (Qo (sIx (zf 0) (zg (.int 2))) (sBd (zc 1)) (sBd (zc 2))))) (.nm 5) XM) (kz 4)))):=rfl
theorem oneS_r{b:Bool}:(qv (wch b)=("r" : Str))↔b=false:=by cases b<;>decide
abbrev lk(p:Int)(m:Nat)(w:Nat->Bool)(wd:Nat->Nat)(T:Nat->Nat->Nat->Int)(i j:Int)(a:Nat)(ds:List D)(c:Cell):Ctx:=[.val (jO p m w wd T),.val (.int i),.val (.int j),.val (jV a a λi j=>if i=j then 1 else 0),.own ds,c]
theorem Yi(O:Pr p)(U : ∀k,wd k<=4)(ha:a<=4)(hT : ∀k x y,0<=T k x y/\T k x y<p)(Y Z:Int){i t q:Nat}{B:Nat->Vc}(hq:q<=20)(hB : ∀z,Span p (a+wd (i+t)) (Fam q B) z↔Xb p w wd T i a t z) :
 ∃I B' l',XM (lk p m w wd T Y Z a (zM q (a+wd (i+t)) B) (.val (qC w wd T (i+t))))=some (.next (lk p m w wd T Y Z a (zM I (a+wd (i+t+1)) B') (.val (qC w wd T (i+t)))))/\IsB p (a+wd (i+t+1)) I B' l'/\
  ∀z,Span p (a+wd (i+t+1)) (Fam I B') z↔Xb p w wd T i a (t+1) z:=by
 have hl:=jf;have a6:=O.le;have h1:=U (i+t);have h2:=U (i+t+1);have tb:=xU (h:=a) (w:=a) (h':=hiW w wd (i+t)) (w':=wiW w wd (i+t)) (λi j=>if i=j then 1 else 0) (T (i+t)) ⋯ ⋯ (by unfold hiW;split<;>omega) (by unfold wiW;split<;>omega);have rs:jw (jO p m w wd T)=some (.T,[.int p,.tup (zz (m+1) λk=>(wd k:Int)),.tup (jZ m w wd T)]):=rfl;have J:jw (qC w wd T (i+t))=some (.T,[.str (qv (wch (w (i+t)))),jV (hiW w wd (i+t)) (wiW w wd (i+t)) (T (i+t))]):=rfl;have bd : ∀x y,0<=vk a a (λi j=>if i=j then 1 else 0) (T (i+t)) x y/\vk a a (λi j=>if i=j then 1 else 0) (T (i+t)) x y<100:=λx y=>by
  have:=hT (i+t) (x - a) (y - a);unfold vk jW;split
  ·dsimp only
   split
   ·split<;>omega
   ·omega
  ·dsimp only
   split
   ·omega
   ·omega
 cases hw:w (i+t)with
 | false=>
  have hi:hiW w wd (i+t)=wd (i+t+1):=by unfold hiW;rw [hw];rfl
  have wi:wiW w wd (i+t)=wd (i+t):=by unfold wiW;rw [hw];rfl
  rw [hi,wi]at tb J;obtain⟨I,B',l',e,Q,S⟩:=Qa O (h:=a+wd (i+t+1)) (w:=a+wd (i+t)) (q:=q) ⋯ ⋯ ⋯ (vk a a (λi j=>if i=j then 1 else 0) (T (i+t))) (λx y _ _=>bd x y) B;refine⟨I,B',l',?_,Q,zdk hw hB S⟩;have z:qv (wch (w (i+t)))=("r" : Str):=oneS_r.mpr hw;unfold XM;simp only [lk,zaI,J5,Xa,xh,kW,Ji,qO,qo,kX,yj,zha,zhb,qy,zhx,zhw,zT,jC,rs,J,zg5,zhF,qA,zhE,ziJ,ix0,ix1,tb,kB,z,if_true,e,wI]
 | true=>
  have hi:hiW w wd (i+t)=wd (i+t):=by unfold hiW;rw [hw];rfl
  have wi:wiW w wd (i+t)=wd (i+t+1):=by unfold wiW;rw [hw];rfl
  rw [hi,wi]at tb J;obtain⟨I,B',l',e,Q,S⟩:=k3 O (h:=a+wd (i+t)) (w:=a+wd (i+t+1)) (q:=q) ⋯ ⋯ ⋯ (vk a a (λi j=>if i=j then 1 else 0) (T (i+t))) B;refine⟨I,B',l',?_,Q,zdl hw hB S⟩;have z : ¬(qv (wch (w (i+t)))=("r" : Str)):=λq=>by have:=oneS_r.mp q;rw [hw]at this;cases this
  unfold XM;simp only [lk,zaI,J5,Xa,xh,kW,Ji,qO,qo,kX,yj,zha,zhb,qy,zhx,zhw,zT,jC,rs,J,zg5,zhF,qA,zhE,ziJ,ix0,ix1,tb,kB,z,if_false,e,wI]
end
section
variable{p:Int}{m:Nat}{w:Nat->Bool}{wd:Nat->Nat}{T:Nat->Nat->Nat->Int}
theorem Vy(I:Pr p)(a:Nat):IsB p (a+a) a (λx=>jW a (jn x) (jn x)) id where
 lt:=λk z=>by simp only [id];omega
 mono:=λk m z _=>z
 one:=λk z=>by simp only [id];rw [zP z];exact if_pos rfl
 bef:=λk j z J=>by simp only [id]at J;rw [zP ⋯];exact if_neg ⋯
 oth:=λk m z O Q=>by simp only [id];rw [zP O];exact if_neg ⋯
 rng:=λk i _ _=>by have:=I.two;unfold jW jn;split<;>split<;>omega
theorem Kf(Z:Pr p)(i:Nat)(z:Vc):Span p (wd i+wd i) (Fam (wd i) λx=>jW (wd i) (jn x) (jn x)) z↔Xb p w wd T i (wd i) 0 z:=by
 constructor
 ·intro I
  induction I with
  | @zero z I=>intro x hx;rw [I x ⋯,I (wd i+x) ⋯]
  | @step z u g c Q hu J S=>
   obtain⟨k,O,rfl⟩:=Q;intro x hx;dsimp only at J;rw [J x ⋯,J (wd i+x) ⋯,zP hx,zZ,zhp,S x hx,<- zhp]
 ·intro I
  refine(Span.sum (u:=λx=>jW (wd i) (jn x) (jn x)) z (m:=wd i) λk O=> .gen ⟨k,O,rfl⟩).congr λx hx=>?_;have one : ∀y,y<wd i->sumTo (λk=>z k*jn k y) (wd i)=z y:=λy U=>by
   rw [zR (f:=λk=>z k*jn k y) U λj _ Y=>by simp [jn,Y]];simp [jn]
  rcases zhd x (wd i)with q | q
  ·have:sumTo (λk=>z k*jW (wd i) (jn k) (jn k) x) (wd i)=z x:=by
    rw [<- one x q];exact zn λk _=>by rw [zP q]
   rw [this]
  ·obtain⟨k,rfl⟩ : ∃k,x=wd i+k:=⟨x - wd i,by omega⟩
   have:sumTo (λj=>z j*jW (wd i) (jn j) (jn j) (wd i+k)) (wd i)=z k:=by
    rw [<- one k ⋯];exact zn λj _=>by rw [zZ]
   rw [this];exact(I k ⋯).symm
theorem Vm(Q:Pr p)(S : ∀k,wd k<=4)(hT : ∀k x y,0<=T k x y/\T k x y<p){i j:Nat}(a1:i<=j)(hj:j<=m) :
 ∃q B l,F_link [jO p m w wd T,.int i,.int j]=some (.own (zM q (wd i+wd j) B))/\IsB p (wd i+wd j) q B l/\∀z,Span p (wd i+wd j) (Fam q B) z↔Xb p w wd T i (wd i) (j - i) z:=by
 have hl:=jf;have ha:=S i;have Y:wd i<=lim:=by omega
 have a3:wd i+wd i<=lim:=by omega
 have a4 : ∀(k t:Nat) (q:Nat) (B:Nat->Vc) (l:Nat->Nat) (c:Cell),t+k=j - i->IsB p (wd i+wd (i+t)) q B l->(∀z,Span p (wd i+wd (i+t)) (Fam q B) z↔Xb p w wd T i (wd i) t z)->
  ∃O B' l' U,qh (.nm 5) XM ((ziz t k).map λk=>qC w wd T (i+k)) (lk p m w wd T i j (wd i) (zM q (wd i+wd (i+t)) B) c)=some (.next (lk p m w wd T i j (wd i) (zM O (wd i+wd j) B') U))/\IsB p (wd i+wd j) O B' l'/\
   ∀z,Span p (wd i+wd j) (Fam O B') z↔Xb p w wd T i (wd i) (j - i) z:=by
  intro k
  induction k with
  | zero=>
   intro t q B l c h I J;have e1:t=j - i:=by omega
   have e2:i+t=j:=by omega
   rw [e2]at I J ⊢;rw [<- e1];exact⟨q,B,l,c,rfl,I,J⟩
  | succ k ih=>
   intro t q B l c h I J;have hq:q<=wd i+wd (i+t):=JJ I.mono I.lt;have:=S (i+t);obtain⟨q1,B1,l1,e,aa,ab⟩:=Yi (m:=m) Q S ha hT i j ⋯ J;obtain⟨O,B',l',U,e',ad,ae⟩:=ih (t+1) q1 B1 l1 (.val (qC w wd T (i+t))) ⋯ aa ab;refine⟨O,B',l',U,?_,ad,ae⟩;rw [zia,zhq,jD];show((XM (lk p m w wd T i j (wd i) (zM q (wd i+wd (i+t)) B) (.val (qC w wd T (i+t))))).bind _)=_;rw [e];exact e'
 obtain⟨q,B,l,c,e,I,J⟩:=a4 (j - i) 0 (wd i) (λx=>jW (wd i) (jn x) (jn x)) id .no ⋯ (Vy Q (wd i)) (Kf Q i);refine⟨q,B,l,?_,I,J⟩;have sm:=xC (n:=wd i) Y;have wi:i<m+1:=by omega
 have tw:zL (.nm 0) ja (zu jq (zc 0) (zc 0)) [Cell.no] (zM (wd i) (wd i) λi j=>if i=j then 1 else 0)=some (zM (wd i) (wd i+wd i) λx=>jW (wd i) (jn x) (jn x)):=by
  unfold zM;refine zv _ _ λx hx=>zw rfl rfl ?_;simp [jq,a3,xf];rfl
 have Z:jw (jO p m w wd T)=some (.T,[.int p,.tup (zz (m+1) λk=>(wd k:Int)),.tup (jZ m w wd T)]):=rfl;have dq:jw (jV (wd i) (wd i) λi j=>if i=j then 1 else 0)=some (.T,[.int (wd i),.int (wd i),.tup (zM (wd i) (wd i) λi j=>if i=j then 1 else 0)]):=rfl;have ix:ixD (m+1) (i:Int)=some i:=by rw [j3,if_pos wi]
 have wx:(zz (m+1) λk=>(wd k:Int))[i]? = some (.int (wd i)):=xN _ wi;have ca:QX (jZ m w wd T) (some (i:Int)) (some (j:Int))=(zgX (j - i)).map λk=>qC w wd T (i+k):=by
  rw [zdY a1 hj];rfl
 rw [<- zie]at e;rw [Wu];unfold z5;have e0:zV 6 [jO p m w wd T,.int i,.int j]=[.val (jO p m w wd T),.val (.int i),.val (.int j),.no,.no,.no]:=rfl;have s1:(zQ 3 (zq F_same_table (za (sIx (zA (sIx (zf 0) (zg (.int 1)))) (zc 1)) zo))) [.val (jO p m w wd T),.val (.int i),.val (.int j),.no,.no,.no]=some (.next [.val (jO p m w wd T),.val (.int i),.val (.int j),.val (jV (wd i) (wd i) λi j=>if i=j then 1 else 0),.no,.no]):=by
  simp only [Jh,yj,xh,kW,Ji,yI,qO,qo,kX,zha,zhb,zT,jC,Z,Ve,zg5,zhF,qA,zhE,ziJ,ix1,xc,ix,wx,sm,kB];rfl
 have s2:(qL 4 (zF (zD (zA (sIx (zf 3) (zg (.int 2))))) (.nm 0) 1 [] ja (zu jq (zc 0) (zc 0)))) [.val (jO p m w wd T),.val (.int i),.val (.int j),.val (jV (wd i) (wd i) λi j=>if i=j then 1 else 0),.no,.no]=some (.next (lk p m w wd T i j (wd i) (zM (wd i) (wd i+wd i) λx=>jW (wd i) (jn x) (jn x)) .no)):=by
  simp only [J5,yi,kY,yI,Ji,qO,kX,zha,zhb,jC,dq,Ve,zg5,zhF,qA,zhE,ziJ,ix2,Za,Y,if_true];rw [show z6 1 [] [Cell.val (jO p m w wd T),Cell.val (D.int (i:Int)),Cell.val (D.int (j:Int)),Cell.val (jV (wd i) (wd i) λi j=>if i=j then 1 else 0),Cell.no,Cell.no]=[Cell.no]from rfl,tw];rfl
 rw [e0,zO,s1,qV,zO,s2,qV,zO,Q8];simp only [lk,kY,yI,zd6,Ji,qO,qo,kX,zfX,zha,zhb,jC,zT,Z,Ve,zg5,zhF,qA,zhE,ziJ,ix2,ca];simp only [lk,zkF]at e;rw [e];simp
end
@[simp] theorem zd9(γ:Ctx)(i f):Jy i f γ=(qz γ[i]?).bind λds=>(f γ).bind λes=>if ds.length+es.length<=lim then some (.next (γ.set i (.own (ds++es))))else none:=rfl
section
variable{p:Int}{m:Nat}{w:Nat->Bool}{wd:Nat->Nat}{T:Nat->Nat->Nat->Int}
theorem qQ:jw (jO p m w wd T)=some (.T,[.int p,.tup (zz (m+1) λk=>(wd k:Int)),.tup (jZ m w wd T)]):=rfl
end
@[simp] theorem Jj(γ:Ctx)(f):yl f γ=(f γ).bind λd=>match d with
 | .str z=>if jj z=true then some (qM (ql z))else none
 | _=>none:=rfl
@[simp] theorem W2(γ:Ctx)(f g):VP f g γ=(f γ).bind λd=>(g γ).bind λe=>match d,e with
 | .str x,.str y=>if jj x=true/\jj y=true then some (.str (x++y))else none
 | _,_=>none:=rfl
theorem wq(m:Nat)(w:Nat->Bool):qM (ql (kf m w))=(zgX m).map λ(k:Nat)=>D.tup [.int k,.str (qv (wch (w k)))]:=by
 have e:ql (kf m w)=(zgX m).map λk=>D.str (qv (wch (w k))):=by
  unfold ql;rw [xH,zhU];rfl
 unfold qM;rw [e];simp only [zhk,ziI];refine zhi λk z=>?_;simp [zgZ.mp z]
theorem YJ(w:Nat->Bool)(k:Nat):F_law_ends_k22 [.int k,.str (qv (wch (w k)))]=some (.val (.tup [.int ((begR w k:Nat):Int),.int ((endR w k:Nat):Int)])):=by
 have q:=YG (w k);cases h:w k<;>rw [h]at q<;>simp [F_law_ends_k22,z5,zV,zO,q,begR,endR,h]
theorem Kd(s:Nat)(w:Nat->Bool):kf s w++qv (wch (w s))=kf (s+1) w:=by
 have h:(kf s w++qv (wch (w s))).cps.toList=(kf (s+1) w).cps.toList:=by
  show((kf s w).cps++(qv (wch (w s))).cps).toList=_;rw [Array.toList_append,xH,xH,zh5,zhG];rfl
 have h2:=Array.toList_inj.mp h;generalize kf s w++qv (wch (w s))=a at h2;generalize kf (s+1) w=b at h2;cases a;cases b;exact congrArg Str.mk h2
theorem zco{c:Int}(hc:0<=c){m:Nat}(hm:m<=5) : ∃w,F_law_ways_k22 [.int c,.int (1+(m:Int))]=some (.val (.str (kf m w))):=by
 have hl:=jf;have O:m<=lim:=by omega
 refine⟨λk=>decide (c/2 ^ k%2=1),?_⟩;generalize hw:(λk:Nat=>decide (c/2 ^ k%2=1))=w;have Q : ∀(k s:Nat) (z:Cell),s+k=m->∃I J,qh (.nm 3) (zI (zQ 2 (VP (zc 2) (Zz (zg (.str "rl")) (zu qx (zc 0) (zg (.int 2)))))) (zQ 0 (zu Z7 (zc 0) (zg (.int 2))))) ((ziz s k).map λ(i:Nat)=>D.int i) [.val (.int (c/2 ^ s)),.val (.int (1+(m:Int))),.val (.str (kf s w)),z] =
  some (.next [I,.val (.int (1+(m:Int))),.val (.str (kf m w)),J]):=by
  intro k
  induction k with
  | zero=>
   intro s z h;obtain rfl:s=m:=by omega
   exact⟨_,z,rfl⟩
  | succ k S=>
   intro s z h;obtain⟨I,J,e⟩:=S (s+1) (.val (.int s)) ⋯;refine⟨I,J,?_⟩;rw [zia,zhq,jD];have U:Zz (zg (.str "rl")) (zu qx (zc 0) (zg (.int 2))) [.val (.int (c/2 ^ s)),.val (.int (1+(m:Int))),.val (.str (kf s w)),.val (.int s)]=some (.str (qv (wch (w s)))):=by
    have Y:zu qx (zc 0) (zg (.int 2)) [.val (.int (c/2 ^ s)),.val (.int (1+(m:Int))),.val (.str (kf s w)),.val (.int s)]=some (.int (c/2 ^ s%2)):=by simp
    rw [W1,Y];have q:c/2 ^ s%2=0\/c/2 ^ s%2=1:=by omega
    have Z:w s=decide (c/2 ^ s%2=1):=by rw [<- hw]
    rw [Z];rcases q with q | q
    ·rw [q];rfl
    ·rw [q];rfl
   have s1:=k6 w (show s<=1000 by omega);have s2:jj (qv (wch (w s)))=true:=rfl;have dv:c/2 ^ s/2=c/2 ^ (s+1):=by rw [Int.pow_succ,Int.ediv_ediv_of_nonneg (Int.pow_nonneg ⋯)]
   simp only [xO,zg5,zhx,zhw];rw [zO];simp only [Jh,W2,qo,zha,zhb,zT,zg5,U,s1,s2,and_self,if_true,Kd,zhF,zhx,zhw];simp only [Q9,qo,kX,zha,zT,zg5,WU];rw [if_pos ⟨by omega,by omega⟩,dv];exact e
 obtain⟨c0,z,e⟩:=Q m 0 .no ⋯;rw [<- zie]at e;have c1:c/2 ^ 0=c:=by simp
 have e1:(1:Int)+(m:Int) - 1=(m:Int):=by omega
 have w0:kf 0 w=("" : Str):=rfl;rw [c1,w0]at e;simp [F_law_ways_k22,z5,zV,zO,e1,O,jK,zg2];rw [z9 m λi=>(i:Int),e];simp
def Jp(ns:List Int)(p:Int)(n:Int):Int:=qN ns n/4%p*(if decide (0<qN ns n%4)=true then 1 else 0)
theorem zb9{ns:List Int}{p n:Int}(z:0<p):0<=Jp ns p n/\Jp ns p n<p:=by
 unfold Jp;have h1:=zhM (qN ns n/4) (show p≠0 by omega);have h2:=zht (qN ns n/4) z;split<;>omega
theorem zcU{ns:List Int}(Y:ns.length<=63){p:Int}(U:Pr p){at_:Int}(a9:0<=at_)(ha:at_<=1000){h w:Nat}(hh:h<=4)(hw:w<=4) :
 F_law_rows_k22 [x9 ns,.int at_,.int p,.int h,.int w]=some (.own (qR h w λx y=>Jp ns p (at_+(x:Int)*(w:Int)+(y:Int)))):=by
 have hl:=jf;have Z:=U.pos;have ac:=U.le;have a0:h<=lim:=by omega
 have I:w<=lim:=by omega
 have a1 : ∀(k s:Nat) (c6 c7:Cell),s+k=h->∃J O,qh (.nm 6) (zI (zQ 7 (jk (zF (ji (zc 4)) (.nm 0) 1 [0,1,4,6] ja (zq F_law_cell (za (zc 1) (za (zu jq (zu jq (zc 2) (zu qI (zc 4) (zc 3))) (zc 0)) zo)))))) (qs 5 (jk (zF (zD (zf 7)) (.nm 0) 1 [2] ja (zu qI (zu qx (zu Z7 (zc 0) (zg (.int 4))) (zc 1)) (KA (zu dGt (zu qx (zc 0) (zg (.int 4))) (zg (.int 0))))))))) ((ziz s k).map λ(i:Nat)=>D.int i)
  [.val (x9 ns),.val (.int at_),.val (.int p),.val (.int h),.val (.int w),.own (qR s w λx y=>Jp ns p (at_+(x:Int)*(w:Int)+(y:Int))),c6,c7]=some (.next [.val (x9 ns),.val (.int at_),.val (.int p),.val (.int h),.val (.int w),.own (qR h w λx y=>Jp ns p (at_+(x:Int)*(w:Int)+(y:Int))),J,O]):=by
  intro k
  induction k with
  | zero=>
   intro s c6 c7 hs;obtain rfl:s=h:=by omega
   exact⟨c6,c7,rfl⟩
  | succ k ih=>
   intro s c6 c7 hs;have xw:(s:Int)*(w:Int)<=16:=by
    have:s*w<=4*4:=Nat.mul_le_mul ⋯ hw;rw [<- Int.natCast_mul];omega
   have ae:(0:Int)<=(s:Int)*(w:Int):=Int.mul_nonneg ⋯ ⋯;have k1:zL (.nm 0) ja (zq F_law_cell (za (zc 1) (za (zu jq (zu jq (zc 2) (zu qI (zc 4) (zc 3))) (zc 0)) zo))) [Cell.no,Cell.val (x9 ns),Cell.val (.int at_),Cell.val (.int w),Cell.val (.int s)] (zz w λi=>(i:Int))=some (zz w λy=>qN ns (at_+(s:Int)*(w:Int)+(y:Int))):=by
    rw [z9 w,z9 w];refine zv _ _ λy Q=>zw rfl rfl ?_;have Q:=zgZ.mp Q;have S:Zg (s:Int) (w:Int)=true:=kc _ _ ⋯ ⋯;have ce:=(Zd Y (k:=at_+(s:Int)*(w:Int)+(y:Int)) ⋯ ⋯).1;simp [S,ce]
   have k2:zL (.nm 0) ja (zu qI (zu qx (zu Z7 (zc 0) (zg (.int 4))) (zc 1)) (KA (zu dGt (zu qx (zc 0) (zg (.int 4))) (zg (.int 0))))) [Cell.no,Cell.val (.int p)] (zz w λy=>qN ns (at_+(s:Int)*(w:Int)+(y:Int)))=some (zz w λy=>Jp ns p (at_+(s:Int)*(w:Int)+(y:Int))):=by
    rw [z9 w,z9 w];refine zv _ _ λy Q=>zw rfl rfl ?_;have S : ∀z:Int,Zg z (if 0<qN ns (at_+(s:Int)*(w:Int)+(y:Int))%4 then 1 else 0)=true:=λz=>Q1 _ _ (by split<;>omega) (by split<;>omega);simp [Z,S,Jp]
   obtain⟨J,O,e⟩:=ih (s+1) (.val (.int s)) (.val (.lst (zz w λy=>qN ns (at_+(s:Int)*(w:Int)+(y:Int))))) ⋯;refine⟨J,O,?_⟩;rw [zia,zhq,jD];have sl:(qR s w λx y=>Jp ns p (at_+(x:Int)*(w:Int)+(y:Int))).length<lim:=by rw [wr];omega
   simp only [xO,zg5,zhx,zhw];rw [zO];simp only [Jh,Q7,yi,vw,qo,zha,zhb,zT,zg5,qA,wX I,if_true,zh1,jK,xc,I];rw [show z6 1 [0,1,4,6] [Cell.val (x9 ns),Cell.val (D.int at_),Cell.val (D.int p),Cell.val (D.int (h:Int)),Cell.val (D.int (w:Int)),Cell.own (qR s w λx y=>Jp ns p (at_+(x:Int)*(w:Int)+(y:Int))),Cell.val (D.int (s:Int)),c7]=[Cell.no,Cell.val (x9 ns),Cell.val (.int at_),Cell.val (.int w),Cell.val (.int s)]from rfl,k1];simp only [zhF,zg5,zhx,zhw];simp only [vx,Q7,yi,kY,qO,zha,zhb,qy,jC,Q5,zg5,zhF,xc,I,if_true];rw [show z6 1 [2] [Cell.val (x9 ns),Cell.val (D.int at_),Cell.val (D.int p),Cell.val (D.int (h:Int)),Cell.val (D.int (w:Int)),Cell.own (qR s w λx y=>Jp ns p (at_+(x:Int)*(w:Int)+(y:Int))),Cell.val (D.int (s:Int)),Cell.val (D.lst (zz w λy=>qN ns (at_+(s:Int)*(w:Int)+(y:Int))))]=[Cell.no,Cell.val (.int p)]from rfl,k2];simp only [zhF,zg5,sl,if_true,zhx,zhw];have ea:(qR s w λx y=>Jp ns p (at_+(x:Int)*(w:Int)+(y:Int)))++[D.lst (zz w λy=>Jp ns p (at_+(s:Int)*(w:Int)+(y:Int)))]=qR (s+1) w λx y=>Jp ns p (at_+(x:Int)*(w:Int)+(y:Int)):=by
    unfold qR;rw [zh5,zhG];rfl
   rw [ea];exact e
 obtain⟨c6,c7,e⟩:=a1 h 0 .no .no ⋯;rw [<- zie]at e;simp [F_law_rows_k22,z5,zV,zO,zg2,a0,jK];rw [z9 h λi=>(i:Int)];have e0:(qR 0 w λx y=>Jp ns p (at_+(x:Int)*(w:Int)+(y:Int)))=[]:=rfl;rw [e0]at e;rw [e];simp
def mk(lo:Nat)(ch:List Int)(r:Nat):Int:=if lo<=r then ch.getD (r - lo) 0 else 0
def F_stretches_of:List D->Option Res:=z5 3 (zI (qL 1 (qj zo)) (zI (yk (ji (zc 0)) (.nm 2) (Jy 1 (zF (kg (zc 2) (zc 0)) (.nm 0) 1 [2] ja (jp (za (zc 1) (za (zc 0) zo)))))) (kz 1)))
def zfi(n k:Nat)(u:Nat->Int):Int:=if 0<k then (if k+1<n then u (k - 1)+(u (k+1)+0)else u (k - 1)+0)else if k+1<n then u (k+1)+0 else 0
def mv(n k:Nat)(u:Nat->Int)(i:Nat):Int:=if i=k then zfi n k u - u k else u i
theorem zcf{w:Nat}{B:Nat->Vc}{l:Nat->Nat}{r j:Nat}(h : ∀k,k<r->l k≠j):J6 w B l r j=0:=by
 unfold J6;rw [zn (g:=λ_=>0) λk z=>if_neg (h k z),zG]
theorem zea{p:Int}{w n r:Nat}{B:Nat->Vc}{l:Nat->Nat}(I:IsB p n r B l){k:Nat}(z:k<r):J6 w B l r (l k)=B k w:=by
 unfold J6;rw [zR z λm J O=>if_neg λe=>O (QE I.mono J z e),if_pos rfl]
theorem VG{p:Int}{h w:Nat}{f:Nat->Nat->Int}{b y:Vc}(O : ∀i,i<h->sumTo (λj=>f i j*y j) w%p=b i%p){v:Vc}(Q:Span p (w+1) (Fam h (aug w f b)) v):(v w - sumTo (λj=>v j*y j) w)%p=0:=by
 induction Q with
 | @zero v I=>
  have e:sumTo (λj=>v j*y j) w%p=sumTo (λ_=>0) w%p:=zK λj J=>by rw [zg8,I j ⋯];simp
  rw [zio,e,I w ⋯,zG];simp
 | @step v z g c S a1 h1 U=>
  obtain⟨i,hi,rfl⟩:=S;have e1:sumTo (λj=>v j*y j) w%p=(sumTo (λj=>z j*y j) w+c*sumTo (λj=>f i j*y j) w)%p:=by
   rw [<- jo,<- jG];refine zK λj J=>?_;rw [zg8,h1 j ⋯,<- zg8];have:aug w f b i j=f i j:=by simp [aug,J]
   rw [this,Int.add_mul,ziw]
  have Y:v w%p=(z w+c*b i)%p:=by
   rw [h1 w ⋯];have:aug w f b i w=b i:=by simp [aug]
   rw [this]
  have Z:(c*sumTo (λj=>f i j*y j) w)%p=(c*b i)%p:=by rw [zg8,O i hi,<- zg8]
  rw [zio,e1,Y,<- zio];have e4:(z w+c*b i - (sumTo (λj=>z j*y j) w+c*sumTo (λj=>f i j*y j) w))=(z w - sumTo (λj=>z j*y j) w)+(c*b i - c*sumTo (λj=>f i j*y j) w):=by omega
  rw [e4,zhp,U,zio,Z];simp
theorem VI{p:Int}(Q:Pr p){h w:Nat}(Y:h<=90)(hw:w<=90)(f:Nat->Nat->Int)(b y:Vc)(O : ∀i,i<h->0<=b i/\b i<p)(Z : ∀i,i<h->sumTo (λj=>f i j*y j) w%p=b i) :
 ∃x:Vc,xP [.int p,jV h w f,.tup (zz h b)]=some (.val (.tup (zz w x)))/\(∀j,0<=x j/\x j<p)/\∀i,i<h->sumTo (λj=>f i j*x j) w%p=b i:=by
 have p0:=Q.pos;obtain⟨r,B,l,s,J,S,hs,s1,s2,U⟩:=vy Q Y hw f b;have a1 : ¬s<r:=λz=>by
  have a9:=J.lt s z;have aa:=s2 s (zg3 _) z;have el:l s=w:=by omega
  have sp:=(S (B s)).mp (.gen ⟨s,z,rfl⟩);have q:=VG (y:=y) (λi hi=>by rw [Z i hi,zik (O i hi).1 (O i hi).2]) sp;have h1:=J.one s z;rw [el]at h1;have h2:sumTo (λj=>B s j*y j) w=0:=by
   rw [zn (g:=λ_=>0) λj hj=>by rw [J.bef s j z ⋯];simp];exact zG _
  rw [h1,h2,Int.sub_zero,Q.one]at q;omega
 rw [if_neg a1]at U;have er:s=r:=by omega
 subst er;refine⟨_,U,λj=>?_,λi hi=>?_⟩
 ·by_cases e : ∃k,k<s/\l k=j
  ·obtain⟨k,I,rfl⟩:=e
   rw [zea J I];exact J.rng k w I ⋯
  ·rw [zcf λk I e'=>e ⟨k,I,e'⟩];exact⟨Int.le_refl _,p0⟩
 ·have co:=yq J ((S (aug w f b i)).mpr (.gen ⟨i,hi,rfl⟩)) w ⋯
  have a6:aug w f b i w=b i:=by simp [aug]
  rw [a6,zik (O i hi).1 (O i hi).2]at co;rw [co];congr 1;unfold J6;rw [zn (g:=λj=>sumTo (λk=>f i j*(if l k=j then B k w else 0)) s) λj _=>(jo _ _ _).symm,j7];refine zn λk I=>?_;rw [zR (i:=l k) (s1 k I) λj hj a7=>by rw [if_neg (zhO a7)];simp,if_pos rfl];simp only [aug,if_pos (s1 k I)]
def qH(wd:Nat->Nat)(b:Bar):List D:=(zgX b.n).map λi=>D.tup (zz (wd (b.s+i)) (b.v (b.s+i)))
def jF(wd:Nat->Nat)(b:Bar):D:= .tup [.int b.s,.tup (qH wd b)]
@[simp] theorem XJ(wd b):(qH wd b).length=b.n:=by simp [qH]
theorem QG{wd:Nat->Nat}{b:Bar}{i:Nat}(h:i<b.n):(qH wd b)[i]? = some (.tup (zz (wd (b.s+i)) (b.v (b.s+i)))):=by simp [qH,h]
@[simp] theorem zfI(wd b):jw (jF wd b)=some (.T,[.int b.s,.tup (qH wd b)]):=rfl
section
variable{wd:Nat->Nat}{b:Bar}{bars:List Bar}
theorem Xj(h1:1<=b.n)(z:b.s+b.n<=100):jI [jF wd b]=some (.val (.tup [.int b.s,.int ((b.s+b.n - 1:Nat):Int)])):=by
 have e:((b.s:Int)+(b.n:Int) - 1)=((b.s+b.n - 1:Nat):Int):=by omega
 simp [jI,z5,zV,jF,zg2];omega
theorem qZ(z:b.s+b.n<=100)(r:Nat):jm [jF wd b,.int r]=some (.val (.bl (b.has r))):=by
 by_cases h:b.s<=r
 ·by_cases h2:r<b.s+b.n
  ·have:(r:Int)<(b.s:Int)+b.n:=by omega
   simp [jm,z5,zV,jF,zg2,Bar.has,h,h2,this]
  ·have : ¬((r:Int)<(b.s:Int)+b.n):=by omega
   simp [jm,z5,zV,jF,zg2,Bar.has,h,h2,this]
 ·simp [jm,z5,zV,jF,zg2,Bar.has,h]
theorem vc{N:Nat}{A:Nat->Bar}(z : ∀j,j<N->(A j).s+(A j).n<=100)(I:N<=lim)(r:Nat) :
 qr [.lst ((zgX N).map λj=>jF wd (A j)),.int r]=some (.own (((zgX N).filter λj=>(A j).has r).map λj=>D.tup (zz (wd r) ((A j).v r)))):=by
 simp only [qr,z5,zV,Vh,yi,kY,qO,zhq,List.map_nil,zhE,ziJ,zg2,zkc,zkI,List.nil_append,zha,xA,jw,zhF,zg5,zhk,ziI,I,if_true];rw [zY (λj=>(A j).has r) (λj=>D.tup (zz (wd r) ((A j).v r))) (zgX N) λj J=>⟨_,rfl,?_,λQ=>?_⟩]
 ·rfl
 ·have e:=qZ (wd:=wd) (z j (zgZ.mp J)) r
  simp [z6,e]
 ·obtain⟨h1,h2⟩:=has_iff.mp Q
  obtain⟨i,rfl⟩:=Nat.exists_eq_add_of_le h1;have hi:i<(A j).n:=by omega
  have e1:(((A j).s+i:Nat):Int) - ((A j).s:Int)=(i:Int):=by omega
  have O:=QG (wd:=wd) hi;have I:=jf;have S:=z j (zgZ.mp J);simp [z6,jF,hi,O];rw [show((A j).s:Int)+(i:Int) - ((A j).s:Int)=(i:Int)by omega,j3,if_pos hi];exact O
theorem wt{q h:Nat}(g:Nat->Vc)(z:q<=lim)(I:h<=lim):xG [.int h,.lst (zM q h g)]=some (.val (jV h q λi j=>g j i)):=by
 have e:=xD (h:=q) (w:=h) g z I;unfold jV at e;simp [xG,z5,zV,zg2,z,e];rfl
theorem Wr(h:Nat)(u:Nat->Vc)(L:List Nat):(L.map λj=>D.tup (zz h (u j)))=zM L.length h λi=>u (L.getD i 0):=by
 unfold zM
 conv=>lhs;rw [<- jP 0 L]
 rw [zhU];rfl
theorem Wq(u:Nat->Int)(L:List Nat):(L.map λj=>D.int (u j))=zz L.length λi=>u (L.getD i 0):=by
 unfold zz
 conv=>lhs;rw [<- jP 0 L]
 rw [zhU];rfl
theorem xI(P:Nat->Bool)(g:Nat->Int) : ∀N,sumTo (λi=>g (((zgX N).filter P).getD i 0)) ((zgX N).filter P).length=sumTo (λj=>if P j=true then g j else 0) N
 | 0=>rfl
 | N+1=>by
  have z:=xI P g N;rw [zh5,zjM];show _=sumTo _ N+_;rw [<- z];cases hP:P N with
  | false=>simp [hP]
  | true=>
   have e:([N].filter P)=[N]:=by simp [hP]
   rw [e,zh3,zjt];show sumTo _ _+_=_;simp only [if_true];congr 1
   ·refine zn λi hi=>?_
    simp [zg4,zhX hi]
   ·simp [zg4,hP]
end
section
variable{wd:Nat->Nat}{N m:Nat}{A:Nat->Bar}{p:Int}{w:Nat->Bool}{T:Nat->Nat->Nat->Int}{t:Vc}
theorem Vr:vD (zz N t) ((zgX N).map λj=>jF wd (A j))=(zgX N).map λj=>D.tup [.int (t j),jF wd (A j)]:=by
 unfold vD zz;rw [List.zip_map,zhU];have e:(zgX N).zip (zgX N)=(zgX N).map λi=>(i,i):=by
  rw [List.zip_eq_zipWith,List.zipWith_self]
 rw [e,zhU];rfl
theorem wT(O:Pr p)(Q : ∀j,j<N->(A j).s+(A j).n<=100)(hN:N<=60)(hm:m<=5)(S : ∀k,wd k<=60){r:Nat}(hr:r<=m)(U : ∀j i,j<N->(A j).has r=true->i<wd r->0<=(A j).v r i/\(A j).v r i<p) :
 xE [jO p m w wd T,.lst ((zgX N).map λj=>jF wd (A j)),.tup (zz N t),.int r]=some (.val (.tup (zz (wd r) (mxV p A N t r)))):=by
 have hl:=jf;have p7:=O.le;have a9:=S r;have e1:=vc (wd:=wd) Q (show N<=lim by omega) r;rw [Wr (wd r) (λj=>(A j).v r)]at e1;have hq:((zgX N).filter λj=>(A j).has r).length<=N:=by
  have:=List.length_filter_le (λj=>(A j).has r) (zgX N);simpa using this
 have Y:=wt (q:=((zgX N).filter λj=>(A j).has r).length) (h:=wd r) (λi=>(A (((zgX N).filter λj=>(A j).has r).getD i 0)).v r) ⋯ ⋯;have I:=Zm (p:=p) (h:=wd r) (w:=((zgX N).filter λj=>(A j).has r).length) .L (λi j=>(A (((zgX N).filter λj=>(A j).has r).getD j 0)).v r i) (λi=>t (((zgX N).filter λj=>(A j).has r).getD i 0)) O.pos ⋯ ⋯ (λi j hi J=>by
  have Z:((zgX N).filter λj=>(A j).has r).getD j 0∈(zgX N).filter λj=>(A j).has r:=by
   rw [zg4,zg0 J];exact zis _
  obtain⟨h1,h2⟩:=zhm.mp Z;have:=U _ i (zgZ.mp h1) (by simpa using h2) hi;omega)
 have e4:(zz (wd r) λi=>sumTo (λj=>(A (((zgX N).filter λj=>(A j).has r).getD j 0)).v r i*t (((zgX N).filter λj=>(A j).has r).getD j 0)) ((zgX N).filter λj=>(A j).has r).length%p)=zz (wd r) (mxV p A N t r):=kO λi _=>by
  unfold mxV;rw [xI (λj=>(A j).has r) (λj=>(A j).v r i*t j) N];congr 1;refine zn λj _=>?_;rw [zix]
 rw [e4]at I;have e5:zL (.tp [0,1]) (sB (zq jm (za (zc 1) (za (zc 2) zo)))) (zc 0) [.no,.no,.val (.int r)] ((zgX N).map λj=>D.tup [.int (t j),jF wd (A j)])=some (zz ((zgX N).filter λj=>(A j).has r).length λi=>t (((zgX N).filter λj=>(A j).has r).getD i 0)):=by
  rw [<- Wq];refine zY (λj=>(A j).has r) (λj=>D.int (t j)) _ λj J=>⟨_,rfl,?_,λ_=>rfl⟩;have e:=qZ (wd:=wd) (Q j (zgZ.mp J)) r;simp [e]
 have a2:r<m+1:=by omega
 have z:=Vr (N:=N) (wd:=wd) (t:=t) (A:=A);simp only [dsq]at I;have a3:N<=lim:=by omega
 refine jN (zC (γ':=[.val (jO p m w wd T),.val (.lst ((zgX N).map λj=>jF wd (A j))),.val (.tup (zz N t)),.val (.int r),.val (.lst (zz ((zgX N).filter λj=>(A j).has r).length λi=>t (((zgX N).filter λj=>(A j).has r).getD i 0)))]) ?_ ?_)
 ·simp [-zg4,zV,z6,zg2,z,e5,a3]
 ·simp [-zg4,jO,e1,Y,I,a2]
theorem Wj(Q:Pr p)(I : ∀j,j<N->(A j).s+(A j).n<=m+1)(S:N<=60)(U:m<=5)(Y : ∀k,wd k<=60)(Z : ∀j r i,j<N->(A j).has r=true->i<wd r->0<=(A j).v r i/\(A j).v r i<p){a:Nat}(ha:a<N)(t0 : ∀i,i<a->t i=0)(t1:t a≠0) :
 Zk [jO p m w wd T,.lst ((zgX N).map λj=>jF wd (A j)),.tup (zz N t)]=some (.val (jF wd (mxB p A N t a))):=by
 have hl:=jf;have a2:N<=lim:=by omega
 have e0:=xF a2 t ha t0 t1;have aa:=I a ha;have e1:zL (.nm 0) ja (zq xE (za (zc 1) (za (zc 2) (za (zc 3) (za (zu jq (sIx (zf 4) (zg (.int 0))) (zc 0)) zo))))) [.no,.val (jO p m w wd T),.val (.lst ((zgX N).map λj=>jF wd (A j))),.val (.tup (zz N t)),.val (jF wd (A a))] ((zgX (A a).n).map λ(i:Nat)=>D.int i)=some (qH wd (mxB p A N t a)):=by
  unfold qH;refine zv _ _ λi hi=>zw rfl rfl ?_;have hi:=zgZ.mp hi;have e:=wT (T:=T) (w:=w) (t:=t) Q (λj z=>by have:=I j z;omega) S U Y (r:=(A a).s+i) (by have:i<(A a).n:=hi;omega) λj c z hh hc=>Z j _ c z hh hc;have e2:(((A a).s+i:Nat):Int)=((A a).s:Int)+(i:Int):=by omega
  rw [e2]at e;have i0:inR (((A a).s:Int)+(i:Int))=true:=decide_eq_true (by have:i<(A a).n:=hi;omega);simp [e];rfl
 have J:(A a).n<=lim:=by omega
 have i1:inR ((A a).n:Int)=true:=decide_eq_true ⋯;refine jN (zC (γ':=[.val (jO p m w wd T),.val (.lst ((zgX N).map λj=>jF wd (A j))),.val (.tup (zz N t)),.val (jF wd (A a)),.no]) ?_ (zC (γ':=[.val (jO p m w wd T),.val (.lst ((zgX N).map λj=>jF wd (A j))),.val (.tup (zz N t)),.val (jF wd (A a)),.val (.lst (qH wd (mxB p A N t a)))]) ?_ ?_))
 ·simp [zV,zg2,e0,ha]
 ·have O:=e1
  rw [show((zgX (A a).n).map λ(i:Nat)=>D.int i)=zz (A a).n λi=>(i:Int)from rfl]at O;simp [z6,jK,i1,J,O]
 ·have a8:(mxB p A N t a).n<=lim:=J
  simp [XJ,a8];rfl
end
def b1:CO Fl:=(sIf (xl (sB (zq wz (za (zc 1) zo)))) ZA j4)
def b2:CO Fl:=(zQ 3 (zu jq (Jx (zc 1)) (zg (.int 1))))
def b3:CO Fl:=(sIf (xl (sB (zeh (jz (zF (zD (zf 2)) (.nm 0) 1 [3] ja (zq yn (za (zc 1) (za (zc 0) zo)))))))) ZA j4)
def b4:CO Fl:=(zQ 4 (jk (zaf (zf 2))))
def b5:CO Fl:=(zQ 5 (jk (zF (ji (zc 3)) (.nm 0) 1 [4] ja (jk (zX Vn (za (zc 1) (za (zc 0) zo)))))))
def b6:CO Fl:=(zQ 6 (zN (jz (zF (zD (zf 5)) (.nm 0) 1 [] ja (k4 (zf 0))))))
def b7:CO Fl:=(sIf (sB (zu dGt (zcP (zf 6)) (zg (.int 30)))) ZA j4)
def b8:CO Fl:=(zQ 7 (jk (zF (yl (zc 1)) (.tp [0,1]) 2 [5] ja (jp (za (zc 1) (za (zq Qc (za (sIx (zf 2) (zq W6 (za (zc 0) (za (zc 1) zo)))) (za (sIx (zf 2) (zq vP (za (zc 0) (za (zc 1) zo)))) zo))) zo))))))
def x1:CO Xn:=(xIf (xl (sB (zq wz (za (zc 1) zo)))) (zeO "NoRow") xNo)
def x3:CO Xn:=(xIf (xl (sB (zeh (jz (zF (zD (zf 2)) (.nm 0) 1 [3] ja (zq yn (za (zc 1) (za (zc 0) zo)))))))) (zeO "NoRow") xNo)
def x7:CO Xn:=(xIf (sB (zu dGt (zcP (zf 6)) (zg (.int 30)))) (zeO "TooMany") xNo)
def zcV(m:Nat)(bs:List (Int×Int)):List D:=(zgX (m+1)).map λ(r:Nat)=>D.lst (zfj (zar bs r))
def zaL(m:Nat)(bs:List (Int×Int)):List D:=zz (m+1) λr=>((zar bs r).length:Int)
section
variable{p:Int}{m:Nat}{w:Nat->Bool}{bs:List (Int×Int)}
abbrev g0(p:Int)(z:Str)(bs:List (Int×Int)):Ctx:=[.val (.int p),.val (.str z),.val (.lst (X2 bs)),.no,.no,.no,.no,.no]
abbrev g2(p:Int)(z:Str)(m:Nat)(bs:List (Int×Int)):Ctx:=[.val (.int p),.val (.str z),.val (.lst (X2 bs)),.val (.int ((m+1:Nat):Int)),.no,.no,.no,.no]
abbrev g6(p:Int)(z:Str)(m:Nat)(bs:List (Int×Int)):Ctx:=[.val (.int p),.val (.str z),.val (.lst (X2 bs)),.val (.int ((m+1:Nat):Int)),.val (.lst (X2 (zaT bs))),.val (.lst (zcV m (zaT bs))),.val (.tup (zaL m (zaT bs))),.no]
end
def rnd(n:Nat)(ks:List Nat)(u:Nat->Int):Nat->Int:=ks.foldl (λu k=>mv n k u) u
def sw(k i:Nat):Nat:=if i=k then k+1 else if i=k+1 then k else i
def itr(n:Nat)(ks:List Nat)(u:Nat->Int):Nat->Nat->Int
 | 0=>u
 | j+1=>rnd n ks (itr n ks u j)
def acc(n:Nat)(ks:List Nat)(u:Nat->Int):Nat->Nat->Int
 | 0=>λ_=>0
 | j+1=>λi=>acc n ks u j i+itr n ks u j i
theorem w6(b:Bool):dEq (.str (qv (wch b))) (.str "r")=some (.bl (!b)):=by cases b<;>kernel_rfl
section
variable{wd:Nat->Nat}{N m k r:Nat}{A:Nat->Bar}{p:Int}{w:Nat->Bool}{T:Nat->Nat->Nat->Int}{B:Nat->Vc}{l:Nat->Nat}
theorem QO(l:Nat->Nat)(g:Nat->D)(i:Nat) : ∀(L:List Nat),zcm (L.map λj=>D.int ((l j:Nat):Int)) (L.map g) (i:Int)=(L.find? λj=>l j==i).map g
 | []=>rfl
 | j::L=>by
  have z:=QO l g i L;simp only [zhq,zcm,List.find?_cons];by_cases h:l j=i
  ·simp [h]
  ·have h2 : ¬((l j:Nat):Int)=(i:Int):=by omega
   rw [if_neg h2,z];have:(l j==i)=false:=by simpa using h
   rw [this]
theorem ZW(l:Nat->Nat) : ∀L:List Nat,ye (L.map λj=>D.int ((l j:Nat):Int))=some (L.map λj=>((l j:Nat):Int))
 | []=>rfl
 | j::L=>by simp [ye,ZW l L]
theorem XN(z:IsB p N r B l)(I:r<=lim):WM ((zgX r).map λj=>D.int ((l j:Nat):Int)) ((zgX r).map λj=>D.tup (zz N (B j)))=some (.dic ((zgX r).map λj=>D.int ((l j:Nat):Int)) ((zgX r).map λj=>D.tup (zz N (B j)))):=by
 unfold WM;rw [ZW];dsimp only;rw [if_pos];refine⟨by simp,?_,by simpa using I⟩;rw [zjF,zi1];refine ziY (λ{a b} ha J h=>?_) (zjj (n:=r));have:=z.mono a b h (zgZ.mp J);omega
theorem Zr(f g:Nat->D) : ∀L:List Nat,xm (L.map λj=>D.tup [f j,g j])=some (L.map f,L.map g)
 | []=>rfl
 | j::L=>by simp [xm,Zr f g L]
theorem vm(h:k<(jZ m w wd T).length):(jZ m w wd T)[k]=qC w wd T k:=by simp [jZ]
theorem qT(w wd T k):jw (qC w wd T k)=some (.T,[.str (qv (wch (w k))),jV (hiW w wd k) (wiW w wd k) (T k)]):=rfl
theorem JY:qM ((zgX N).map λj=>jF wd (A j))=(zgX N).map λ(i:Nat)=>D.tup [.int i,jF wd (A i)]:=by
 unfold qM;simp only [zhk,ziI];refine zhi λi hi=>?_;have hi:=zgZ.mp hi;simp [hi]
def Spec(p:Int)(w:Nat->Bool)(wd:Nat->Nat)(T:Nat->Nat->Nat->Int)(k:Nat)(u:Vc):Prop:=if w k=true then Span p (wd k) (Fam (wd (k+1)) λj i=>T k i j) u else Ker p (wd (k+1)) (wd k) (T k) u
theorem Xk(O:Pr p)(Q : ∀k,wd k<=8)(w)(T)(k:Nat) : ∃q g,q<=100/\(∀u,Span p (wd k) (Fam q g) u↔Spec p w wd T k u)/\
 (if w k=true then kq [.int p,jV (hiW w wd k) (wiW w wd k) (T k)]=some (.own (zM q (wd k) g))else xj [.int p,jV (hiW w wd k) (wiW w wd k) (T k)]=some (.own (zM q (wd k) g))):=by
 have hl:=jf;have S:=Q k;have a1:=Q (k+1);have U : ∀{r n:Nat} {B:Nat->Vc} {l:Nat->Nat},IsB p n r B l->r<=n:=λ{r n B l} z=>by
  have mono : ∀k,k<r->k<=l k:=by
   intro k
   induction k with
   | zero=>intro _;omega
   | succ k Z=>intro S;have:=Z ⋯;have:=z.mono k (k+1) ⋯ S;omega
  cases r with
  | zero=>omega
  | succ Y=>have:=mono Y ⋯;have:=z.lt Y ⋯;omega
 cases hw:w k with
 | true=>
  have e1:hiW w wd k=wd k:=by unfold hiW;rw [hw];rfl
  have I:wiW w wd k=wd (k+1):=by unfold wiW;rw [hw];rfl
  obtain⟨r,B,l,e,z,J⟩:=wy O (h:=wd k) (w:=wd (k+1)) ⋯ ⋯ (T k);refine⟨r,B,by have:=U z;omega,λu=>by unfold Spec;rw [hw,if_pos rfl];exact J u,?_⟩;rw [if_pos rfl,e1,I];exact e
 | false=>
  have e1:hiW w wd k=wd (k+1):=by unfold hiW;rw [hw];rfl
  have I:wiW w wd k=wd k:=by unfold wiW;rw [hw];rfl
  obtain⟨q,K,l,s,e,z,J,_⟩:=qB O (h:=wd (k+1)) (w:=wd k) ⋯ ⋯ (T k);refine⟨q,K,by have:=U z;omega,λu=>by unfold Spec;rw [hw,if_neg ⋯];exact J u,?_⟩;rw [if_neg ⋯,e1,I];exact e
def sd1:CO Fl:=(zQ 3 (sIx (zA (sIx (zA (sIx (zf 0) (zg (.int 2)))) (zc 1))) (zg (.int 0))))
def sd2:CO Fl:=(zQ 4 (sIx (zA (sIx (zA (sIx (zf 0) (zg (.int 2)))) (zc 1))) (zg (.int 1))))
def sd3:CO Fl:=(zQ 5 (Zp (sB (zu dEq (zc 3) (zg (.str "r")))) (jk (zX xj (za (sIx (zf 0) (zg (.int 0))) (za (zc 4) zo)))) (jk (zX kq (za (sIx (zf 0) (zg (.int 0))) (za (zc 4) zo))))))
def sd4:CO Fl:=(zQ 6 (jk (zX F_led_into (za (sIx (zf 0) (zg (.int 0))) (za (zq xG (za (sIx (zA (sIx (zf 0) (zg (.int 1)))) (zc 1)) (za (jk (zX qr (za (zc 2) (za (zc 1) zo)))) zo))) (za (zc 5) zo))))))
def sd5:CO Fl:=(zQ 7 (KB (zF (zD (zf 6)) (.nm 0) 1 [] ja (jp (za (zq jJ (za (zc 0) zo)) (za (zc 0) zo))))))
def sd6:CO Fl:=(qW (zF (Qp (zc 2)) (.tp [0,1]) 2 [0,2,7] ja (Zp (sB (zcS (zc 0) (zc 4))) (zq Zk (za (zc 2) (za (zc 3) (za (zef (zc 4) (zc 0)) zo)))) (zc 1))))
theorem Jt:kZ=z5 8 (zI sd1 (zI sd2 (zI sd3 (zI sd4 (zI sd5 sd6))))):=rfl
theorem Xo(S:Pr p)(hb : ∀j,j<N->(A j).s+(A j).n<=m+1)(U : ∀j,j<N->(A j).has k=true)(a1:k<m)(hN:N<=8)(hm:m<=5)(Y : ∀k,wd k<=8)(hv : ∀j r i,j<N->(A j).has r=true->i<wd r->0<=(A j).v r i/\(A j).v r i<p) :
 ∃r B l,IsB p N r B l/\(∀t,Span p N (Fam r B) t↔Spec p w wd T k (app (λi j=>(A j).v k i) N t))/\
  kZ [jO p m w wd T,.int k,.lst ((zgX N).map λj=>jF wd (A j))]=some (.own ((zgX N).map λi=>jF wd (stB p A N r B l i))):=by
 have hl:=jf;obtain⟨q,g,hq,a8,O⟩:=Xk S Y w T k;have am:=Y k;obtain⟨r,B,l,e1,z,hs⟩:=k3 S (h:=wd k) (w:=N) (q:=q) ⋯ ⋯ hq (λi j=>(A j).v k i) g;refine⟨r,B,l,z,λt=>(hs t).trans (a8 _),?_⟩;have Q:N<=lim:=by omega
 have aa:k<m+1:=by omega
 have rN:r<=N:=by
  have mono : ∀k,k<r->k<=l k:=by
   intro k
   induction k with
   | zero=>intro _;omega
   | succ k ih=>intro U;have:=ih ⋯;have:=z.mono k (k+1) ⋯ U;omega
  cases r with
  | zero=>omega
  | succ a2=>have:=mono a2 ⋯;have:=z.lt a2 ⋯;omega
 have a3:r<=lim:=by omega
 have e2:=vc (wd:=wd) (A:=A) (N:=N) (λj I=>by have:=hb j I;omega) Q k;have ef:((zgX N).filter λj=>(A j).has k)=zgX N:=List.filter_eq_self.mpr λj I=>U j (zgZ.mp I);rw [ef]at e2;have e3:=wt (q:=N) (h:=wd k) (λj=>(A j).v k) Q ⋯;have ae:qr [.lst ((zgX N).map λj=>jF wd (A j)),.int k]=some (.own (zM N (wd k) λj=>(A j).v k)):=e2;have e4:zL (.nm 0) ja (jp (za (zq jJ (za (zc 0) zo)) (za (zc 0) zo))) [.no] (zM r N B)=some ((zgX r).map λj=>D.tup [.int ((l j:Nat):Int),.tup (zz N (B j))]):=by
  unfold zM;refine zv _ _ λj I=>zw rfl rfl ?_;have I:=zgZ.mp I;have e:=xF Q (B j) (z.lt j I) (λi hi=>z.bef j i I hi) (by rw [z.one j I];decide);simp [e]
 have e5:=XN z a3;have e6:=Zr (λj=>D.int ((l j:Nat):Int)) (λj=>D.tup (zz N (B j))) (zgX r);let ds:D:= .dic ((zgX r).map λj=>D.int ((l j:Nat):Int)) ((zgX r).map λj=>D.tup (zz N (B j)));let L:D:= .lst ((zgX N).map λj=>jF wd (A j));have e7:zL (.tp [0,1]) ja (Zp (sB (zcS (zc 0) (zc 4))) (zq Zk (za (zc 2) (za (zc 3) (za (zef (zc 4) (zc 0)) zo)))) (zc 1)) [.no,.no,.val (jO p m w wd T),.val L,.val ds] ((zgX N).map λ(i:Nat)=>D.tup [.int i,jF wd (A i)])=some ((zgX N).map λi=>jF wd (stB p A N r B l i)):=by
  refine zv _ _ λi hi=>zw rfl rfl ?_;have hi:=zgZ.mp hi;have J:=QO l (λj=>D.tup (zz N (B j))) i (zgX r);have aj:(zgX r).find? (λj=>l j==i)=ldx r l i:=rfl;rw [aj]at J;unfold stB;cases hx:ldx r l i with
  | none=>
   rw [hx]at J;simp [ds,zcS,J]
  | some j=>
   rw [hx]at J;obtain⟨h1,h2⟩:=qf hx;have e:=Wj (T:=T) (w:=w) (t:=B j) S hb ⋯ hm (λk=>by have:=Y k;omega) hv (a:=i) hi (λc hc=>z.bef j c h1 ⋯) (by rw [<- h2,z.one j h1];decide);simp [ds,zcS,zef,J,L,e]
 rw [Jt];refine jN (zC (γ':=[.val (jO p m w wd T),.val (.int k),.val L,.val (.str (qv (wch (w k)))),.no,.no,.no,.no]) ?_
  (zC (γ':=[.val (jO p m w wd T),.val (.int k),.val L,.val (.str (qv (wch (w k)))),.val (jV (hiW w wd k) (wiW w wd k) (T k)),.no,.no,.no]) ?_
  (zC (γ':=[.val (jO p m w wd T),.val (.int k),.val L,.val (.str (qv (wch (w k)))),.val (jV (hiW w wd k) (wiW w wd k) (T k)),.val (.lst (zM q (wd k) g)),.no,.no]) ?_
  (zC (γ':=[.val (jO p m w wd T),.val (.int k),.val L,.val (.str (qv (wch (w k)))),.val (jV (hiW w wd k) (wiW w wd k) (T k)),.val (.lst (zM q (wd k) g)),.val (.lst (zM r N B)),.no]) ?_
  (zC (γ':=[.val (jO p m w wd T),.val (.int k),.val L,.val (.str (qv (wch (w k)))),.val (jV (hiW w wd k) (wiW w wd k) (T k)),.val (.lst (zM q (wd k) g)),.val (.lst (zM r N B)),.val ds]) ?_ ?_)))))
 ·simp [sd1,zV,zg2,qQ,qT,vm,a1];rfl
 ·simp [sd2,qQ,qT,vm,a1]
 ·cases hw:w k with
  | true=>
   rw [hw,if_pos rfl]at O;have Z:=w6 true;simp [sd3,qQ,Z,O]
  | false=>
   rw [hw,if_neg ⋯]at O;have Z:=w6 false;simp [sd3,qQ,Z,O]
 ·simp [sd4,qQ,aa,L,ae,e3,e1]
 ·simp [sd5,z6,e4,a3,e6,e5];rfl
 ·simp [sd6,z6,L,JY,Q,e7]
end
def oD(n:Nat):Option Vc->D
 | none=> .non
 | some y=> .tup (zz n y)
theorem Xm{p:Int}(O:Pr p){h w:Nat}(Q:h<=90)(hw:w<=90)(f:Nat->Nat->Int)(b:Vc)(J : ∀i,i<h->0<=b i/\b i<p) :
 ∃o:Option Vc,xP [.int p,jV h w f,.tup (zz h b)]=some (.val (oD w o))/\(∀x,o=some x->(∀j,0<=x j/\x j<p)/\∀i,i<h->app f w x i%p=b i%p)/\(o=none->¬∃y:Vc,∀i,i<h->app f w y i%p=b i%p):=by
 have S : ∀i,i<h->b i%p=b i:=λi hi=>zik (J i hi).1 (J i hi).2;by_cases I : ∃y:Vc,∀i,i<h->app f w y i%p=b i%p
 ·obtain⟨y,I⟩:=I
  obtain⟨x,e,h1,h2⟩:=VI O Q hw f b y J λi hi=>by rw [<- S i hi,<- I i hi];rfl
  refine⟨some x,e,λx' e'=>?_,λz=>by cases z⟩;cases e';exact⟨h1,λi hi=>by rw [S i hi];exact h2 i hi⟩
 ·obtain⟨r,B,l,s,hb,a2,hs,s1,s2,U⟩:=vy O Q hw f b
  have Y:s<r:=by
   refine zhV λY=>I ?_;have er:s=r:=by omega
   subst er;refine⟨J6 w B l s,λi hi=>?_⟩;have co:=yq hb ((a2 (aug w f b i)).mpr (.gen ⟨i,hi,rfl⟩)) w ⋯;have a4:aug w f b i w=b i:=by simp [aug]
   rw [a4]at co;rw [co];congr 1;unfold app J6;rw [zn (g:=λj=>sumTo (λk=>f i j*(if l k=j then B k w else 0)) s) λj _=>(jo _ _ _).symm,j7];refine zn λk Z=>?_;rw [zR (i:=l k) (s1 k Z) λj hj a5=>by rw [if_neg (zhO a5)];simp,if_pos rfl];simp only [aug,if_pos (s1 k Z)]
  rw [if_pos Y]at U;exact⟨none,U,nofun,λ_=>I⟩
section
variable{wd:Nat->Nat}{m k:Nat}{p:Int}{w:Nat->Bool}{T:Nat->Nat->Nat->Int}
def nl1:CO Fl:=(sIf (sB (zu dEq (sIx (zf 1) (zg (.int 0))) (zg (.str "l")))) (jR (zq xP (za (zc 0) (za (sIx (zf 1) (zg (.int 1))) (za (zc 2) zo))))) j4)
def nl2:CO Fl:=(zQ 3 (zq F_led (za (zc 0) (za (sIx (zf 1) (zg (.int 1))) (za (zc 2) zo)))))
def nl3:CO Fl:=(jR (Zp (sB (zag (zf 3))) (zc 3) (zg .non)))
theorem Wh:qc=z5 4 (zI nl1 (zI nl2 nl3)):=rfl
theorem w9(b:Bool):dEq (.str (qv (wch b))) (.str "l")=some (.bl b):=by cases b<;>kernel_rfl
theorem ZP(I:Pr p)(a0 : ∀k,wd k<=8)(hT : ∀i j,i<hiW w wd k->j<wiW w wd k->0<=T k i j/\T k i j<p)(u:Vc)(hu : ∀i,i<wd k->0<=u i/\u i<p) :
 ∃o:Option Vc,qc [.int p,qC w wd T k,.tup (zz (wd k) u)]=some (.val (oD (wd (k+1)) o))/\(∀y,o=some y->∀c,c<wd (k+1)->0<=y c/\y c<p)/\
  (w k=false->(o=none->∀c,c<wd (k+1)->app (T k) (wd k) u c%p=0)/\∀y,o=some y->(∀c,c<wd (k+1)->app (T k) (wd k) u c%p=y c%p)/\∃c,c<wd (k+1)/\y c%p≠0)/\
  (w k=true->(o=none->¬∃y:Vc,∀c,c<wd k->app (T k) (wd (k+1)) y c%p=u c%p)/\∀y,o=some y->∀c,c<wd k->app (T k) (wd (k+1)) y c%p=u c%p):=by
 have hl:=jf;have p7:=I.le;have hk:=a0 k;have a8:=a0 (k+1);rw [Wh];cases hw:w k with
 | true=>
  have e1:hiW w wd k=wd k:=by unfold hiW;rw [hw];rfl
  have J:wiW w wd k=wd (k+1):=by unfold wiW;rw [hw];rfl
  obtain⟨o,eo,h1,h2⟩:=Xm I (h:=wd k) (w:=wd (k+1)) ⋯ ⋯ (T k) u hu;refine⟨o,?_,λy e c _=>(h1 y e).1 c,nofun,λ_=>⟨h2,λy e=>(h1 y e).2⟩⟩;refine jN ?_;have O:=w9 true;have es:nl1 (zV 4 [.int p,qC w wd T k,.tup (zz (wd k) u)])=some (.ret (.val (oD (wd (k+1)) o))):=by
   simp [nl1,zV,zg2,qT,hw,O,e1,J,eo]
  rw [zO,es];rfl
 | false=>
  have e1:hiW w wd k=wd (k+1):=by unfold hiW;rw [hw];rfl
  have J:wiW w wd k=wd k:=by unfold wiW;rw [hw];rfl
  rw [e1,J]at hT;have S:=Zm (p:=p) (h:=wd (k+1)) (w:=wd k) .T (T k) u I.pos ⋯ ⋯ λi j hi hj=>by have:=hT i j hi hj;omega
  simp only [dsq]at S;have O:=w9 false;have tv:=Qi (λi=>sumTo (λj=>T k i j*u j) (wd k)%p) (wd (k+1));by_cases Q : ∃c,c<wd (k+1)/\sumTo (λj=>T k c j*u j) (wd k)%p≠0
  ·refine⟨some λi=>sumTo (λj=>T k i j*u j) (wd k)%p,?_,(λy e c _=>by cases e;exact⟨zhM _ (by have:=I.pos;omega),zht _ I.pos⟩),λ_=>⟨nofun,(λy e=>by cases e;exact⟨(λc _=>by rw [zhs];rfl),(by obtain⟨c,h1,h2⟩:=Q;exact⟨c,h1,(by rw [zhs];exact h2)⟩)⟩)⟩,nofun⟩
   refine jN (zC (γ':=[.val (.int p),.val (qC w wd T k),.val (.tup (zz (wd k) u)),.no]) ?_ (zC (γ':=[.val (.int p),.val (qC w wd T k),.val (.tup (zz (wd k) u)),.val (.tup (zz (wd (k+1)) λi=>sumTo (λj=>T k i j*u j) (wd k)%p))]) ?_ ?_))
   ·simp [nl1,zV,zg2,qT,hw,O]
   ·simp [nl2,qT,e1,J,S]
   ·have U:(zgX (wd (k+1))).any (λi=>(sumTo (λj=>T k i j*u j) (wd k)%p) != 0)=true:=by
     obtain⟨c,h1,h2⟩:=Q;exact List.any_eq_true.mpr ⟨c,zgZ.mpr h1,by simpa using h2⟩
    have Y:zag (zf 3) [.val (.int p),.val (qC w wd T k),.val (.tup (zz (wd k) u)),.val (.tup (zz (wd (k+1)) λi=>sumTo (λj=>T k i j*u j) (wd k)%p))]=some (.bl true):=by
     show((yL _).map λs=>D.bl (s.any id))=_;rw [tv];show some (D.bl (((zgX (wd (k+1))).map λi=>(sumTo (λj=>T k i j*u j) (wd k)%p) != 0).any id))=_;rw [List.any_map];rw [show(id∘λi=>(sumTo (λj=>T k i j*u j) (wd k)%p) != 0)=λi=>(sumTo (λj=>T k i j*u j) (wd k)%p) != 0 from rfl,U]
    unfold nl3;simp only [zaG,zaH,zgq,Y];rfl
  ·refine⟨none,?_,nofun,λ_=>⟨λ_ c Z=>zhV λz=>Q ⟨c,Z,z⟩,nofun⟩,nofun⟩
   refine jN (zC (γ':=[.val (.int p),.val (qC w wd T k),.val (.tup (zz (wd k) u)),.no]) ?_ (zC (γ':=[.val (.int p),.val (qC w wd T k),.val (.tup (zz (wd k) u)),.val (.tup (zz (wd (k+1)) λi=>sumTo (λj=>T k i j*u j) (wd k)%p))]) ?_ ?_))
   ·simp [nl1,zV,zg2,qT,hw,O]
   ·simp [nl2,qT,e1,J,S]
   ·have U:(zgX (wd (k+1))).any (λi=>(sumTo (λj=>T k i j*u j) (wd k)%p) != 0)=false:=zjm.mpr λc Z z=>Q ⟨c,zgZ.mp Z,by simpa using z⟩
    have Y:zag (zf 3) [.val (.int p),.val (qC w wd T k),.val (.tup (zz (wd k) u)),.val (.tup (zz (wd (k+1)) λi=>sumTo (λj=>T k i j*u j) (wd k)%p))]=some (.bl false):=by
     show((yL _).map λs=>D.bl (s.any id))=_;rw [tv];show some (D.bl (((zgX (wd (k+1))).map λi=>(sumTo (λj=>T k i j*u j) (wd k)%p) != 0).any id))=_;rw [List.any_map];rw [show(id∘λi=>(sumTo (λj=>T k i j*u j) (wd k)%p) != 0)=λi=>(sumTo (λj=>T k i j*u j) (wd k)%p) != 0 from rfl,U]
    unfold nl3;simp only [zaG,zaH,zgq,Y];rfl
end
section
variable{wd:Nat->Nat}{m k:Nat}{p:Int}{w:Nat->Bool}{T:Nat->Nat->Nat->Int}
theorem Wy{n:Nat}(h:1<=n):ixD n (-1)=some (n - 1):=by
 unfold ixD;rw [if_neg ⋯,if_pos ⋯];congr 1;omega
theorem Yg{b:Bar}(z:b.s+b.n=k+1)(y:Vc):qH wd (exB k b (some y))=qH wd b++[D.tup (zz (wd (k+1)) y)]:=by
 unfold qH exB;dsimp only;rw [zh5,zhG];congr 1
 ·refine zhi λi hi=>?_
  have hi:=zgZ.mp hi;rw [if_neg ⋯]
 ·simp [z]
def tk1:CO Fl:=(zQ 3 (zq qc (za (zc 0) (za (zc 1) (za (sIx (zA (sIx (zf 2) (zg (.int 1)))) (zed (zg (.int 1)))) zo)))))
def tk2:CO Fl:=(jR (Zp (sB (zu zeB (zc 3) (zg .non))) (zc 2) (jp (za (sIx (zf 2) (zg (.int 0))) (za (zu jq (sIx (zf 2) (zg (.int 1))) (jp (za (zc 3) zo))) zo)))))
theorem Kl:qU=z5 4 (zI tk1 tk2):=rfl
theorem VC{b:Bar}(h1:1<=b.n)(I:b.s+b.n=k+1)(U:k<=20){o:Option Vc}(e:qc [.int p,qC w wd T k,.tup (zz (wd k) (b.v k))]=some (.val (oD (wd (k+1)) o))) :
 qU [.int p,qC w wd T k,jF wd b]=some (.val (jF wd (exB k b o))):=by
 have Y:=jf;have J:=Wy h1;have z:=QG (wd:=wd) (b:=b) (i:=b.n - 1) ⋯;rw [show b.s+(b.n - 1)=k by omega]at z;have Z:b.n - 1<b.n:=by omega
 rw [Kl];refine jN (zC (γ':=[.val (.int p),.val (qC w wd T k),.val (jF wd b),.val (oD (wd (k+1)) o)]) ?_ ?_)
 ·unfold tk1
  have es:sIx (zA (sIx (zf 2) (zg (.int 1)))) (zed (zg (.int 1))) (zV 4 [.int p,qC w wd T k,jF wd b])=some (.tup (zz (wd k) (b.v k))):=by
   have O : ∀γ:Ctx,zed (zg (.int 1)) γ=some (.int (-1)):=λ_=>rfl;simp [zV,zg2,J,O];exact z
  simp only [Jh,yj,xh,kW,es];simp [zV,zg2,e]
 ·cases o with
  | none=>simp [tk2,oD,zeB,exB]
  | some y=>
   have Q:b.n+1<=lim:=by omega
   have S:=Yg (wd:=wd) I y;simp [tk2,oD,zeB,Q,jq];unfold jF;rw [S];rfl
def Vj(p:Int)(w:Nat->Bool)(wd:Nat->Nat)(T:Nat->Nat->Nat->Int)(k:Nat)(L:List Vc):Prop:=
 if w k=true then ∃q K l s,L=(zgX q).map K/\IsB p (wd (k+1)) q K l/\(∀v,Span p (wd (k+1)) (Fam q K) v↔Ker p (wd k) (wd (k+1)) (T k) v)/\Rk p (wd k) (wd (k+1)) (λj i=>T k i j) s/\q+s=wd (k+1)
 else ∃r B l,IsB p (wd (k+1)) r B l/\(∀v,Span p (wd (k+1)) (Fam r B) v↔Span p (wd (k+1)) (Fam (wd k) λj i=>T k i j) v)/\L=((zgX (wd (k+1))).filter λ(c:Nat)=> !decide ((c:Int)∈(zgX r).map λj=>((l j:Nat):Int))).map jn
def nw1:CO Fl:=(sIf (sB (zu dEq (sIx (zf 1) (zg (.int 0))) (zg (.str "l")))) (qW (zX xj (za (zc 0) (za (sIx (zf 1) (zg (.int 1))) zo)))) j4)
def nw2:CO Fl:=(zQ 2 (jk (zF (zD (jz (zX kq (za (zc 0) (za (sIx (zf 1) (zg (.int 1))) zo))))) (.nm 0) 1 [] ja (zq jJ (za (zc 0) zo)))))
def nw3:CO Fl:=(qW (zF (VN (sIx (zA (zq F_same_table (za (sIx (zA (sIx (zf 1) (zg (.int 1)))) (zg (.int 0))) zo))) (zg (.int 2)))) (.tp [0,1]) 2 [2] (sB (wH (zc 0) (zf 2))) (zc 1)))
theorem zbH:xi=z5 3 (zI nw1 (zI nw2 nw3)):=rfl
theorem wm(l:Nat->Nat) : ∀L:List Nat,Yu (L.map λj=>D.int ((l j:Nat):Int))=some (L.map λj=>((l j:Nat):Int))
 | []=>rfl
 | j::L=>by simp [Yu,wm l L]
theorem k8{n r:Nat}{B:Nat->Vc}{l:Nat->Nat}(z:IsB p n r B l):r<=n:=by
 have mono : ∀k,k<r->k<=l k:=by
  intro k
  induction k with
  | zero=>intro _;omega
  | succ k J=>intro O;have:=J ⋯;have:=z.mono k (k+1) ⋯ O;omega
 cases r with
 | zero=>omega
 | succ I=>have:=mono I ⋯;have:=z.lt I ⋯;omega
theorem YI(n:Nat):qM (zM n n λi j=>if i=j then 1 else 0)=(zgX n).map λ(i:Nat)=>D.tup [.int i,.tup (zz n (jn i))]:=by
 unfold qM zM;simp only [zhk,ziI];refine zhi λi hi=>?_;have hi:=zgZ.mp hi;simp [hi];rfl
theorem ZR(U:Pr p)(Y : ∀k,wd k<=8) : ∃L:List Vc,Vj p w wd T k L/\xi [.int p,qC w wd T k]=some (.own (L.map λy=>D.tup (zz (wd (k+1)) y))):=by
 have hl:=jf;have hk:=Y k;have ad:=Y (k+1);rw [zbH];unfold Vj;cases hw:w k with
 | true=>
  have e1:hiW w wd k=wd k:=by unfold hiW;rw [hw];rfl
  have J:wiW w wd k=wd (k+1):=by unfold wiW;rw [hw];rfl
  obtain⟨q,K,l,s,e,z,O,Z,a0⟩:=qB U (h:=wd k) (w:=wd (k+1)) ⋯ ⋯ (T k);refine⟨(zgX q).map K,by rw [if_pos rfl];exact⟨q,K,l,s,rfl,z,O,Z,a0⟩,jN ?_⟩;have Q:=w9 true;have es:nw1 (zV 3 [.int p,qC w wd T k])=some (.ret (.own (zM q (wd (k+1)) K))):=by
   simp [nw1,zV,zg2,qT,hw,Q,e1,J,e]
  rw [zO,es,zhU];rfl
 | false=>
  have e1:hiW w wd k=wd (k+1):=by unfold hiW;rw [hw];rfl
  have J:wiW w wd k=wd k:=by unfold wiW;rw [hw];rfl
  obtain⟨r,B,l,e,z,O⟩:=wy U (h:=wd (k+1)) (w:=wd k) ⋯ ⋯ (T k);have rn:=k8 z;have a4:r<=lim:=by omega
  have S:wd (k+1)<=lim:=by omega
  refine⟨_,by rw [if_neg ⋯];exact⟨r,B,l,z,O,rfl⟩,?_⟩;have Q:=w9 false;have e4:zL (.nm 0) ja (zq jJ (za (zc 0) zo)) [.no] (zM r (wd (k+1)) B)=some ((zgX r).map λj=>D.int ((l j:Nat):Int)):=by
   unfold zM;refine zv _ _ λj I=>zw rfl rfl ?_;have I:=zgZ.mp I;have e:=xF S (B j) (z.lt j I) (λi hi=>z.bef j i I hi) (by rw [z.one j I];decide);simp [e]
  have e5:zL (.tp [0,1]) (sB (wH (zc 0) (zf 2))) (zc 1) [.no,.no,.val (.lst ((zgX r).map λj=>D.int ((l j:Nat):Int)))] ((zgX (wd (k+1))).map λ(i:Nat)=>D.tup [.int i,.tup (zz (wd (k+1)) (jn i))]) =
   some (((zgX (wd (k+1))).filter λ(c:Nat)=> !decide ((c:Int)∈(zgX r).map λj=>((l j:Nat):Int))).map λ(i:Nat)=>D.tup (zz (wd (k+1)) (jn i))):=by
   refine zY (λ(c:Nat)=> !decide ((c:Int)∈(zgX r).map λj=>((l j:Nat):Int))) (λ(i:Nat)=>D.tup (zz (wd (k+1)) (jn i))) _ λi hi=>⟨_,rfl,?_,λ_=>rfl⟩;have im:=wm l (zgX r);show(wH (zc 0) (zf 2) [.val (.int i),_,.val (.lst ((zgX r).map λj=>D.int ((l j:Nat):Int)))]).bind asB=_;show((Yu ((zgX r).map λj=>D.int ((l j:Nat):Int))).map λl=>D.bl (!decide ((i:Int)∈l))).bind asB=_;rw [im];rfl
  have es:=xC (n:=wd (k+1)) S;refine jN (zC (γ':=[.val (.int p),.val (qC w wd T k),.no]) ?_ (zC (γ':=[.val (.int p),.val (qC w wd T k),.val (.lst ((zgX r).map λj=>D.int ((l j:Nat):Int)))]) ?_ ?_))
  ·simp [nw1,zV,zg2,qT,hw,Q]
  ·simp [nw2,z6,qT,e1,J,e,a4,e4]
  ·have a1:jw (jV (hiW w wd k) (wiW w wd k) (T k))=some (.T,[.int (wd (k+1):Nat),.int (wd k:Nat),.tup (zM (wd (k+1)) (wd k) (T k))]):=by rw [e1,J];rfl
   have a2:jw (jV (wd (k+1)) (wd (k+1)) λi j=>if i=j then 1 else 0)=some (.T,[.int (wd (k+1):Nat),.int (wd (k+1):Nat),.tup (zM (wd (k+1)) (wd (k+1)) λi j=>if i=j then 1 else 0)]):=rfl;have a3:=YI (wd (k+1));simp [nw3,z6,qT,a1,es,a2,a3,S];rw [e5];exact congrArg some (congrArg (List.map _) (zkz λc _=>by simp))
end
section
variable{wd:Nat->Nat}{m k r N:Nat}{p:Int}{w:Nat->Bool}{T:Nat->Nat->Nat->Int}{B:Nat->Vc}{l:Nat->Nat}{A:Nat->Bar}
theorem zaA(I:IsB p N r B l){j:Nat}(z:j<r):ldx r l (l j)=some j:=by
 cases h:ldx r l (l j)with
 | none=>exact absurd rfl (yw h j z)
 | some i=>
  obtain⟨h1,h2⟩:=qf h;rw [QE I.mono h1 z h2]
theorem JN{a b:List Nat}(ha:a.Nodup)(z:b.Nodup)(h : ∀x,x∈a↔x∈b):a.length=b.length:=((List.perm_ext_iff_of_nodup ha z).mpr h).length_eq
theorem Zb(z:IsB p N r B l):(zgX N).countP (λi=>(ldx r l i).isSome)=r:=by
 rw [zhB];have e:((zgX N).filter λi=>(ldx r l i).isSome).length=((zgX r).map l).length:=by
  refine JN (zkG.sublist zko) ?_ λx=>?_
  ·rw [zjF,zi1]
   refine ziY (λ{a b} ha I h=>?_) (zjj (n:=r));have:=z.mono a b h (zgZ.mp I);omega
  ·rw [zhm,zhr]
   constructor
   ·rintro⟨h1,h2⟩
    obtain⟨j,J⟩:=zim.mp h2;obtain⟨O,Q⟩:=qf J;exact⟨j,zgZ.mpr O,Q⟩
   ·rintro⟨j,h1,h2⟩
    have h1:=zgZ.mp h1;subst h2;exact⟨zgZ.mpr (z.lt j h1),by rw [zaA z h1];rfl⟩
 rw [e];simp
theorem Y0(q:Nat->Bool)(N:Nat):(zgX N).countP q+(zgX N).countP (λi=> !q i)=N:=by
 have:=zkw q (l:=zgX N);rw [ziI]at this;rw [this];congr 1
 ·rw [<- this]
 ·rw [<- this]
  exact zic λi _=>by simp
theorem zfk(z : ∀j,j<N->(A j).has k=true)(t:Vc)(c:Nat):mxV p A N t k c%p=app (λi j=>(A j).v k i) N t c%p:=by
 unfold mxV app;rw [zhs];congr 1;exact zn λj I=>by rw [if_pos (z j I),zix]
theorem k7(z : ∀j,j<N->(A j).has k=true){i j:Nat}(h:ldx r l i=some j)(c:Nat):(stB p A N r B l i).v k c%p=app (λi j=>(A j).v k i) N (B j) c%p:=by
 unfold stB;rw [h];exact zfk z (B j) c
theorem wE{i:Nat}(h:ldx r l i=none):stB p A N r B l i=A i:=by unfold stB;rw [h]
theorem XS(hp:Pr p)(a1 : ∀k,wd k<=8)(hk : ∀j,j<wd k->(A j).has k=true)(hs : ∀v:Vc,∃t,∀i,i<wd k->v i%p=app (λi j=>(A j).v k i) (wd k) t i%p)
 (Y:IsB p (wd k) r B l) (hW : ∀t,Span p (wd k) (Fam r B) t↔Spec p w wd T k (app (λi j=>(A j).v k i) (wd k) t)) {U:List Vc} (O:Vj p w wd T k U) {nx:Nat->Option Vc}
 (hr : ∀i,i<wd k->w k=false->(nx i=none->∀c,c<wd (k+1)->app (T k) (wd k) ((stB p A (wd k) r B l i).v k) c%p=0)/\∀y,nx i=some y->(∀c,c<wd (k+1)->app (T k) (wd k) ((stB p A (wd k) r B l i).v k) c%p=y c%p)/\∃c,c<wd (k+1)/\y c%p≠0)
 (hl : ∀i,i<wd k->w k=true->(nx i=none->¬∃y:Vc,∀c,c<wd k->app (T k) (wd (k+1)) y c%p=(stB p A (wd k) r B l i).v k c%p)/\∀y,nx i=some y->∀c,c<wd k->app (T k) (wd (k+1)) y c%p=(stB p A (wd k) r B l i).v k c%p) :
 (∀y,y∈U->∀c,c<wd (k+1)->0<=y c/\y c<p)/\(∀y,y∈U->w k=true->∀c,c<wd k->app (T k) (wd (k+1)) y c%p=0)/\
   (∀v,Span p (wd (k+1)) (λg=>(∃i,i<wd k/\nx i=some g)\/g∈U) v)/\(zgX (wd k)).countP (λi=>(nx i).isSome)+U.length=wd (k+1):=by
 have two:=hp.two;cases hw:w k with
 | false=>
  have a6 : ∀t,Span p (wd k) (Fam r B) t↔Ker p (wd (k+1)) (wd k) (T k) (app (λi j=>(A j).v k i) (wd k) t):=λt=>by
   have:=hW t;unfold Spec at this;rw [hw,if_neg ⋯]at this;exact this
  unfold Vj at O;rw [hw,if_neg ⋯]at O;obtain⟨r2,B2,l2,ad,hI,Q⟩:=O;obtain⟨g1,g2,g3,g4⟩:=zcF hp (a1 k) (a1 (k+1)) hs Y a6 ad hI;have ai : ∀c,c<wd (k+1)->(∀j,j<r2->l2 j≠c)->jn c∈U:=λc J O=>by
   rw [Q];refine zhr.mpr ⟨c,zhm.mpr ⟨zgZ.mpr J,?_⟩,rfl⟩;simp only [ziL,decide_eq_false_iff_not,zhr,zgZ];rintro⟨j,h1,h2⟩;exact O j h1 ⋯
  have Z : ∀i,i<wd k->(nx i).isSome=(ldx r l i).isNone:=λi hi=>by
   cases hx:ldx r l i with
   | none=>
    obtain⟨c,h1,h2⟩:=g2 i hi (yw hx);cases I:nx i with
    | some y=>rfl
    | none=>
     have:=(hr i hi hw).1 I c h1;rw [wE hx]at this;exact absurd this h2
   | some j=>
    obtain⟨h1,h2⟩:=qf hx;cases I:nx i with
    | none=>rfl
    | some y=>
     obtain⟨e,c,h3,h4⟩:=(hr i hi hw).2 y I;have z:=g1 j h1 c h3;rw [<- jH (λa _=>k7 (B:=B) (r:=r) (l:=l) hk hx a) c,e c h3]at z;exact absurd z h4
  refine⟨λy I c J=>?_,(λy I z=>by cases z),λv=>g4 _ (λc J a9=>?_) (λc J a9=> .gen (.inr (ai c J a9))) v,?_⟩
  ·rw [Q]at I
   obtain⟨i,_,rfl⟩:=zhr.mp I;unfold jn;split<;>omega
  ·have hx:ldx r l c=none:=by
    cases hx:ldx r l c with
    | none=>rfl
    | some j=>exact absurd (qf hx).2 (a9 j (qf hx).1)
   have a0:=Z c J;rw [hx]at a0;obtain⟨y,I⟩:=zim.mp a0;refine(Span.gen (.inl ⟨c,J,I⟩)).congr λi hi=>?_;have:=((hr c J hw).2 y I).1 i hi;rw [wE hx]at this;exact this
  ·have e1:(zgX (wd k)).countP (λi=>(nx i).isSome)=(zgX (wd k)).countP λi=> !(ldx r l i).isSome:=zic λi hi=>by
    rw [Z i (zgZ.mp hi)];cases ldx r l i<;>simp
   have e2:=Y0 (λi=>(ldx r l i).isSome) (wd k);rw [Zb Y]at e2;have e3:=Y0 (λi=>(ldx r2 l2 i).isSome) (wd (k+1));rw [Zb ad]at e3;have e4:U.length=(zgX (wd (k+1))).countP λi=> !(ldx r2 l2 i).isSome:=by
    rw [Q,zhk,<- zhB];refine zic λi hi=>?_;cases hx:ldx r2 l2 i with
    | none=>
     have:=yw hx;simp only [ziL,decide_eq_false_iff_not,zhr,zgZ];constructor
     ·intro _;rfl
     ·rintro _ ⟨j,h1,h2⟩
      exact this j h1 ⋯
    | some j=>
     obtain⟨h1,h2⟩:=qf hx;simp only [ziL,decide_eq_false_iff_not,zhr,zgZ];constructor
     ·intro z;exact absurd ⟨j,h1,by rw [h2]⟩ z
     ·intro z;cases z
   rw [e1,e4];omega
 | true=>
  have a6 : ∀t,Span p (wd k) (Fam r B) t↔Span p (wd k) (Fam (wd (k+1)) λj i=>T k i j) (app (λi j=>(A j).v k i) (wd k) t):=λt=>by
   have:=hW t;unfold Spec at this;rw [hw,if_pos rfl]at this;exact this
  unfold Vj at O;rw [hw,if_pos rfl]at O;obtain⟨q,K,lK,s,Q,an,af,ao,ap⟩:=O;obtain⟨g1,g2,g3,g4⟩:=zcG hp (a1 k) (a1 (k+1)) hs Y a6 af ao ap;have Z : ∀i,i<wd k->(nx i).isSome=(ldx r l i).isSome:=λi hi=>by
   cases hx:ldx r l i with
   | none=>
    cases I:nx i with
    | none=>rfl
    | some y=>
     have:=(hl i hi hw).2 y I;rw [wE hx]at this;exact absurd ⟨y,this⟩ (g2 i hi (yw hx))
   | some j=>
    obtain⟨h1,h2⟩:=qf hx;cases I:nx i with
    | some y=>rfl
    | none=>
     obtain⟨y,aq⟩:=g1 j h1;exact absurd ⟨y,λc J=>by rw [aq c J,k7 hk hx c]⟩ ((hl i hi hw).1 I)
  refine⟨λy I c J=>?_,λy I _ c J=>?_,λv=>g4 _ (λj=>(nx (l j)).getD λ_=>0) (λj S=>?_) (λj S=>?_) v,?_⟩
  ·rw [Q]at I
   obtain⟨j,S,rfl⟩:=zhr.mp I;exact an.rng j c (zgZ.mp S) J
  ·rw [Q]at I
   obtain⟨j,S,rfl⟩:=zhr.mp I;exact(af (K j)).mp (.gen ⟨j,zgZ.mp S,rfl⟩) c J
  ·have hx:=zaA Y S
   have aa:=Y.lt j S;have a0:=Z (l j) aa;rw [hx]at a0;obtain⟨y,I⟩:=zim.mp a0;rw [I];refine⟨.gen (.inl ⟨l j,aa,I⟩),λc J=>?_⟩;have:=(hl (l j) aa hw).2 y I c J;rw [k7 hk hx c]at this;exact this
  ·refine .gen (.inr ?_)
   rw [Q];exact zhr.mpr ⟨j,zgZ.mpr S,rfl⟩
  ·have e1:(zgX (wd k)).countP (λi=>(nx i).isSome)=(zgX (wd k)).countP λi=>(ldx r l i).isSome:=zic λi hi=>by
    rw [Z i (zgZ.mp hi)]
   rw [e1,Zb Y,Q,zhk,ziI];omega
end
section
variable{wd:Nat->Nat}{m k:Nat}{p:Int}{w:Nat->Bool}{T:Nat->Nat->Nat->Int}
def gr1:CO Fl:=(zQ 3 (sIx (zf 0) (zg (.int 0))))
def gr2:CO Fl:=(zQ 4 (sIx (zA (sIx (zf 0) (zg (.int 2)))) (zc 1)))
def gr3:CO Fl:=(zQ 5 (jk (zF (zD (zf 2)) (.nm 0) 1 [1] (xl (sB (zq jm (za (zc 0) (za (zc 1) zo))))) (zc 0))))
def gr4:CO Fl:=(zQ 6 (jk (zX kZ (za (zc 0) (za (zc 1) (za (jk (zF (zD (zf 2)) (.nm 0) 1 [1] (sB (zq jm (za (zc 0) (za (zc 1) zo)))) (zc 0))) zo))))))
def gr5:CO Fl:=(zQ 7 (jk (zF (zD (zf 6)) (.nm 0) 1 [3,4] ja (zq qU (za (zc 1) (za (zc 2) (za (zc 0) zo)))))))
def gr6:CO Fl:=(zQ 8 (jk (zF (zD (jz (zX xi (za (zc 3) (za (zc 4) zo))))) (.nm 0) 1 [1] ja (jp (za (zu jq (zc 1) (zg (.int 1))) (za (jp (za (zc 0) zo)) zo))))))
def gr7:CO Fl:=(jR (jk (kA (zf 5) (zA (Zp (sB (zu dEq (sIx (zf 4) (zg (.int 0))) (zg (.str "r")))) (jk (kA (zf 8) (zf 7))) (jk (kA (zf 7) (zf 8))))))))
theorem YA:vA=z5 9 (zI gr1 (zI gr2 (zI gr3 (zI gr4 (zI gr5 (zI gr6 gr7)))))):=rfl
theorem zfh(y:Vc):jF wd (nuB k y) = .tup [.int ((k:Int)+1),.tup [.tup (zz (wd (k+1)) y)]]:=by
 unfold jF nuB qH;simp
theorem WD(Y:Pr p)(J : ∀k,wd k<=8)(hm:m<=5)(a8:k<m)(hT : ∀i j,i<hiW w wd k->j<wiW w wd k->0<=T k i j/\T k i j<p){bars:List Bar}(I:BrInv p w wd T k bars)(ag:bars.length<=100) :
 ∃a2,BrInv p w wd T (k+1) a2/\a2.length<=bars.length+8/\vA [jO p m w wd T,.int k,.lst (bars.map (jF wd))]=some (.val (.lst (a2.map (jF wd)))):=by
 have hl:=jf;have p0:=Y.pos;have aa:bars.length<=lim:=by omega
 have a3:(bars.filter λb=>b.has k).length=wd k:=by rw [<- zhB];exact I.ct k (zg3 _)
 let A:Nat->Bar:=λj=>(bars.filter λb=>b.has k).getD j Kb;have eA:(bars.filter λb=>b.has k)=(zgX (wd k)).map A:=by
  rw [<- a3];exact(jP Kb _).symm
 have mA : ∀j,j<wd k->A j∈bars/\(A j).has k=true:=λj O=>by
  have:A j∈bars.filter λb=>b.has k:=by
   show(bars.filter λb=>b.has k).getD j Kb∈_;rw [zg4,zg0 ⋯];exact zis _
  have:=zhm.mp this;exact⟨this.1,by simpa using this.2⟩
 have a4 : ∀j,j<wd k->BarOk p w wd T k (A j):=λj O=>I.ok _ (mA j O).1;have hO : ∀i c,i<c->c<wd k->Ord w (A i) (A c):=λi c h1 h2=>by
  have:=ziF.mp I.od i c ⋯ ⋯ h1;show Ord w ((bars.filter λb=>b.has k).getD i Kb) ((bars.filter λb=>b.has k).getD c Kb);rw [zg4,zg0 ⋯,zg4,zg0 ⋯];exact this
 have a1 : ∀j,j<wd k->(A j).has k=true:=λj O=>(mA j O).2;obtain⟨r,B,l,hB,hW,eS⟩:=Xo (T:=T) (w:=w) (A:=A) (N:=wd k) (k:=k) Y (λj O=>by have:=(a4 j O).le;omega) a1 a8 (J k) hm J λj rm i O hh hi=>(a4 j O).rng rm i hh hi;have okS : ∀i,i<wd k->BarOk p w wd T k (stB p A (wd k) r B l i):=λi hi=>zac p0 hB a4 a1 hO hi;have ac : ∀i,i<wd k->(stB p A (wd k) r B l i).has k=true:=λi hi=>by rw [Jr];exact a1 i hi
 have ex : ∀i,∃o:Option Vc,i<wd k->(qc [.int p,qC w wd T k,.tup (zz (wd k) ((stB p A (wd k) r B l i).v k))]=some (.val (oD (wd (k+1)) o))/\(∀y,o=some y->∀c,c<wd (k+1)->0<=y c/\y c<p)/\
  (w k=false->(o=none->∀c,c<wd (k+1)->app (T k) (wd k) ((stB p A (wd k) r B l i).v k) c%p=0)/\∀y,o=some y->(∀c,c<wd (k+1)->app (T k) (wd k) ((stB p A (wd k) r B l i).v k) c%p=y c%p)/\∃c,c<wd (k+1)/\y c%p≠0)/\
  (w k=true->(o=none->¬∃y:Vc,∀c,c<wd k->app (T k) (wd (k+1)) y c%p=(stB p A (wd k) r B l i).v k c%p)/\∀y,o=some y->∀c,c<wd k->app (T k) (wd (k+1)) y c%p=(stB p A (wd k) r B l i).v k c%p)):=λi=>by
  by_cases hi:i<wd k
  ·obtain⟨o,h⟩:=ZP (T:=T) (w:=w) (k:=k) Y J hT ((stB p A (wd k) r B l i).v k) λc hc=>(okS i hi).rng k c (ac i hi) hc
   exact⟨o,λ_=>h⟩
  ·exact⟨none,λz=>absurd z hi⟩
 obtain⟨nx,S⟩:=zjN ex;obtain⟨Q,hN,eN⟩:=ZR (T:=T) (w:=w) (k:=k) Y J;have hs : ∀v:Vc,∃t,∀i,i<wd k->v i%p=app (λi j=>(A j).v k i) (wd k) t i%p:=λv=>by
  have hv:Span p (wd k) (Fam (wd k) λj=>(A j).v k) v:=(I.sp k (zg3 _) v).le λg hg=>by
   obtain⟨b,h1,h2,rfl⟩:=hg;have ad:b∈bars.filter λb=>b.has k:=zhm.mpr ⟨h1,by simpa using h2⟩;rw [eA]at ad;obtain⟨j,O,rfl⟩:=zhr.mp ad;exact .gen ⟨j,zgZ.mp O,rfl⟩
  obtain⟨t,ht⟩:=yO hv;exact⟨t,λi hi=>by rw [ht i hi];unfold app;rw [j9]⟩
 obtain⟨f1,f2,f3,f4⟩:=XS (T:=T) (w:=w) (A:=A) Y J a1 hs hB hW hN (nx:=nx) (λi hi=>(S i hi).2.2.1) λi hi=>(S i hi).2.2.2;refine⟨xZ p k w bars A (wd k) r B l nx Q,Yz p0 I a3 (λ_=>rfl) hB (λi y hi e=>(S i hi).2.1 y e) f1 (λi hi e hw=>((S i hi).2.2.1 hw).1 e) (λi y hi e hw=>(((S i hi).2.2.1 hw).2 y e).1) (λi y hi e hw=>((S i hi).2.2.2 hw).2 y e) f2 f3 f4,?_,?_⟩
 ·have h1:(bars.filter λb=> !b.has k).length+wd k=bars.length:=by
   have:=zkw (λb:Bar=>b.has k) (l:=bars);rw [<- a3,<- zhB,<- zhB,this];have e:bars.countP (λb=> !b.has k)=bars.countP λb=>decide (¬b.has k=true):=zic λb _=>by simp
   rw [e];omega
  have h2:=J (k+1);unfold xZ;rw [zh3];cases w k<;>simp<;>omega
 ·
  let L:D:= .lst (bars.map (jF wd));have e3:zL (.nm 0) (xl (sB (zq jm (za (zc 0) (za (zc 1) zo))))) (zc 0) [.no,.val (.int k)] (bars.map (jF wd))=some ((bars.filter λb=> !b.has k).map (jF wd)):=by
   refine zY (g:=jF wd) (λb=> !b.has k) (jF wd) bars λb hb=>⟨[.val (jF wd b),.val (.int k)],rfl,?_,λ_=>by rfl⟩;have e:=qZ (wd:=wd) (b:=b) (by have:=(I.ok b hb).le;omega) k;simp [e]
  have e4:zL (.nm 0) (sB (zq jm (za (zc 0) (za (zc 1) zo)))) (zc 0) [.no,.val (.int k)] (bars.map (jF wd))=some ((zgX (wd k)).map λj=>jF wd (A j)):=by
   have:((bars.filter λb=>b.has k).map (jF wd))=(zgX (wd k)).map λj=>jF wd (A j):=by rw [eA,zhU];rfl
   rw [<- this];refine zY (g:=jF wd) (λb=>b.has k) (jF wd) bars λb hb=>⟨[.val (jF wd b),.val (.int k)],rfl,?_,λ_=>by rfl⟩;have e:=qZ (wd:=wd) (b:=b) (by have:=(I.ok b hb).le;omega) k;simp [e]
  have e5:zL (.nm 0) ja (zq qU (za (zc 1) (za (zc 2) (za (zc 0) zo)))) [.no,.val (.int p),.val (qC w wd T k)] ((zgX (wd k)).map λi=>jF wd (stB p A (wd k) r B l i))=some ((zgX (wd k)).map λi=>jF wd (exB k (stB p A (wd k) r B l i) (nx i))):=by
   refine zv _ _ λi hi=>zw rfl rfl ?_;have hi:=zgZ.mp hi;have h1:=has_iff.mp (ac i hi);have e:=VC (p:=p) (okS i hi).n1 (by have:=(okS i hi).le;omega) (show k<=20 by omega) (S i hi).1;simp [e]
  have e6:zL (.nm 0) ja (jp (za (zu jq (zc 1) (zg (.int 1))) (za (jp (za (zc 0) zo)) zo))) [.no,.val (.int k)] (Q.map λy=>D.tup (zz (wd (k+1)) y))=some ((Q.map (nuB k)).map (jF wd)):=by
   rw [zhU];refine zv _ _ λy hy=>zw rfl rfl ?_;show _=some (jF wd (nuB k y));rw [zfh];rfl
  have b9:Q.length<=lim:=by have:=J (k+1);omega
  have ba:wd k<=lim:=by have:=J k;omega
  let U:D:= .lst ((bars.filter λb=> !b.has k).map (jF wd));let Z:D:= .lst ((zgX (wd k)).map λi=>jF wd (stB p A (wd k) r B l i));let Ol:D:= .lst ((zgX (wd k)).map λi=>jF wd (exB k (stB p A (wd k) r B l i) (nx i)));let Ne:D:= .lst ((Q.map (nuB k)).map (jF wd));rw [YA];refine jN (zC (γ':=[.val (jO p m w wd T),.val (.int k),.val L,.val (.int p),.no,.no,.no,.no,.no]) ?_
   (zC (γ':=[.val (jO p m w wd T),.val (.int k),.val L,.val (.int p),.val (qC w wd T k),.no,.no,.no,.no]) ?_
   (zC (γ':=[.val (jO p m w wd T),.val (.int k),.val L,.val (.int p),.val (qC w wd T k),.val U,.no,.no,.no]) ?_
   (zC (γ':=[.val (jO p m w wd T),.val (.int k),.val L,.val (.int p),.val (qC w wd T k),.val U,.val Z,.no,.no]) ?_
   (zC (γ':=[.val (jO p m w wd T),.val (.int k),.val L,.val (.int p),.val (qC w wd T k),.val U,.val Z,.val Ol,.no]) ?_
   (zC (γ':=[.val (jO p m w wd T),.val (.int k),.val L,.val (.int p),.val (qC w wd T k),.val U,.val Z,.val Ol,.val Ne]) ?_ ?_))))))
  ·simp [gr1,zV,zg2,qQ,L]
  ·simp [gr2,qQ,vm,a8]
  ·simp [gr3,z6,L,aa,e3,U]
  ·simp [gr4,z6,L,aa,e4,eS,Z]
  ·simp [gr5,z6,Z,ba,e5,Ol]
  ·simp [gr6,z6,eN,b9]
   rw [e6];simp [Ne]
  ·have bd:(bars.filter λb=> !b.has k).length<=100:=zh2 (List.length_filter_le _ _) ag
   have q1:=J k;have q2:=J (k+1);cases hw:w k with
   | false=>
    have eq:=w6 false;have h1:Q.length+wd k<=lim:=by omega
    have h2:(bars.filter λb=> !b.has k).length+(Q.length+wd k)<=lim:=by omega
    simp [gr7,qT,hw,eq,U,Ol,Ne,xZ,h1,h2]
   | true=>
    have eq:=w6 true;have h1:wd k+Q.length<=lim:=by omega
    have h2:(bars.filter λb=> !b.has k).length+(wd k+Q.length)<=lim:=by omega
    simp [gr7,qT,hw,eq,U,Ol,Ne,xZ,h1,h2]
end
section
variable{wd:Nat->Nat}{m k:Nat}{p:Int}{w:Nat->Bool}{T:Nat->Nat->Nat->Int}
def Vq(c:Nat):Bar:=⟨0,1,λ_=>jn c⟩
theorem zbT(Q:Pr p):BrInv p w wd T 0 ((zgX (wd 0)).map Vq):=by
 have two:=Q.two;have mem : ∀b,b∈(zgX (wd 0)).map Vq ↔ ∃c,c<wd 0/\b=Vq c:=λb=>by
  rw [zhr];exact⟨λ⟨c,h1,h2⟩=>⟨c,zgZ.mp h1,h2.symm⟩,λ⟨c,h1,h2⟩=>⟨c,zgZ.mpr h1,h2.symm⟩⟩
 have O : ∀c,(Vq c).has 0=true:=λc=>has_iff.mpr ⟨zg3 _,by show 0<0+1;omega⟩;refine⟨λb I=>?_,λr S v=>?_,λr S=>?_,?_⟩
 ·obtain⟨c,J,rfl⟩:=(mem b).mp I
  exact⟨zg3 _,by show 0+1<=0+1;omega,λr i _ _=>by show 0<=jn c i/\jn c i<p;unfold jn;split<;>omega,λj Y=>by omega⟩
 ·have:r=0:=by omega
  subst this;refine(Z1 (wd 0) v).le λg U=>?_;obtain⟨c,J,rfl⟩:=U;exact .gen ⟨Vq c,(mem _).mpr ⟨c,J,rfl⟩,O c,rfl⟩
 ·have:r=0:=by omega
  subst this;rw [List.countP_eq_length.mpr λb I=>?_]
  ·simp
  ·obtain⟨c,J,rfl⟩:=(mem b).mp I
   exact O c
 ·refine zjV _ ?_
  rw [zi1];exact ziF.mpr λ_ _ _ _ _=>⟨λz=>absurd z (zhC 0),λz=>absurd z (zhC 0)⟩
def ag1:CO Fl:=(zQ 1 (jk (zF (zD (zA (sIx (zA (zq F_same_table (za (sIx (zA (sIx (zf 0) (zg (.int 1)))) (zg (.int 0))) zo))) (zg (.int 2))))) (.nm 0) 1 [] ja (jp (za (zg (.int 0)) (za (jp (za (zc 0) zo)) zo))))))
def ag2:CO Fl:=(yk (ji (k4 (zA (sIx (zf 0) (zg (.int 2)))))) (.nm 2) (zQ 1 (zq vA (za (zc 0) (za (zc 2) (za (zc 1) zo))))))
def ag3:CO Fl:=(qW (Ky jI (zf 1)))
theorem Zj:vB=z5 3 (zI ag1 (zI ag2 ag3)):=rfl
def zfn(b:Bar):Int×Int:=((b.s:Int),((b.s+b.n - 1:Nat):Int))
theorem Ym : ∀bars:List Bar,(∀b,b∈bars->1<=b.n/\b.s+b.n<=100)->Yo jI (bars.map (jF wd))=some (bars.map zfn)
 | [],_=>rfl
 | b::bars,h=>by
  have h1:=h b zhj;have e:=Xj (wd:=wd) h1.1 h1.2;have z:=Ym bars λb I=>h b (zhg _ I);simp only [zhq,Yo,e,z,zg5];rfl
def Js(bars:List Bar):List Bar:=(JG (bars.map zfn)).map λi=>bars.getD i Kb
theorem Jk(z:Pr p)(J : ∀k,wd k<=8)(Y:m<=5)(Z : ∀k i j,k<m->i<hiW w wd k->j<wiW w wd k->0<=T k i j/\T k i j<p) :
 ∃bars,BrInv p w wd T m bars/\bars.length<=48/\vB [jO p m w wd T]=some (.own ((Js bars).map (jF wd))):=by
 have hl:=jf;have h0:=J 0;have O:wd 0<=lim:=by omega
 have es:=xC (n:=wd 0) O;have a2:jw (jV (wd 0) (wd 0) λi j=>if i=j then 1 else 0)=some (.T,[.int (wd 0:Nat),.int (wd 0:Nat),.tup (zM (wd 0) (wd 0) λi j=>if i=j then 1 else 0)]):=rfl;have e1:zL (.nm 0) ja (jp (za (zg (.int 0)) (za (jp (za (zc 0) zo)) zo))) [.no] (zM (wd 0) (wd 0) λi j=>if i=j then 1 else 0)=some (((zgX (wd 0)).map Vq).map (jF wd)):=by
  rw [zhU];unfold zM;refine zv _ _ λi hi=>zw rfl rfl ?_;show some _=some (jF wd (Vq i));unfold jF Vq qH;simp;rfl
 have x1:ag1 (zV 3 [jO p m w wd T])=some (.next [.val (jO p m w wd T),.val (.lst (((zgX (wd 0)).map Vq).map (jF wd))),.no]):=by
  simp [ag1,zV,zg2,qQ,es,a2,z6,O];rw [e1];simp
 obtain⟨γ',x2,bars,c,I,a3,rfl⟩:=XI (T:= .nm 2) (F:=zQ 1 (zq vA (za (zc 0) (za (zc 2) (za (zc 1) zo))))) (f:=k4 (zA (sIx (zf 0) (zg (.int 2)))))
  (λj γ=>∃bars c,BrInv p w wd T j bars/\bars.length<=8*(j+1)/\γ=[.val (jO p m w wd T),.val (.lst (bars.map (jF wd))),c]) m ⋯ (γ:=[.val (jO p m w wd T),.val (.lst (((zgX (wd 0)).map Vq).map (jF wd))),.no])
  (by simp [qQ]) ⟨_,_,zbT z,by simp;omega,rfl⟩ λs Q γ hγ=>by
    obtain⟨bars,c,I,a3,rfl⟩:=hγ;obtain⟨S,I',h',e⟩:=WD (T:=T) (w:=w) (k:=s) z J Y Q (Z s · · Q) I ⋯;refine⟨_,[.val (jO p m w wd T),.val (.lst (S.map (jF wd))),.val (.int s)],rfl,?_,S,_,I',by omega,rfl⟩;simp [e]
 refine⟨bars,I,by omega,?_⟩;have ek:=Ym (wd:=wd) bars λb U=>⟨(I.ok b U).n1,by have:=(I.ok b U).le;omega⟩;rw [Zj];refine jN (zC x1 (zC (show ag2 _=_ from x2) ?_));have a7:bars.length<64:=by omega
 unfold ag3;have e3:Ky jI (zf 1) [.val (jO p m w wd T),.val (.lst (bars.map (jF wd))),c]=some ((Js bars).map (jF wd)):=by
  show((Yo jI (bars.map (jF wd))).bind λps=>if (bars.map (jF wd)).length<64 then some ((JG ps).map λi=>(bars.map (jF wd)).getD i .non)else none)=_;rw [ek];simp only [zg5,zhk,a7,if_true];congr 1;unfold Js;rw [zhU];refine zhi λi hi=>?_;have h:=XC (bars.map zfn);have hi:=zgZ.mp (h.mem_iff.mp hi);rw [zhk]at hi;simp [hi]
 rw [Vh,e3];rfl
end
abbrev TB:=Nat×Nat×(Nat->Nat->Int)
section
variable{wd:Nat->Nat}{m k N:Nat}{p:Int}{w:Nat->Bool}{T:Nat->Nat->Nat->Int}{A:Nat->Bar}
def ixs(A:Nat->Bar)(N r:Nat):List Nat:=(zgX N).filter λj=>(A j).has r
def qi(A:Nat->Bar)(N r:Nat):Nat->Nat->Int:=λi j=>(A ((ixs A N r).getD j 0)).v r i
theorem Yr{r j:Nat}(h:j<(ixs A N r).length):(ixs A N r).getD j 0<N/\(A ((ixs A N r).getD j 0)).has r=true:=by
 have z:(ixs A N r).getD j 0∈ixs A N r:=by rw [zg4,zg0 h];exact zis _
 obtain⟨h1,h2⟩:=zhm.mp z;exact⟨zgZ.mp h1,by simpa using h2⟩
theorem Zs(I:Pr p){n:Nat}(S:n<=8){f:Nat->Nat->Int}(J : ∀v:Vc,∃t,∀i,i<n->v i%p=app f n t i%p) : ∃g:Nat->Nat->Int,zeL p n f g/\zeL p n g f/\∀i j,0<=g i j/\g i j<p:=by
 have U:=I.pos;obtain⟨t,O⟩:=zjN λj=>J (jn j);refine⟨λi j=>t j i%p,?_,?_,λi j=>⟨zhM _ ⋯,zht _ U⟩⟩
 ·intro i j hi Q
  have e:sumTo (λk=>f i k*(t j k%p)) n%p=app f n (t j) i%p:=zK λk _=>ZS p _ _;rw [e,<- O j i hi];unfold jn dlt;simp only [eq_comm]
 ·intro i j hi Q
  have z : ∀a,a<n->app f n (λb=>sumTo (λk=>(t k b%p)*f k j) n - jn j b) a%p=0:=λa ha=>by
   rw [vn,yG f Q,zio];have e:app f n (λb=>sumTo (λk=>(t k b%p)*f k j) n) a%p=f a j%p:=by
    have e1:app f n (λb=>sumTo (λk=>(t k b%p)*f k j) n) a=sumTo (λk=>f k j*app f n (λb=>t k b%p) a) n:=by
     rw [<- ko];congr 1;funext b;exact j9 ..
    rw [e1];have Y:sumTo (λk=>f k j*app f n (λb=>t k b%p) a) n%p=sumTo (λk=>f k j*jn k a) n%p:=zK λk _=>by
     rw [zg8,jH (u:=t k) (λb _=>zhs _ _) a,<- O k a ha,<- zg8]
    rw [Y,zR (f:=λk=>f k j*jn k a) ha λk _ Z=>by simp [jn,Z]];simp [jn]
   rw [e];simp
  have:=km I S J z i hi;have e3:(sumTo (λk=>(t k i%p)*f k j) n)%p=jn j i%p:=ziu.mpr this;show sumTo (λk=>(t k i%p)*f k j) n%p=dlt i j%p;rw [e3];unfold jn dlt;simp only [eq_comm]
end
section
variable{wd:Nat->Nat}{m k N:Nat}{p:Int}{w:Nat->Bool}{T:Nat->Nat->Nat->Int}{A:Nat->Bar}{g:Nat->Nat->Nat->Int}
theorem kJ(A N r):(ixs A N r).Nodup:=zkG.sublist zko
theorem wa{L:List Nat}(h:L.Nodup){a b:Nat}(ha:a<L.length)(z:b<L.length)(e:L.getD a 0=L.getD b 0):a=b:=by
 rw [zg4,zg4,zg0 ha,zg0 z]at e;exact(List.getElem_inj h).mp e
end
structure Decp(p:Int)(w:Nat->Bool)(wd:Nat->Nat)(T:Nat->Nat->Nat->Int)(m N:Nat)(A:Nat->Bar):Prop where
 ok : ∀j,j<N->BarOk p w wd T m (A j)
 sp : ∀r,r<=m->∀v:Vc,∃t:Vc,∀i,i<wd r->v i%p=sumTo (λj=>if (A j).has r=true then t j*(A j).v r i else 0) N%p
 inj : ∀r,r<=m->∀t:Vc,(∀i,i<wd r->sumTo (λj=>if (A j).has r=true then t j*(A j).v r i else 0) N%p=0)->∀j,j<N->(A j).has r=true->t j%p=0
 cnt : ∀r,r<=m->(ixs A N r).length=wd r
def Lk(p:Int)(w:Nat->Bool)(wd:Nat->Nat)(T:Nat->Nat->Nat->Int)(k:Nat)(y z:Vc):Prop:=
 if w k=true then ∀i,i<wd k->y i%p=app (T k) (wd (k+1)) z i%p else ∀i,i<wd (k+1)->z i%p=app (T k) (wd k) y i%p
def Wk(p:Int)(w:Nat->Bool)(wd:Nat->Nat)(T:Nat->Nat->Nat->Int)(d:Nat):Nat->Vc->Vc->Prop
 | 0,u,z=>∀i,i<wd d->u i%p=z i%p
 | n+1,u,z=>∃y,Wk p w wd T d n u y/\Lk p w wd T (d+n) y z
section
variable{p:Int}{w:Nat->Bool}{wd:Nat->Nat}{T:Nat->Nat->Nat->Int}{m N N':Nat}{A A':Nat->Bar}{d:Nat}
theorem JK{a b z I c:Int}(h1:a%p=b%p)(h2:z%p=I%p):(a+c*z)%p=(b+c*I)%p:=by
 rw [zhp,h1,zg8,h2,<- zg8,<- zhp]
theorem zeb{k:Nat}{y z I J:Vc}(c:Int)(h:Lk p w wd T k y z)(h':Lk p w wd T k I J):Lk p w wd T k (λi=>y i+c*I i) λi=>z i+c*J i:=by
 unfold Lk at *;split
 ·next hw=>
  rw [if_pos hw]at h h';intro i hi;rw [JK (h i hi) (h' i hi)];exact(vq (λ_ _=>rfl) i).symm
 ·next hw=>
  rw [if_neg hw]at h h';intro i hi;rw [JK (h i hi) (h' i hi)];exact(vq (λ_ _=>rfl) i).symm
theorem zaK : ∀(n:Nat) {u z u' I:Vc} (c:Int),Wk p w wd T d n u z->Wk p w wd T d n u' I->Wk p w wd T d n (λi=>u i+c*u' i) λi=>z i+c*I i
 | 0,u,z,u',I,c,h,h'=>λi hi=>JK (h i hi) (h' i hi)
 | n+1,u,z,u',I,c,⟨y,h1,h2⟩,⟨y',h1',h2'⟩=>⟨_,zaK n c h1 h1',zeb c h2 h2'⟩
theorem Vk(k:Nat):Lk p w wd T k (λ_=>0) λ_=>0:=by
 unfold Lk;split<;>exact λi _=>by rw [yF (λ_ _=>by simp) i];simp
theorem J7 : ∀n,Wk p w wd T d n (λ_=>0) λ_=>0
 | 0=>λ_ _=>rfl
 | n+1=>⟨_,J7 n,Vk _⟩
theorem W5{k:Nat}{y z I:Vc}(h:Lk p w wd T k y z)(J : ∀i,i<wd (k+1)->I i%p=z i%p):Lk p w wd T k y I:=by
 unfold Lk at *;split
 ·next hw=>rw [if_pos hw]at h;intro i hi;rw [h i hi];exact(jH J i).symm
 ·next hw=>rw [if_neg hw]at h;intro i hi;rw [J i hi,h i hi]
theorem zfZ : ∀{n:Nat} {u z I:Vc},Wk p w wd T d n u z->(∀i,i<wd (d+n)->I i%p=z i%p)->Wk p w wd T d n u I
 | 0,u,z,I,h,hz=>λi hi=>by rw [h i hi,hz i hi]
 | n+1,u,z,I,⟨y,h1,h2⟩,hz=>⟨y,h1,W5 h2 hz⟩
theorem Jl : ∀{n:Nat} {u u' z:Vc},Wk p w wd T d n u z->(∀i,i<wd d->u' i%p=u i%p)->Wk p w wd T d n u' z
 | 0,u,u',z,h,hu=>λi hi=>by rw [hu i hi,h i hi]
 | n+1,u,u',z,⟨y,h1,h2⟩,hu=>⟨y,Jl h1 hu,h2⟩
theorem zaJ{n:Nat}(t:Vc)(u z:Nat->Vc) : ∀K,(∀j,j<K->Wk p w wd T d n (u j) (z j))->Wk p w wd T d n (λi=>sumTo (λj=>t j*u j i) K) λi=>sumTo (λj=>t j*z j i) K
 | 0,_=>J7 n
 | K+1,h=>zaK n (t K) (zaJ t u z K λj I=>h j ⋯) (h K ⋯)
theorem W0{b:Bar}(J:BarOk p w wd T m b){k:Nat}(O:k<m)(h1:b.has k=true)(h2:b.has (k+1)=true):Lk p w wd T k (b.v k) (b.v (k+1)):=by
 unfold Lk;cases hw:w k with
 | true=>
  have z:begR w k=k+1:=by unfold begR;rw [hw];rfl
  have I:endR w k=k:=by unfold endR;rw [hw];rfl
  rw [if_pos rfl];intro i hi;have:=J.arr k O (by rw [z];exact h2) i (by rw [I];exact hi);rw [z,I,h1,if_pos rfl]at this;exact this.symm
 | false=>
  have z:begR w k=k:=by unfold begR;rw [hw];rfl
  have I:endR w k=k+1:=by unfold endR;rw [hw];rfl
  rw [if_neg ⋯];intro i hi;have:=J.arr k O (by rw [z];exact h1) i (by rw [I];exact hi);rw [z,I,h2,if_pos rfl]at this;exact this.symm
theorem Zi{b:Bar}(z:BarOk p w wd T m b)(h1:b.has d=true) : ∀n,d+n<=m->b.has (d+n)=true->Wk p w wd T d n (b.v d) (b.v (d+n))
 | 0,_,_=>λ_ _=>rfl
 | n+1,hn,h2=>by
  have I:b.has (d+n)=true:=has_iff.mpr (by have:=has_iff.mp h1;have:=has_iff.mp h2;omega);exact⟨_,Zi z h1 n ⋯ I,W0 z ⋯ I h2⟩
theorem Vb{b:Bar}(I:BarOk p w wd T m b)(h1:b.has d=true)(hw:w (b.s+b.n - 1)=false) : ∀n,d+n<=m->b.has (d+n)=false->Wk p w wd T d n (b.v d) λ_=>0
 | 0,_,h2=>by rw [zkF,h1]at h2;cases h2
 | n+1,hn,h2=>by
  cases h3:b.has (d+n)with
  | false=>exact⟨_,Vb I h1 hw n ⋯ h3,Vk _⟩
  | true=>
   refine⟨_,Zi I h1 n ⋯ h3,?_⟩;have S:=has_iff.mp h3;have U : ¬(d+n+1<b.s+b.n):=λz=>by
    have:b.has (d+(n+1))=true:=has_iff.mpr ⋯;rw [this]at h2;cases h2
   have J:b.s+b.n - 1=d+n:=by omega
   rw [J]at hw;have O:begR w (d+n)=d+n:=by unfold begR;rw [hw];rfl
   have Q:endR w (d+n)=d+n+1:=by unfold endR;rw [hw];rfl
   have:=I.arr (d+n) ⋯;rw [O,Q]at this;unfold Lk;rw [hw,if_neg ⋯];intro i hi;rw [this h3 i hi,show b.has (d+n+1)=false from h2];simp
theorem vS(D:Decp p w wd T m N A) : ∀n,d+n<=m->∀{u z:Vc},Wk p w wd T d n u z->∀{a b:Vc},(∀i,i<wd d->u i%p=sumTo (λj=>if (A j).has d=true then a j*(A j).v d i else 0) N%p)->(∀i,i<wd (d+n)->z i%p=sumTo (λj=>if (A j).has (d+n)=true then b j*(A j).v (d+n) i else 0) N%p)->
 ∀j,j<N->(A j).has d=true->((A j).has (d+n)=true->a j%p=b j%p)/\((A j).has (d+n)=false->w ((A j).s+(A j).n - 1)=true->a j%p=0):=by
 have Y : ∀r,r<=m->∀{v:Vc} {a b:Vc},(∀i,i<wd r->v i%p=sumTo (λj=>if (A j).has r=true then a j*(A j).v r i else 0) N%p)->(∀i,i<wd r->v i%p=sumTo (λj=>if (A j).has r=true then b j*(A j).v r i else 0) N%p)->∀j,j<N->(A j).has r=true->a j%p=b j%p:=λr hr v a b h1 h2 j J O=>by
  have:=D.inj r hr (λj=>a j - b j) (λi hi=>by
   have e:sumTo (λj=>if (A j).has r=true then (a j - b j)*(A j).v r i else 0) N=sumTo (λj=>if (A j).has r=true then a j*(A j).v r i else 0) N+sumTo (λj=>(if (A j).has r=true then b j*(A j).v r i else 0)*(-1)) N:=by
    rw [<- jG];refine zn λj _=>?_;split
    ·rw [Int.sub_mul];omega
    ·simp
   rw [e,j8,zhp,<- h1 i hi,zg8,<- h2 i hi,<- zg8,<- zhp,show v i+v i * -1=0 by omega];simp) j J O
  exact ziu.mpr this
 have a4 : ∀k,k<m->∀(c:Vc) (r r':Nat),r=begR w k->r'=endR w k->∀i,i<wd r'->app (T k) (wd r) (mxV p A N c r) i%p=sumTo (λj=>if (A j).has r'=true then (if (A j).has r=true then c j else 0)*(A j).v r' i else 0) N%p:=λk hk c r r' e1 e2 i hi=>by
  rw [Vf];refine zK λj J=>?_;cases hx:(A j).has r with
  | false=>simp
  | true=>
   have q:=(D.ok j J).arr k hk (by rw [<- e1];exact hx) i (by rw [<- e2];exact hi);rw [<- e1,<- e2]at q;simp only [if_true];rw [zg8,q,<- zg8];cases hy:(A j).has r'<;>simp
 intro n
 induction n with
 | zero=>
  intro hn u z Z a b ha S j J O;refine⟨λ_=>Y d ⋯ ha (λi hi=>by rw [Z i hi];exact S i hi) j J O,λh=>?_⟩;rw [zkF,O]at h;cases h
 | succ n ih=>
  intro hn u z Z a b ha S j J O;obtain⟨y,h1,h2⟩:=Z;obtain⟨c,hc⟩:=D.sp (d+n) ⋯ y;obtain⟨i1,i2⟩:=ih ⋯ h1 ha hc j J O;have ab : ∀i,i<wd (d+n)->y i%p=mxV p A N c (d+n) i%p:=λi hi=>by rw [hc i hi];unfold mxV;rw [zhs]
  have ac : ∀i,i<wd (d+n+1)->z i%p=mxV p A N b (d+n+1) i%p:=λi hi=>by rw [S i hi];unfold mxV;rw [zhs];rfl
  have qd:=has_iff.mp O;cases hw:w (d+n)with
  | false=>
   have eb:begR w (d+n)=d+n:=by unfold begR;rw [hw];rfl
   have ee:endR w (d+n)=d+n+1:=by unfold endR;rw [hw];rfl
   unfold Lk at h2;rw [hw,if_neg ⋯]at h2;have U:=Y (d+n+1) ⋯ (v:=z) S (b:=λj=>if (A j).has (d+n)=true then c j else 0) λi hi=>by
    rw [h2 i hi,jH ab i];exact a4 (d+n) ⋯ c (d+n) (d+n+1) eb.symm ee.symm i hi
   refine⟨λh=>?_,λh Q=>?_⟩
   ·have I:(A j).has (d+n)=true:=has_iff.mpr (by have:=has_iff.mp h;omega)
    have:=U j J h;rw [I,if_pos rfl]at this;rw [i1 I,this]
   ·cases I:(A j).has (d+n)with
    | false=>exact i2 I Q
    | true=>
     have q3:=has_iff.mp I;have q2 : ¬(d+n+1<(A j).s+(A j).n):=λz=>by
      have:(A j).has (d+(n+1))=true:=has_iff.mpr ⋯;rw [this]at h;cases h
     rw [show(A j).s+(A j).n - 1=d+n by omega,hw]at Q;cases Q
  | true=>
   have eb:begR w (d+n)=d+n+1:=by unfold begR;rw [hw];rfl
   have ee:endR w (d+n)=d+n:=by unfold endR;rw [hw];rfl
   unfold Lk at h2;rw [hw,if_pos rfl]at h2;have U:=Y (d+n) ⋯ (v:=y) hc (b:=λj=>if (A j).has (d+n+1)=true then b j else 0) λi hi=>by
    rw [h2 i hi,jH ac i];exact a4 (d+n) ⋯ b (d+n+1) (d+n) eb.symm ee.symm i hi
   refine⟨λh=>?_,λh Q=>?_⟩
   ·have I:(A j).has (d+n)=true:=has_iff.mpr (by have:=has_iff.mp h;omega)
    have:=U j J I;rw [show(A j).has (d+n+1)=true from h,if_pos rfl]at this;rw [i1 I,this]
   ·cases I:(A j).has (d+n)with
    | false=>exact i2 I Q
    | true=>
     have:=U j J I;rw [show(A j).has (d+n+1)=false from h,if_neg ⋯]at this;rw [i1 I,this];simp
end
section
variable{p:Int}{n:Nat}
theorem zdO(I:Pr p){h N:Nat}(O:h<=20)(Q:N<=8){f:Nat->Nat->Int}(inj : ∀t:Vc,(∀i,i<h->app f N t i%p=0)->∀j,j<N->t j%p=0):N<=h:=by
 obtain⟨q,K,l,s,_,J,S,U,a0⟩:=qB I O Q f;have hq:q=0:=by
  rcases Nat.eq_zero_or_pos q with z | z
  ·exact z
  ·have Y:=J.lt 0 z
   have:=inj (K 0) (λi hi=>(S (K 0)).mp (.gen ⟨0,z,rfl⟩) i hi) (l 0) Y;rw [J.one 0 z,I.one]at this;cases this
 obtain⟨B,l',Z,_⟩:=U;have:=k8 Z;omega
theorem wD{m:Nat}(W:Nat->Vc)(t:Vc):Span p n (Fam m W) λi=>sumTo (λj=>t j*W j i) m:=Span.sum (u:=W) t λj z=> .gen ⟨j,z,rfl⟩
theorem zdU(z:Pr p){s m:Nat}{B:Nat->Vc}{l:Nat->Nat}(I:IsB p n s B l){W:Nat->Vc}(Y:n<=20)(J:m<=8)(sp : ∀v,Span p n (Fam s B) v↔Span p n (Fam m W) v)(O : ∀t:Vc,(∀i,i<n->sumTo (λj=>t j*W j i) m%p=0)->∀j,j<m->t j%p=0):m=s:=by
 have h1:s<=m:=by
  obtain⟨r,Z,Q⟩:=Xv z (n:=n) ⋯ J W;have:=kh z (m:=m) (W:=W) ⟨B,l,I,sp⟩ Q;omega
 have hs:s<=n:=k8 I;have h2:m<=s:=zdO z ⋯ J (f:=λi j=>W j (l i)) λt S=>O t λi hi=>by
  have c:=yq I ((sp _).mpr (wD (n:=n) W t)) i hi;rw [c];have:sumTo (λk=>sumTo (λj=>t j*W j (l k)) m*B k i) s%p=sumTo (λ_=>0) s%p:=zK λk U=>by
   have:=S k U;unfold app at this;rw [j9]at this;rw [zg8,this];simp
  rw [this,zG];simp
 omega
theorem WK(hp:Pr p){s q c:Nat}{B B2 V:Nat->Vc}{l l2:Nat->Nat}(hX:IsB p n s B l)(O:IsB p n q B2 l2)(hn:n<=20)(hc:q+c<=8)(a4 : ∀j,j<c->Span p n (Fam s B) (V j))(KX : ∀v,Span p n (Fam q B2) v->Span p n (Fam s B) v)
 (spX : ∀v,Span p n (Fam s B) v->∃t:Vc,Span p n (Fam q B2) λi=>v i - sumTo (λj=>t j*V j i) c) (a6 : ∀t:Vc,Span p n (Fam q B2) (λi=>sumTo (λj=>t j*V j i) c)->∀j,j<c->t j%p=0):q+c=s:=by
 let W:Nat->Vc:=λj=>if j<q then B2 j else V (j - q);have w1 : ∀j,j<q->W j=B2 j:=λj I=>if_pos I;have w2 : ∀j,W (q+j)=V j:=λj=>by show(if q+j<q then _ else _)=_;rw [if_neg ⋯,zhu]
 have U : ∀t:Vc,∀i,sumTo (λj=>t j*W j i) (q+c)=sumTo (λj=>t j*B2 j i) q+sumTo (λj=>t (q+j)*V j i) c:=λt i=>by
  rw [kt];congr 1
  ·exact zn λj I=>by rw [w1 j I]
  ·exact zn λj I=>by rw [w2 j]
 refine zdU hp hX hn hc (W:=W) (λv=>⟨λQ=>?_,λQ=>Q.le λg S=>?_⟩) λt Y=>?_
 ·obtain⟨t,h⟩:=spX v Q
  have h1:Span p n (Fam (q+c) W) λi=>v i - sumTo (λj=>t j*V j i) c:=h.le λg S=>by
   obtain⟨k,J,rfl⟩:=S;rw [<- w1 k J];exact .gen ⟨k,by omega,rfl⟩
  have h2:Span p n (Fam (q+c) W) λi=>sumTo (λj=>t j*V j i) c:=Span.sum t λj I=>by rw [<- w2 j];exact .gen ⟨q+j,by omega,rfl⟩
  exact(h2.add h1 1).congr λi _=>by rw [Int.one_mul,Int.sub_add_cancel]
 ·obtain⟨k,J,rfl⟩:=S
  rcases zhd k q with z | z
  ·rw [w1 k z];exact KX _ (.gen ⟨k,z,rfl⟩)
  ·obtain⟨j,rfl⟩ : ∃j,k=q+j:=⟨k - q,by omega⟩
   rw [w2 j];exact a4 j ⋯
 ·have Z : ∀j,j<c->t (q+j)%p=0:=a6 (λj=>t (q+j)) ((wD (n:=n) B2 λj=> -1*t j).congr λi hi=>by
   have:=Y i hi;rw [U]at this;have e:sumTo (λj=> -1*t j*B2 j i) q=sumTo (λj=>t j*B2 j i) q * -1:=by
    rw [<- j8];exact zn λj _=>by rw [zix (-1),ziw,zix (-1),ziw]
   rw [e];refine ziu.mpr ?_;rw [<- this];congr 1;omega)
  intro j I;rcases zhd j q with z | z
  ·have h0 : ∀i,i<n->sumTo (λj=>t j*B2 j i) q%p=0:=λi hi=>by
    have:=Y i hi;rw [U,zhp]at this;have e:sumTo (λj=>t (q+j)*V j i) c%p=sumTo (λ_=>0) c%p:=zK λj I=>by rw [zg8,Z j I];simp
    rw [e,zG]at this;simpa using this
   have h1:=h0 (l2 j) (O.lt j z);rw [zR (f:=λk=>t k*B2 k (l2 j)) z λk J a8=>by rw [O.oth k j J z (zhO a8)];simp]at h1;rw [O.one j z,zj2]at h1;exact h1
  ·obtain⟨k,rfl⟩ : ∃k,j=q+k:=⟨j - q,by omega⟩
   exact Z k ⋯
end
def cvL(A:Nat->Bar)(N d e:Nat):List Nat:=(zgX N).filter λj=>(A j).has d && (A j).has e
section
variable{p:Int}{w:Nat->Bool}{wd:Nat->Nat}{T:Nat->Nat->Nat->Int}{m N n:Nat}{A:Nat->Bar}{d:Nat}
theorem YW{d e k:Nat}(z:k<(cvL A N d e).length):(cvL A N d e).getD k 0<N/\(A ((cvL A N d e).getD k 0)).has d=true/\(A ((cvL A N d e).getD k 0)).has e=true:=by
 have I:(cvL A N d e).getD k 0∈cvL A N d e:=by rw [zg4,zg0 z];exact zis _
 obtain⟨h1,h2⟩:=zhm.mp I;simp only [Bool.and_eq_true]at h2;exact⟨zgZ.mp h1,h2.1,h2.2⟩
theorem zdX(D:Decp p w wd T m N A)(hd:d<=m)(e:Nat):(cvL A N d e).length<=wd d:=by
 rw [<- D.cnt d hd];unfold cvL ixs;rw [<- zhB,<- zhB];exact List.countP_mono_left λj _ h=>by simp only [Bool.and_eq_true]at h;exact h.1
theorem WV(d e:Nat)(t:Vc) : ∃a:Vc,∀k,k<(cvL A N d e).length->a ((cvL A N d e).getD k 0)=t k:=by
 refine⟨λj=>t ((cvL A N d e).idxOf j),λk z=>?_⟩;have nd:(cvL A N d e).Nodup:=zkG.sublist zko;show t _=_;rw [zg4,zg0 z,zjZ,nd.idxOf_getElem _ z]
theorem YV(d e:Nat)(a:Vc)(i:Nat):sumTo (λk=>a ((cvL A N d e).getD k 0)*(A ((cvL A N d e).getD k 0)).v d i) (cvL A N d e).length=sumTo (λj=>if (A j).has d=true then (if (A j).has e=true then a j else 0)*(A j).v d i else 0) N:=by
 have:=xI (λj=>(A j).has d && (A j).has e) (λj=>a j*(A j).v d i) N;refine this.trans (zn λj _=>?_);cases (A j).has d<;>cases (A j).has e<;>simp
theorem Ww(hp:Pr p)(D:Decp p w wd T m N A)(hd:d+n<=m)(hw:wd d<=4){s q:Nat}{B B2:Nat->Vc}{l l2:Nat->Nat}(hX:IsB p (wd d) s B l)(O : ∀u,Span p (wd d) (Fam s B) u ↔ ∃z,Wk p w wd T d n u z)
 (hK:IsB p (wd d) q B2 l2) (Q : ∀u,Span p (wd d) (Fam q B2) u↔Wk p w wd T d n u λ_=>0):q+(cvL A N d (d+n)).length=s:=by
 have hc:=zdX D (show d<=m by omega) (d+n);have hq:=k8 hK;refine WK hp hX hK ⋯ ⋯ (V:=λk=>(A ((cvL A N d (d+n)).getD k 0)).v d) (λk I=>?_) (λv S=>(O v).mpr ⟨_,(Q v).mp S⟩) (λv S=>?_) λt ht=>?_
 ·obtain⟨h1,h2,J⟩:=YW I
  exact(O _).mpr ⟨_,Zi (D.ok _ h1) h2 n hd J⟩
 ·obtain⟨z,U⟩:=(O v).mp S
  obtain⟨a,ha⟩:=D.sp d ⋯ v;obtain⟨b,hb⟩:=D.sp (d+n) hd z;have Y:=vS D n hd U ha hb;refine⟨λk=>a ((cvL A N d (d+n)).getD k 0),(Q _).mpr ?_⟩;let u:Nat->Vc:=λj=>if (A j).has d=true/\(A j).has (d+n)=false/\w ((A j).s+(A j).n - 1)=false then (A j).v d else λ_=>0;have hu : ∀j,j<N->Wk p w wd T d n (u j) λ_=>0:=λj Z=>by
   show Wk p w wd T d n (if _ then _ else _) _;split
   ·next h=>exact Vb (D.ok j Z) h.1 h.2.2 n hd h.2.1
   ·exact J7 n
  have hs:=zaJ a u (λ_ _=>0) N hu;refine zfZ (Jl hs λi hi=>?_) λi _=>by simp [zG]
  rw [YV d (d+n) a i];rw [zio,ha i hi,<- zio];have e:sumTo (λj=>if (A j).has d=true then a j*(A j).v d i else 0) N - sumTo (λj=>if (A j).has d=true then (if (A j).has (d+n)=true then a j else 0)*(A j).v d i else 0) N=sumTo (λj=>(if (A j).has d=true then a j*(A j).v d i else 0)+(if (A j).has d=true then (if (A j).has (d+n)=true then a j else 0)*(A j).v d i else 0) * -1) N:=by
   rw [jG,j8];omega
  rw [e];refine zK λj Z=>?_;show _=a j*(if _ then (A j).v d else λ_=>0) i%p;cases h1:(A j).has d with
  | false=>simp
  | true=>
   cases h2:(A j).has (d+n)with
   | true=>
    have e0:a j*(A j).v d i+a j*(A j).v d i * -1=0:=by omega
    simp only [if_true,e0,Bool.true_eq_false,false_and,and_false,if_false,zkJ]
   | false=>
    cases J:w ((A j).s+(A j).n - 1)with
    | false=>simp
    | true=>
     have:=(Y j Z h1).2 h2 J;simp only [if_true,zir,if_false,Int.zero_mul,Int.add_zero,zkJ,Bool.true_eq_false,and_false];rw [zg8,this];simp
 ·obtain⟨a,ha⟩:=WV (A:=A) (N:=N) d (d+n) t
  have U:=(Q _).mp ht;have Y:=vS D n hd U (a:=λj=>if (A j).has (d+n)=true then a j else 0) (b:=λ_=>0) (λi hi=>by
   rw [<- YV d (d+n) a i];congr 1;exact zn λk I=>by rw [ha k I]) (λi _=>by
   have:sumTo (λj=>if (A j).has (d+n)=true then 0*(A j).v (d+n) i else 0) N=sumTo (λ_=>0) N:=zn λj _=>by simp
   rw [this,zG])
  intro k I;obtain⟨h1,h2,J⟩:=YW I;have:=(Y _ h1 h2).1 J;rw [J,if_pos rfl,ha k I]at this;simpa using this
theorem wP : ∀(t:Nat) (z:Vc),Xb p w wd T d (wd d) t z↔Wk p w wd T d t z λx=>z (wd d+x)
 | 0,z=>Iff.rfl
 | t+1,z=>by
  have e : ∀u:Vc,Xb p w wd T d (wd d) t (jW (wd d) z u)↔Wk p w wd T d t z u:=λu=>by
   rw [wP t];have e1:(λx=>jW (wd d) z u (wd d+x))=u:=funext λx=>zZ x;rw [e1];exact⟨λh=>Jl h λi hi=>by rw [zP hi],λh=>Jl h λi hi=>by rw [zP hi]⟩
  show(∃u:Vc,Xb p w wd T d (wd d) t (jW (wd d) z u)/\Stp p w wd T (d+t) u λx=>z (wd d+x)) ↔ ∃y,Wk p w wd T d t z y/\Lk p w wd T (d+t) y λx=>z (wd d+x);exact exists_congr λu=>and_congr (e u) Iff.rfl
end
section
variable{p:Int}{w:Nat->Bool}{wd:Nat->Nat}{T:Nat->Nat->Nat->Int}{m N:Nat}{A:Nat->Bar}
theorem Wx(r:Nat)(t:Vc) : ∃a:Vc,∀k,k<(ixs A N r).length->a ((ixs A N r).getD k 0)=t k:=by
 refine⟨λj=>t ((ixs A N r).idxOf j),λk z=>?_⟩;show t _=_;rw [zg4,zg0 z,zjZ,(kJ A N r).idxOf_getElem _ z]
theorem JQ(r:Nat)(a:Vc)(i:Nat):sumTo (λj=>if (A j).has r=true then a j*(A j).v r i else 0) N=app (qi A N r) (ixs A N r).length (λk=>a ((ixs A N r).getD k 0)) i:=by
 have:=xI (λj=>(A j).has r) (λj=>a j*(A j).v r i) N;rw [<- this];unfold app;rw [j9];rfl
theorem ZU{r j:Nat}(z:j<N)(I:(A j).has r=true) : ∃k,k<(ixs A N r).length/\(ixs A N r).getD k 0=j:=by
 have J:j∈ixs A N r:=zhm.mpr ⟨zgZ.mpr z,by simpa using I⟩;obtain⟨i,hi,e⟩:=zkn J;exact⟨i,hi,by rw [zg4,zg0 hi];simpa using e⟩
theorem YU(Q:Pr p)(S : ∀k,wd k<=8)(ok : ∀j,j<N->BarOk p w wd T m (A j))(cnt : ∀r,r<=m->(ixs A N r).length=wd r)(O : ∀r,r<=m->∀v:Vc,∃t,∀i,i<wd r->v i%p=app (qi A N r) (wd r) t i%p):Decp p w wd T m N A where
 ok:=ok
 cnt:=cnt
 sp:=λr z v=>by
  obtain⟨t,I⟩:=O r z v;obtain⟨a,ha⟩:=Wx (A:=A) (N:=N) r t;refine⟨a,λi hi=>?_⟩;rw [I i hi,JQ,cnt r z];unfold app;congr 1;exact zn λk J=>by show _=_*a _;rw [ha k (by rw [cnt r z];exact J)]
 inj:=λr z t I j U Y=>by
  obtain⟨k,J,e⟩:=ZU U Y;have:=km Q (S r) (O r z) (t:=λk=>t ((ixs A N r).getD k 0)) (λi hi=>by
   have:=I i hi;rw [JQ,cnt r z]at this;exact this) k (by rw [<- cnt r z];exact J)
  rw [e]at this;exact this
theorem WP(Q:Pr p)(S : ∀k,wd k<=8){bars:List Bar}(I:BrInv p w wd T m bars):Decp p w wd T m bars.length λj=>bars.getD j Kb:=by
 let A:Nat->Bar:=λj=>bars.getD j Kb;have O:bars=(zgX bars.length).map A:=(jP Kb _).symm;have cnt : ∀r,r<=m->(ixs A bars.length r).length=wd r:=λr z=>by
  have:=I.ct r z;rw [O,zje,zhB]at this;exact this
 refine YU Q S (λj J=>I.ok _ ?_) cnt λr z v=>?_
 ·rw [zg4,zg0 J];exact zis _
 ·have U:Span p (wd r) (Fam (wd r) λj i=>qi A bars.length r i j) v:=(I.sp r z v).le λgg Y=>by
   obtain⟨b,h1,h2,rfl⟩:=Y;rw [O]at h1;obtain⟨j,J,rfl⟩:=zhr.mp h1;obtain⟨k,Z,e⟩:=ZU (A:=A) (zgZ.mp J) h2;refine .gen ⟨k,by rw [<- cnt r z];exact Z,?_⟩;funext c;show(A j).v r c=(A ((ixs A bars.length r).getD k 0)).v r c;rw [e]
  exact col_span.mp U
end
def F_kept:List D->Option Res:=z5 7 (zI (zQ 3 (jk (zX F_link (za (zc 0) (za (zc 1) (za (zc 2) zo)))))) (zI (zQ 4 (sIx (zA (sIx (zf 0) (zg (.int 1)))) (zc 1))) (zI (zQ 5 (sIx (zA (sIx (zf 0) (zg (.int 1)))) (zc 2))) (zI (zQ 6 (jk (zX F_base_of (za (sIx (zf 0) (zg (.int 0))) (za (zu jq (zc 5) (zc 4)) (za (jk (zF (zD (zf 3)) (.nm 0) 1 [4] ja (zu jq (Qo (zc 0) (sBd (zc 1)) X9) (Qo (zc 0) X9 (sBd (zc 1)))))) zo)))))) (jR (zu qP (zu qP (k4 (zf 3)) (k4 (jz (zX F_behind_noughts (za (zc 5) (za (zc 6) zo)))))) (k4 (jz (zX F_behind_noughts (za (zc 4) (za (zc 3) zo)))))))))))
def F_number_of:List D->Option Res:=z5 4 (zI (zQ 3 (zu jq (ZB (zc 0) (jp (za (zu qP (zc 1) (zg (.int 1))) (za (zc 2) zo))) (zg (.int 0))) (ZB (zc 0) (jp (za (zc 1) (za (zu jq (zc 2) (zg (.int 1))) zo))) (zg (.int 0))))) (jR (zu jq (zu qP (Xs (zc 0) (jp (za (zc 1) (za (zc 2) zo)))) (zc 3)) (ZB (zc 0) (jp (za (zu qP (zc 1) (zg (.int 1))) (za (zu jq (zc 2) (zg (.int 1))) zo))) (zg (.int 0))))))
def F_numbers:List D->Option Res:=z5 3 (zI (zQ 1 (jk (zX F_stretches_of (za (k4 (zA (sIx (zf 0) (zg (.int 1))))) zo)))) (zI (zQ 2 (vY (zF (zD (zf 1)) (.tp [0,1]) 2 [0] ja (jp (za (jp (za (zc 0) (za (zc 1) zo))) (za (zq F_kept (za (zc 2) (za (zc 0) (za (zc 1) zo)))) zo)))))) (jR (vY (zF (zD (zf 1)) (.tp [0,1]) 2 [2] ja (jp (za (jp (za (zc 0) (za (zc 1) zo))) (za (zq F_number_of (za (zc 2) (za (zc 0) (za (zc 1) zo)))) zo))))))))
def kp1:CO Fl:=zQ 3 (jk (zX F_link (za (zc 0) (za (zc 1) (za (zc 2) zo)))))
def kp2:CO Fl:=zQ 4 (sIx (zA (sIx (zf 0) (zg (.int 1)))) (zc 1))
def kp3:CO Fl:=zQ 5 (sIx (zA (sIx (zf 0) (zg (.int 1)))) (zc 2))
def kp4:CO Fl:=zQ 6 (jk (zX F_base_of (za (sIx (zf 0) (zg (.int 0))) (za (zu jq (zc 5) (zc 4)) (za (jk (zF (zD (zf 3)) (.nm 0) 1 [4] ja (zu jq (Qo (zc 0) (sBd (zc 1)) X9) (Qo (zc 0) X9 (sBd (zc 1)))))) zo)))))
def kp5:CO Fl:=jR (zu qP (zu qP (k4 (zf 3)) (k4 (jz (zX F_behind_noughts (za (zc 5) (za (zc 6) zo)))))) (k4 (jz (zX F_behind_noughts (za (zc 4) (za (zc 3) zo))))))
theorem zdB:F_kept=z5 7 (zI kp1 (zI kp2 (zI kp3 (zI kp4 kp5)))):=rfl
section
variable{p:Int}{w:Nat->Bool}{wd:Nat->Nat}{T:Nat->Nat->Nat->Int}{m:Nat}
theorem XR{a b q s:Nat}{B:Nat->Vc}{l:Nat->Nat}(I:IsB p (a+b) q B l)(hs:s<=q)(s1 : ∀k,k<s->l k<a)(s2 : ∀k,s<=k->k<q->a<=l k) :
 IsB p a s B l/\∀u,Span p a (Fam s B) u ↔ ∃z,Span p (a+b) (Fam q B) (jW a u z):=by
 refine⟨{
  lt:=s1
  mono:=λk m h1 h2=>I.mono k m h1 ⋯
  one:=λk J=>I.one k ⋯
  bef:=λk j J Q=>I.bef k j ⋯ Q
  oth:=λk m J hm S=>I.oth k m ⋯ ⋯ S
  rng:=λk i J hi=>I.rng k i ⋯ ⋯},λu=>⟨λO=>?_,λO=>?_⟩⟩
 ·obtain⟨t,U⟩:=yO O
  refine⟨λj=>sumTo (λk=>t k*B k (a+j)) s,(Span.sum (u:=B) t (m:=s) λk J=> .gen ⟨k,by omega,rfl⟩).congr λi hi=>?_⟩;rcases zhd i a with z | z
  ·rw [zP z,U i z]
  ·obtain⟨j,rfl⟩ : ∃j,i=a+j:=⟨i - a,by omega⟩
   rw [zZ]
 ·obtain⟨z,Y⟩:=O
  have c:=yq I Y;refine(wD (n:=a) B λk=>jW a u z (l k)).congr λi hi=>?_;have:=c i ⋯;rw [zP hi]at this;rw [this];obtain⟨e,rfl⟩ : ∃e,q=s+e:=⟨q - s,by omega⟩;rw [kt];have Z:sumTo (λk=>jW a u z (l (s+k))*B (s+k) i) e=sumTo (λ_=>0) e:=zn λk J=>by
   rw [I.bef (s+k) i ⋯ (by have:=s2 (s+k) ⋯ ⋯;omega)];simp
  rw [Z,zG,Int.add_zero]
theorem Xi{a b q:Nat}{B:Nat->Vc}(v:Vc):Span p (b+a) (Fam q λk=>jW b (λj=>B k (a+j)) (B k)) (jW b (λ_=>0) v)↔Span p (a+b) (Fam q B) (jW a v λ_=>0):=by
 constructor
 ·intro h
  refine(h.map (n':=a+b) (G':=Fam q B) (λi=>if i<a then b+i else i - a) (λi hi=>by split<;>omega) λg I=>?_).congr λi hi=>?_
  ·obtain⟨k,J,rfl⟩:=I
   refine(Span.gen (g:=B k) ⟨k,J,rfl⟩).congr λi hi=>?_;show jW b (λj=>B k (a+j)) (B k) (if i<a then b+i else i - a)%p=_;split
   ·rw [zZ]
   ·rw [zP ⋯];congr 2;omega
  ·split
   ·next z=>rw [zZ,zP z]
   ·next z=>
    obtain⟨j,rfl⟩ : ∃j,i=a+j:=⟨i - a,by omega⟩;rw [zZ,zP ⋯]
 ·intro h
  refine(h.map (n':=b+a) (G':=Fam q λk=>jW b (λj=>B k (a+j)) (B k)) (λi=>if i<b then a+i else i - b) (λi hi=>by split<;>omega) λg I=>?_).congr λi hi=>?_
  ·obtain⟨k,J,rfl⟩:=I
   refine(Span.gen (g:=jW b (λj=>B k (a+j)) (B k)) ⟨k,J,rfl⟩).congr λi hi=>?_;split
   ·next z=>rw [zP z]
   ·next z=>
    obtain⟨j,rfl⟩ : ∃j,i=b+j:=⟨i - b,by omega⟩;rw [zZ];congr 2;omega
  ·split
   ·next z=>rw [zZ,zP z]
   ·next z=>
    obtain⟨j,rfl⟩ : ∃j,i=b+j:=⟨i - b,by omega⟩;rw [zZ,zP ⋯];congr 2;omega
theorem zbL(Z:Pr p)(S : ∀k,wd k<=4)(hT : ∀k x y,0<=T k x y/\T k x y<p)(hm:m<=20){i j:Nat}(a7:i<=j)(hj:j<=m) :
 ∃(s q:Nat) (B B2:Nat->Vc) (l l2:Nat->Nat),F_kept [jO p m w wd T,.int i,.int j]=some (.val (.int ((s:Int) - (q:Int))))/\IsB p (wd i) s B l/\(∀u,Span p (wd i) (Fam s B) u ↔ ∃z,Wk p w wd T i (j - i) u z)/\IsB p (wd i) q B2 l2/\∀u,Span p (wd i) (Fam q B2) u↔Wk p w wd T i (j - i) u λ_=>0:=by
 have hl:=jf;have ha:=S i;have aj:=S j;obtain⟨q,B,l,e1,J,U⟩:=Vm (m:=m) (w:=w) Z S hT a7 hj;have hq:=k8 J;have O:q<=lim:=by omega
 obtain⟨r,B',l',e2,Q,hS⟩:=jX Z (show wd j+wd i<=100 by omega) O .L λk=>jW (wd j) (λx=>B k (wd i+x)) (B k);have hr:=k8 Q;obtain⟨s,hs,s1,s2⟩:=xJ (l:=l) (wd i) J.mono;obtain⟨s',a2,a3,a4⟩:=xJ (l:=l') (wd j) Q.mono;have b1:=xk J O hs s1 s2;have b2:=xk Q ⋯ a2 a3 a4;obtain⟨h1,h2⟩:=XR J hs s1 s2;obtain⟨h3,h4⟩:=vU Q a2 a3 a4;refine⟨s,r - s',B,_,l,_,?_,h1,λu=>?_,h3,λu=>?_⟩
 ·have ac:i<m+1:=by omega
  have ad:j<m+1:=by omega
  have sw:zL (.nm 0) ja (zu jq (Qo (zc 0) (sBd (zc 1)) X9) (Qo (zc 0) X9 (sBd (zc 1)))) [.no,.val (.int (wd i))] (zM q (wd i+wd j) B)=some (zM q (wd j+wd i) λk=>jW (wd j) (λx=>B k (wd i+x)) (B k)):=by
   unfold zM;refine zv _ _ λk hk=>zw rfl rfl ?_;have a5:wd j+wd i<=lim:=by omega
   simp [QW,QV,jq,a5,xf]
  let R:=jO p m w wd T;let I:D:= .lst (zM q (wd i+wd j) B);let L2:D:= .lst (zM r (wd j+wd i) B');rw [zdB];refine jN (zC (γ':=[.val R,.val (.int i),.val (.int j),.val I,.no,.no,.no]) ?_
   (zC (γ':=[.val R,.val (.int i),.val (.int j),.val I,.val (.int (wd i)),.no,.no]) ?_
   (zC (γ':=[.val R,.val (.int i),.val (.int j),.val I,.val (.int (wd i)),.val (.int (wd j)),.no]) ?_
   (zC (γ':=[.val R,.val (.int i),.val (.int j),.val I,.val (.int (wd i)),.val (.int (wd j)),.val L2]) ?_ ?_))))
  ·simp [kp1,zV,zg2,R,I,e1]
  ·simp [kp2,R,qQ,ac]
  ·simp [kp3,R,qQ,ad]
  ·have c1:((wd j:Int)+(wd i:Int))=((wd j+wd i:Nat):Int):=by omega
   have a5:wd j+wd i<=lim:=by omega
   simp only [dsq]at e2;simp [kp4,z6,R,qQ,I,O,sw];rw [c1,e2];simp [L2]
  ·have r1:q - s<=lim:=by omega
   have r2:r - s'<=lim:=by omega
   have f1:(q:Int) - ((r - s':Nat):Int) - ((q - s:Nat):Int)=(s:Int) - ((r - s':Nat):Int):=by omega
   simp [kp5,I,L2,b1,b2,O,r1,r2,f1]
 ·rw [h2 u]
  constructor
  ·rintro⟨z,Y⟩
   have:=(wP (j - i) _).mp ((U _).mp Y);exact⟨_,Jl this λx hx=>by rw [zP hx]⟩
  ·rintro⟨z,Y⟩
   refine⟨z,(U _).mpr ((wP (j - i) _).mpr ?_)⟩;rw [show(λx=>jW (wd i) u z (wd i+x))=z from funext λx=>zZ x];exact Jl Y λx hx=>by rw [zP hx]
 ·rw [h4 u,hS,Xi,U,wP,show(λx=>jW (wd i) u (λ_=>0) (wd i+x))=λ_=>0 from funext λx=>zZ x]
  exact⟨λh=>Jl h λx hx=>by rw [zP hx],λh=>Jl h λx hx=>by rw [zP hx]⟩
end
def stN(M:Nat):List (Nat×Nat):=(zgX M).flatMap λi=>(ziz i (M - i)).map λj=>(i,j)
def kI(s:Nat×Nat):List Int:=[(s.1:Int),(s.2:Int)]
def kD(s:Nat×Nat):D:= .tup [.int s.1,.int s.2]
theorem mem_st{M:Nat}{s:Nat×Nat}:s∈stN M↔s.1<=s.2/\s.2<M:=by
 unfold stN;simp only [List.mem_flatMap,zgZ,zhr,List.mem_range'_1];constructor
 ·rintro⟨i,hi,j,z,rfl⟩
  exact⟨z.1,by show j<M;omega⟩
 ·intro h
  exact⟨s.1,by omega,s.2,⟨h.1,by omega⟩,rfl⟩
theorem Ql : ∀M:Fin 7,(stN M.val).Nodup/\((stN M.val).map kI).Nodup/\(stN M.val).length<=21:=by decide +kernel
theorem ze0 : ∀M:Fin 7,F_stretches_of [.int (M.val:Int)]=some (.own ((stN M.val).map kD))
 | ⟨0,_⟩=>by kernel_rfl
 | ⟨1,_⟩=>by kernel_rfl
 | ⟨2,_⟩=>by kernel_rfl
 | ⟨3,_⟩=>by kernel_rfl
 | ⟨4,_⟩=>by kernel_rfl
 | ⟨5,_⟩=>by kernel_rfl
 | ⟨6,_⟩=>by kernel_rfl
theorem Yq{s t:Nat×Nat}(h:kI s=kI t):s=t:=by
 unfold kI at h;simp only [List.cons.injEq,and_true]at h;obtain⟨a,b⟩:=s;obtain⟨c,d⟩:=t;simp only [Prod.mk.injEq];have h1:=h.1;have h2:=h.2;dsimp only at h1 h2;omega
theorem JU(f:Nat×Nat->D)(k:List Int) : ∀L:List (Nat×Nat),XW (L.map kI) (L.map f) k=(L.find? λs=>decide (kI s=k)).map f
 | []=>rfl
 | s::L=>by
  show(if kI s=k then _ else _)=_;by_cases h:kI s=k
  ·rw [if_pos h,List.find?_cons_of_pos (by simpa using h)];rfl
  ·rw [if_neg h,List.find?_cons_of_neg (by simpa using h)];exact JU f k L
theorem YF{L:List (Nat×Nat)}{s:Nat×Nat}(h:s∈L):(L.find? λt=>decide (kI t=kI s))=some s:=by
 cases e:L.find? λt=>decide (kI t=kI s)with
 | none=>
  have:=zjL.mp e s h;simp at this
 | some t=>
  have:=List.find?_some e;rw [Yq (of_decide_eq_true this)]
def atS(f:Nat×Nat->Int)(M:Nat)(a b:Int):Int:=if 0<=a/\a<=b/\b<M then f (a.toNat,b.toNat)else 0
theorem w5(f:Nat×Nat->Int)(M:Nat)(a b:Int):(XW ((stN M).map kI) ((stN M).map λs=> .int (f s)) [a,b]).getD (.int 0) = .int (atS f M a b):=by
 rw [JU (λs=> .int (f s))];unfold atS;split
 ·next h=>
  have e:[a,b]=kI (a.toNat,b.toNat):=by unfold kI;simp;omega
  rw [e,YF (mem_st.mpr (by show a.toNat<=b.toNat/\b.toNat<M;omega))];rfl
 ·next h=>
  rw [zjL.mpr λs I z=>h ?_]
  ·rfl
  ·have J:=mem_st.mp I
   have z:=of_decide_eq_true z;unfold kI at z;simp only [List.cons.injEq,and_true]at z;omega
theorem YE(f:Nat×Nat->Int){M:Nat}{s:Nat×Nat}(h:s∈stN M):XW ((stN M).map kI) ((stN M).map λs=>D.int (f s)) [(s.1:Int),(s.2:Int)]=some (.int (f s)):=by
 rw [JU (λs=> .int (f s))];rw [show [(s.1:Int),(s.2:Int)]=kI s from rfl,YF h];rfl
def zbF(f:Nat×Nat->Int)(M:Nat)(s:Nat×Nat):Int:=f s - (atS f M ((s.1:Int) - 1) s.2+atS f M s.1 ((s.2:Int)+1))+atS f M ((s.1:Int) - 1) ((s.2:Int)+1)
def k5(f:Nat×Nat->Int)(M:Nat):D:= .dct ((stN M).map kI) ((stN M).map λs=> .int (f s))
theorem zbK(a b:Int):Vp (.tup [.int a,.int b])=some [a,b]:=rfl
def no1:CO Fl:=zQ 3 (zu jq (ZB (zc 0) (jp (za (zu qP (zc 1) (zg (.int 1))) (za (zc 2) zo))) (zg (.int 0))) (ZB (zc 0) (jp (za (zc 1) (za (zu jq (zc 2) (zg (.int 1))) zo))) (zg (.int 0))))
def no2:CO Fl:=jR (zu jq (zu qP (Xs (zc 0) (jp (za (zc 1) (za (zc 2) zo)))) (zc 3)) (ZB (zc 0) (jp (za (zu qP (zc 1) (zg (.int 1))) (za (zu jq (zc 2) (zg (.int 1))) zo))) (zg (.int 0))))
theorem zdu:F_number_of=z5 4 (zI no1 no2):=rfl
theorem Ya(f:Nat×Nat->Int){M:Nat}{s:Nat×Nat}(h:s∈stN M):F_number_of [k5 f M,.int s.1,.int s.2]=some (.val (.int (zbF f M s))):=by
 have h1:=w5 f M ((s.1:Int) - 1) s.2;have h2:=w5 f M s.1 ((s.2:Int)+1);have z:=w5 f M ((s.1:Int) - 1) ((s.2:Int)+1);have I:=YE f h;rw [zdu];refine jN (zC (γ':=[.val (k5 f M),.val (.int s.1),.val (.int s.2),.val (.int (atS f M ((s.1:Int) - 1) s.2+atS f M s.1 ((s.2:Int)+1)))]) ?_ ?_)
 ·simp [no1,zV,zg2,k5,WF,zbK,h1,h2]
 ·simp [no2,k5,WF,zbK,z,I,zbF]
theorem wB(f:Nat×Nat->Int) : ∀L:List (Nat×Nat),xm (L.map λs=>D.tup [kD s,.int (f s)])=some (L.map kD,L.map λs=> .int (f s))
 | []=>rfl
 | s::L=>by
  show(xm (L.map λs=>D.tup [kD s,.int (f s)])).map _=_;rw [wB f L];rfl
theorem Yl : ∀L:List (Nat×Nat),XO (L.map kD)=some (L.map kI)
 | []=>rfl
 | s::L=>by
  show(Vp (kD s)).bind _=_;rw [show Vp (kD s)=some (kI s)from rfl];show(XO (L.map kD)).map _=_;rw [Yl L];rfl
def nm1:CO Fl:=zQ 1 (jk (zX F_stretches_of (za (k4 (zA (sIx (zf 0) (zg (.int 1))))) zo)))
def nm2:CO Fl:=zQ 2 (vY (zF (zD (zf 1)) (.tp [0,1]) 2 [0] ja (jp (za (jp (za (zc 0) (za (zc 1) zo))) (za (zq F_kept (za (zc 2) (za (zc 0) (za (zc 1) zo)))) zo)))))
def nm3:CO Fl:=jR (vY (zF (zD (zf 1)) (.tp [0,1]) 2 [2] ja (jp (za (jp (za (zc 0) (za (zc 1) zo))) (za (zq F_number_of (za (zc 2) (za (zc 0) (za (zc 1) zo)))) zo)))))
theorem zdx:F_numbers=z5 3 (zI nm1 (zI nm2 nm3)):=rfl
section
variable{p:Int}{w:Nat->Bool}{wd:Nat->Nat}{T:Nat->Nat->Nat->Int}{m:Nat}
theorem XE(hm:m<=5)(f:Nat×Nat->Int)(U : ∀s,s∈stN (m+1)->F_kept [jO p m w wd T,.int s.1,.int s.2]=some (.val (.int (f s)))):F_numbers [jO p m w wd T]=some (.val (k5 (zbF f (m+1)) (m+1))):=by
 have hl:=jf;obtain⟨n1,z,Y⟩:=Ql ⟨m+1,by omega⟩;have J:=ze0 ⟨m+1,by omega⟩;dsimp only at n1 z Y J;have O:(stN (m+1)).length<=lim:=by omega
 let S:D:= .lst ((stN (m+1)).map kD);have Z:zL (.tp [0,1]) ja (jp (za (jp (za (zc 0) (za (zc 1) zo))) (za (zq F_kept (za (zc 2) (za (zc 0) (za (zc 1) zo)))) zo))) [.no,.no,.val (jO p m w wd T)] ((stN (m+1)).map kD)=some ((stN (m+1)).map λs=>D.tup [kD s,.int (f s)]):=by
  refine zv _ _ λs I=>zw (γ1:=[.val (.int s.1),.val (.int s.2),.val (jO p m w wd T)]) rfl rfl ?_;have:=U s I;simp [this,kD]
 have c2:zL (.tp [0,1]) ja (jp (za (jp (za (zc 0) (za (zc 1) zo))) (za (zq F_number_of (za (zc 2) (za (zc 0) (za (zc 1) zo)))) zo))) [.no,.no,.val (k5 f (m+1))] ((stN (m+1)).map kD)=some ((stN (m+1)).map λs=>D.tup [kD s,.int (zbF f (m+1) s)]):=by
  refine zv _ _ λs I=>zw (γ1:=[.val (.int s.1),.val (.int s.2),.val (k5 f (m+1))]) rfl rfl ?_;have:=Ya f I;simp [this,kD]
 have u1:=wB f (stN (m+1));have u2:=wB (zbF f (m+1)) (stN (m+1));have Q:=Yl (stN (m+1));have em:((m:Int)+1)=((m+1:Nat):Int):=by omega
 rw [zdx];refine jN (zC (γ':=[.val (jO p m w wd T),.val S,.no]) ?_ (zC (γ':=[.val (jO p m w wd T),.val S,.val (k5 f (m+1))]) ?_ ?_))
 ·simp [nm1,zV,zg2,qQ]
  rw [em,J];simp [S]
 ·simp [nm2,z6,S,O,Z,u1,Q,z,k5]
 ·simp [nm3,z6,S,O,c2,u2,Q,z]
  rfl
end
def cvZ(K:List (Nat×Nat))(a b:Int):Nat:=K.countP λx=>decide ((x.1:Int)<=a) && decide (b<=(x.2:Int))
def muZ(K:List (Nat×Nat))(s:Nat×Nat):Nat:=K.countP λx=>decide (x=s)
theorem yz(x:Nat×Nat)(K:List (Nat×Nat))(a b:Int):(cvZ (x::K) a b:Int)=(cvZ K a b:Int)+if (x.1:Int)<=a/\b<=(x.2:Int)then 1 else 0:=by
 unfold cvZ;rw [List.countP_cons];by_cases h1:(x.1:Int)<=a
 ·by_cases h2:b<=(x.2:Int)
  ·rw [if_pos (show(decide ((x.1:Int)<=a) && decide (b<=(x.2:Int)))=true by simp only [decide_eq_true h1,decide_eq_true h2];rfl),if_pos ⟨h1,h2⟩];rfl
  ·rw [if_neg (show ¬(decide ((x.1:Int)<=a) && decide (b<=(x.2:Int)))=true by simp only [decide_eq_false h2,Bool.and_false];decide),if_neg λz=>h2 z.2];rfl
 ·rw [if_neg (show ¬(decide ((x.1:Int)<=a) && decide (b<=(x.2:Int)))=true by simp only [decide_eq_false h1,Bool.false_and];decide),if_neg λz=>h1 z.1];rfl
theorem Wi(x s:Nat×Nat)(K:List (Nat×Nat)):(muZ (x::K) s:Int)=(muZ K s:Int)+if (x.1=s.1/\x.2=s.2)then 1 else 0:=by
 unfold muZ;rw [List.countP_cons];by_cases h:x=s
 ·rw [if_pos (decide_eq_true h),if_pos (by rw [h];exact⟨rfl,rfl⟩)];rfl
 ·rw [if_neg (by simpa using h),if_neg λz=>h (Prod.ext z.1 z.2)];rfl
theorem ZY(s:Nat×Nat) : ∀K:List (Nat×Nat),(cvZ K s.1 s.2:Int) - ((cvZ K ((s.1:Int) - 1) s.2:Int)+(cvZ K s.1 ((s.2:Int)+1):Int))+(cvZ K ((s.1:Int) - 1) ((s.2:Int)+1):Int)=(muZ K s:Int)
 | []=>rfl
 | x::K=>by
  have z:=ZY s K;rw [yz,yz,yz,yz,Wi];generalize (cvZ K s.1 s.2:Int)=I at *;generalize (cvZ K ((s.1:Int) - 1) s.2:Int)=J at *;generalize (cvZ K s.1 ((s.2:Int)+1):Int)=O at *;generalize (cvZ K ((s.1:Int) - 1) ((s.2:Int)+1):Int)=Q at *;generalize (muZ K s:Int)=c5 at *
  repeat' split
  all_goals omega
section
variable{p:Int}{w:Nat->Bool}{wd:Nat->Nat}{T:Nat->Nat->Nat->Int}{m N:Nat}{A:Nat->Bar}
def wf(A:Nat->Bar)(N:Nat):List (Nat×Nat):=(zgX N).map λj=>((A j).s,(A j).s+(A j).n - 1)
theorem Yp(D:Decp p w wd T m N A) : ∀x,x∈wf A N->x∈stN (m+1):=λx hx=>by
 obtain⟨j,z,rfl⟩:=zhr.mp hx;have h1:=(D.ok j (zgZ.mp z)).n1;have h2:=(D.ok j (zgZ.mp z)).le;exact mem_st.mpr (by show(A j).s<=(A j).s+(A j).n - 1/\(A j).s+(A j).n - 1<m+1;omega)
theorem zdZ(D:Decp p w wd T m N A){i j:Nat}(I:i<=j):(cvL A N i j).length=cvZ (wf A N) i j:=by
 unfold cvL cvZ wf;rw [<- zhB,zje];refine zic λk z=>?_;have h1:=(D.ok k (zgZ.mp z)).n1;simp only [Bool.and_eq_true,zjG,decide_eq_true_eq];rw [has_iff,has_iff];omega
theorem zcc(D:Decp p w wd T m N A){a b:Int}(I:a<=b):atS (λs=>(cvZ (wf A N) s.1 s.2:Int)) (m+1) a b=(cvZ (wf A N) a b:Int):=by
 unfold atS;split
 ·next h=>
  show((cvZ (wf A N) (a.toNat:Int) (b.toNat:Int):Nat):Int)=_;rw [zjD h.1,zjD ⋯]
 ·next h=>
  have:cvZ (wf A N) a b=0:=by
   unfold cvZ;rw [zkq];intro x hx z;have:=mem_st.mp (Yp D x hx);simp only [Bool.and_eq_true,decide_eq_true_eq]at z;omega
  rw [this];rfl
theorem zdt(D:Decp p w wd T m N A){s:Nat×Nat}(z:s.1<=s.2):zbF (λs=>(cvZ (wf A N) s.1 s.2:Int)) (m+1) s=(muZ (wf A N) s:Int):=by
 unfold zbF;rw [zcc D ⋯,zcc D ⋯,zcc D ⋯];exact ZY s _
theorem wV(z:Pr p)(I : ∀k,wd k<=4)(O : ∀k x y,0<=T k x y/\T k x y<p)(Q:m<=20)(D:Decp p w wd T m N A){i j:Nat}(J:i<=j)(S:j<=m):F_kept [jO p m w wd T,.int i,.int j]=some (.val (.int ((cvZ (wf A N) i j:Nat):Int))):=by
 obtain⟨s,q,B,B2,l,l2,e,h1,h2,U,Y⟩:=zbL (w:=w) z I O Q J S;have:=Ww z D (n:=j - i) ⋯ (I i) h1 h2 U Y;rw [show i+(j - i)=j by omega]at this;rw [e,<- zdZ D J];congr 3;omega
end
def ZF:CO Fl:=(zI (Jv (.tp [7,8]) (zq F_law_ends_k22 (za (zc 5) (za (zc 6) zo)))) (qs 4 (jp (za (zc 6) (za (jp (za (sIx (zf 2) (zc 8)) (za (sIx (zf 2) (zc 7)) (za (zN (jz (zF (zD (zA (sIx (zf 3) (zc 5)))) (.nm 0) 1 [] ja (zN (zf 0))))) zo)))) zo)))))
theorem KM:F_law_row_k22=z5 9 (zI (qL 4 (qj zo)) (zI (yk (yl (zc 1)) (.tp [5,6]) ZF) (jR (jp (za (zc 0) (za (zN (zf 2)) (za (zN (zf 4)) zo))))))):=rfl
def YQ:CO Fl:=(zI (Jv (.tp [9,10]) (zq F_law_ends_k22 (za (zc 7) (za (zc 8) zo)))) (qs 6 (jk (zX F_law_rows_k22 (za (zc 0) (za (zu jq (zu jq (zc 1) (zg (.int 10))) (zu qI (zg (.int 20)) (zc 7))) (za (zc 2) (za (sIx (zf 5) (zc 10)) (za (sIx (zf 5) (zc 9)) zo)))))))))
theorem JZ:F_law_drawn_k22=z5 11 (zI (zQ 5 (jk (zF (ji (zu jq (Jx (zc 3)) (zg (.int 1)))) (.nm 0) 1 [0,1,4] ja (zu qx (zq F_law_cell (za (zc 1) (za (zu jq (zc 2) (zc 0)) zo))) (zu jq (zc 3) (zg (.int 1))))))) (zI (qL 6 (qj zo)) (zI (yk (yl (zc 3)) (.tp [7,8]) YQ) (zcj 6 (jR (zq F_law_row_k22 (za (zc 2) (za (zc 3) (za (zc 5) (za (zc 6) zo)))))))))):=rfl
section
variable{p:Int}{m:Nat}{w:Nat->Bool}{wd:Nat->Nat}{T:Nat->Nat->Nat->Int}
def qD(w:Nat->Bool)(wd:Nat->Nat)(T:Nat->Nat->Nat->Int)(m:Nat):List D:=(zgX m).map λk=>D.lst (qR (hiW w wd k) (wiW w wd k) (T k))
@[simp] theorem Km(m):(qD w wd T m).length=m:=by simp [qD]
theorem Jq(k):qD w wd T (k+1)=qD w wd T k++[D.lst (qR (hiW w wd k) (wiW w wd k) (T k))]:=by simp [qD,zh5]
theorem X3(k):jZ (k+1) w wd T=jZ k w wd T++[qC w wd T k]:=by simp [jZ,zh5]
theorem Wp(h v:Nat)(f:Nat->Nat->Int):zL (.nm 0) ja (zN (zf 0)) [Cell.no] (qR h v f)=some (zM h v f):=by
 unfold qR zM;refine zv _ _ λy z=>zw rfl rfl ?_;simp
abbrev rc(p:Int)(m:Nat)(w:Nat->Bool)(wd:Nat->Nat)(T:Nat->Nat->Nat->Int)(acc:List D)(c5 c6 c7 c8:Cell):Ctx:=[.val (.int p),.val (.str (kf m w)),.val (.lst (zz (m+1) λk=>(wd k:Int))),.val (.lst (qD w wd T m)),.own acc,c5,c6,c7,c8]
theorem Xu(hm:m<=5)(I : ∀k,wd k<=4){k:Nat}(z:k<m)(acc:List D)(ha:acc.length<lim)(c7 c8:Cell) : ∃J O,ZF (rc p m w wd T acc (.val (.int k)) (.val (.str (qv (wch (w k))))) c7 c8)=some (.next (rc p m w wd T (acc++[qC w wd T k]) (.val (.int k)) (.val (.str (qv (wch (w k))))) J O)):=by
 have hl:=jf;have h1:=YK w z;have h2:=Va w z;have Q:hiW w wd k<=lim:=by rw [Yx];have:=I (endR w k);omega
 have S:ixD (m+1) ((endR w k:Nat):Int)=some (endR w k):=by rw [j3,if_pos h1]
 have U:ixD (m+1) ((begR w k:Nat):Int)=some (begR w k):=by rw [j3,if_pos h2]
 have Y:ixD m (k:Int)=some k:=by rw [j3,if_pos z]
 have w1:(zz (m+1) λk=>(wd k:Int))[endR w k]? = some (.int (wd (endR w k):Int)):=xN (n:=m+1) (λk=>(wd k:Int)) h1;have w2:(zz (m+1) λk=>(wd k:Int))[begR w k]? = some (.int (wd (begR w k):Int)):=xN (n:=m+1) (λk=>(wd k:Int)) h2;have Z:(qD w wd T m)[k]? = some (D.lst (qR (hiW w wd k) (wiW w wd k) (T k))):=by simp [qD,z]
 refine⟨.val (.int ((begR w k:Nat):Int)),.val (.int ((endR w k:Nat):Int)),?_⟩;unfold ZF;rw [zO,Vg,yj];simp only [rc,xh,kW,qo,zha,zhb,zT,zg5,zhF,YJ,kB,kU,zhx,zhw];have cm:(zF (zD (zA (sIx (zf 3) (zc 5)))) (.nm 0) 1 [] ja (zN (zf 0))) [.val (.int p),.val (.str (kf m w)),.val (.lst (zz (m+1) λk=>(wd k:Int))),.val (.lst (qD w wd T m)),.own acc,.val (.int k),.val (.str (qv (wch (w k)))),.val (.int ((begR w k:Nat):Int)),.val (.int ((endR w k:Nat):Int))]=some (zM (hiW w wd k) (wiW w wd k) (T k)):=by
  simp only [yi,kY,yI,Ji,qO,qo,zha,zhb,zT,jC,Q5,zg5,zhF,qA,Km,Y,Z,wr,Q,if_true];exact Wp _ _ _
 simp only [vx,zaF,xh,kW,qo,Ji,qO,X4,zcd,cm,zha,zhb,zT,jC,qy,Q5,zg5,zhF,qA,xc,S,U,w1,w2,zhE,ziJ,ha,if_true];rw [<- Yx w wd k,<- W7 w wd k];rfl
theorem vO(O:m<=5)(Q : ∀k,wd k<=4):F_law_row_k22 [.int p,.str (kf m w),.lst (zz (m+1) λk=>(wd k:Int)),.lst (qD w wd T m)]=some (.val (jO p m w wd T)):=by
 have hl:=jf;have S:=k6 w (show m<=1000 by omega);have U : ∀(k s:Nat) (c5 c6 c7 c8:Cell),s+k=m->∃Y Z a0 a1,qh (.tp [5,6]) ZF ((ziz s k).map λ(k:Nat)=>D.tup [.int k,.str (qv (wch (w k)))]) (rc p m w wd T (jZ s w wd T) c5 c6 c7 c8)=some (.next (rc p m w wd T (jZ m w wd T) Y Z a0 a1)):=by
  intro k
  induction k with
  | zero=>
   intro s c5 c6 c7 c8 h;obtain rfl:s=m:=by omega
   exact⟨c5,c6,c7,c8,rfl⟩
  | succ k ih=>
   intro s c5 c6 c7 c8 h;obtain⟨z,I,e⟩:=Xu (p:=p) (w:=w) (T:=T) O Q (show s<m by omega) (jZ s w wd T) (by simp;omega) c7 c8;obtain⟨a3,a4,a5,a6,J⟩:=ih (s+1) (.val (.int s)) (.val (.str (qv (wch (w s))))) z I ⋯;refine⟨a3,a4,a5,a6,?_⟩;rw [zia,zhq,jD];show((ZF (rc p m w wd T _ (.val (.int s)) (.val (.str (qv (wch (w s))))) c7 c8)).bind _)=_;rw [e];rw [X3]at J;exact J
 obtain⟨d5,d6,z,I,e⟩:=U m 0 .no .no .no .no ⋯;rw [<- zie]at e;rw [KM];unfold z5;rw [zO];show(zI _ _ (rc p m w wd T [] .no .no .no .no)).bind _=_;rw [zO,Q8,Jj];simp only [rc,qo,zha,zhb,zT,zg5,S,if_true,wq];have e0:jZ 0 w wd T=[]:=rfl;simp only [rc,e0]at e;rw [e];simp;rfl
abbrev wc(ns:List Int)(p:Int)(m:Nat)(w:Nat->Bool)(wd:Nat->Nat)(wide:Nat)(acc:List D)(c7 c8 c9 c10:Cell):Ctx:=[.val (x9 ns),.val (.int 2),.val (.int p),.val (.str (kf m w)),.val (.int wide),.val (.lst (zz (m+1) λk=>(wd k:Int))),.own acc,c7,c8,c9,c10]
def T22(ns:List Int)(p:Int)(w:Nat->Bool)(wd:Nat->Nat)(k x y:Nat):Int:=Jp ns p (2+10+20*(k:Int)+(x:Int)*((wiW w wd k:Nat):Int)+(y:Int))
theorem YO{ns:List Int}(J:ns.length<=63)(O:Pr p)(hm:m<=5)(z : ∀k,wd k<=4)(wide:Nat){k:Nat}(I:k<m)(acc:List D)(ha:acc.length<lim)(c9 c10:Cell) : ∃Q S,YQ (wc ns p m w wd wide acc (.val (.int k)) (.val (.str (qv (wch (w k))))) c9 c10)=some (.next (wc ns p m w wd wide (acc++[D.lst (qR (hiW w wd k) (wiW w wd k) (T22 ns p w wd k))]) (.val (.int k)) (.val (.str (qv (wch (w k))))) Q S)):=by
 have hl:=jf;have h1:=YK w I;have h2:=Va w I;have U:ixD (m+1) ((endR w k:Nat):Int)=some (endR w k):=by rw [j3,if_pos h1]
 have Y:ixD (m+1) ((begR w k:Nat):Int)=some (begR w k):=by rw [j3,if_pos h2]
 have w1:(zz (m+1) λk=>(wd k:Int))[endR w k]? = some (.int (wd (endR w k):Int)):=xN (n:=m+1) (λk=>(wd k:Int)) h1;have w2:(zz (m+1) λk=>(wd k:Int))[begR w k]? = some (.int (wd (begR w k):Int)):=xN (n:=m+1) (λk=>(wd k:Int)) h2;have Z:Zg 20 (k:Int)=true:=kc _ _ ⋯ ⋯;have R:=zcU J O (at_:=2+10+20*(k:Int)) ⋯ ⋯ (h:=wd (endR w k)) (w:=wd (begR w k)) (z _) (z _);refine⟨.val (.int ((begR w k:Nat):Int)),.val (.int ((endR w k:Nat):Int)),?_⟩;unfold YQ;rw [zO,Vg,yj];simp only [wc,xh,kW,qo,zha,zhb,zT,zg5,zhF,YJ,kB,kU,zhx,zhw];have bm:qI (.int 20) (.int (k:Int))=some (.int (20*(k:Int))):=by rw [WS,Z];rfl
 simp only [vx,Q7,W3,xh,kW,qo,kX,Q9,Ji,qO,QU,bm,zha,zhb,zT,jC,qy,Q5,zg5,zhF,qA,xc,U,Y,w1,w2,zhE,ziJ,ha,if_true,R,wI];unfold T22;rw [Yx,W7];rfl
theorem yt{ns:List Int}(J:ns.length<=63)(O:Pr p)(Q:m<=5){wide:Nat}(hw:wide<=4) :
 ∃wd T,F_law_drawn_k22 [x9 ns,.int 2,.int p,.str (kf m w),.int wide]=some (.val (jO p m w wd T))/\(∀k,wd k<=wide)/\∀k x y,0<=T k x y/\T k x y<p:=by
 have hl:=jf;have S:m+1<=lim:=by omega
 have U:=k6 w (show m<=1000 by omega);let wd:Nat->Nat:=λk=>(qN ns (2+(k:Int))%((wide:Int)+1)).toNat;have z : ∀k:Nat,qN ns (2+(k:Int))%((wide:Int)+1)=(wd k:Int)/\wd k<=wide:=λk=>by
  have g1:=zhM (qN ns (2+(k:Int))) (show(wide:Int)+1≠0 by omega);have g2:=zht (qN ns (2+(k:Int))) (show(0:Int)<(wide:Int)+1 by omega);have:(wd k:Int)=qN ns (2+(k:Int))%((wide:Int)+1):=zjD g1;exact⟨this.symm,by omega⟩
 refine⟨wd,T22 ns p w wd,?_,λk=>(z k).2,λk x y=>zb9 O.pos⟩;have I : ∀k,wd k<=4:=λk=>by have:=(z k).2;omega
 generalize wd=wd at z I ⊢;have a3:(0:Int)<(wide:Int)+1:=by omega
 have k1:zL (.nm 0) ja (zu qx (zq F_law_cell (za (zc 1) (za (zu jq (zc 2) (zc 0)) zo))) (zu jq (zc 3) (zg (.int 1)))) [Cell.no,Cell.val (x9 ns),Cell.val (.int 2),Cell.val (.int wide)] (zz (m+1) λi=>(i:Int))=some (zz (m+1) λk=>(wd k:Int)):=by
  rw [z9,z9];refine zv _ _ λk Y=>zw rfl rfl ?_;have Y:=zgZ.mp Y;simp [(Zd J (k:=2+(k:Int)) ⋯ ⋯).1,a3,(z k).1]
 have e1:(zQ 5 (jk (zF (ji (zu jq (Jx (zc 3)) (zg (.int 1)))) (.nm 0) 1 [0,1,4] ja (zu qx (zq F_law_cell (za (zc 1) (za (zu jq (zc 2) (zc 0)) zo))) (zu jq (zc 3) (zg (.int 1))))))) (zV 11 [x9 ns,.int 2,.int p,.str (kf m w),.int wide])=some (.next [.val (x9 ns),.val (.int 2),.val (.int p),.val (.str (kf m w)),.val (.int wide),.val (.lst (zz (m+1) λk=>(wd k:Int))),.no,.no,.no,.no,.no]):=by
  rw [Jh,Q7,yi,vw,show zV 11 [x9 ns,D.int 2,.int p,.str (kf m w),.int wide]=[.val (x9 ns),.val (.int 2),.val (.int p),.val (.str (kf m w)),.val (.int wide),.no,.no,.no,.no,.no,.no]from rfl];simp only [Q9,zce,qo,kX,zha,zhb,zT,zg5,U,if_true,Qd,QU,qA];rw [show((m:Int)+1)=((m+1:Nat):Int)by omega];simp only [wX S,if_true,zh1,zg5,jK,xc,S];rw [show z6 1 [0,1,4] [Cell.val (x9 ns),Cell.val (D.int 2),Cell.val (D.int p),Cell.val (D.str (kf m w)),Cell.val (D.int (wide:Int)),Cell.no,Cell.no,Cell.no,Cell.no,Cell.no,Cell.no]=[Cell.no,Cell.val (x9 ns),Cell.val (.int 2),Cell.val (.int wide)]from rfl,k1];rfl
 have a5 : ∀(k s:Nat) (c7 c8 c9 c10:Cell),s+k=m->∃a6 a7 a8 a9,qh (.tp [7,8]) YQ ((ziz s k).map λ(k:Nat)=>D.tup [.int k,.str (qv (wch (w k)))]) (wc ns p m w wd wide (qD w wd (T22 ns p w wd) s) c7 c8 c9 c10)=some (.next (wc ns p m w wd wide (qD w wd (T22 ns p w wd) m) a6 a7 a8 a9)):=by
  intro k
  induction k with
  | zero=>
   intro s c7 c8 c9 c10 h;obtain rfl:s=m:=by omega
   exact⟨c7,c8,c9,c10,rfl⟩
  | succ k ih=>
   intro s c7 c8 c9 c10 h;obtain⟨Z,a0,e⟩:=YO (p:=p) (w:=w) J O Q I wide (show s<m by omega) (qD w wd (T22 ns p w wd) s) (by simp;omega) c9 c10;obtain⟨ab,ac,ad,ae,e'⟩:=ih (s+1) (.val (.int s)) (.val (.str (qv (wch (w s))))) Z a0 ⋯;refine⟨ab,ac,ad,ae,?_⟩;rw [zia,zhq,jD];show((YQ (wc ns p m w wd wide _ (.val (.int s)) (.val (.str (qv (wch (w s))))) c9 c10)).bind _)=_;rw [e];rw [Jq]at e';exact e'
 obtain⟨d7,d8,Z,a0,e⟩:=a5 m 0 .no .no .no .no ⋯;rw [<- zie]at e;have R:=vO (p:=p) (w:=w) (T:=T22 ns p w wd) Q I;rw [JZ];unfold z5;rw [zO,e1,qV,zO];show(zI _ _ (wc ns p m w wd wide [] .no .no .no .no)).bind _=_;rw [zO,Q8,Jj];simp only [wc,qo,zha,zhb,zT,zg5,U,if_true,wq];have e0:qD w wd (T22 ns p w wd) 0=[]:=rfl;simp only [wc,e0]at e;rw [e];simp [R]
end
def u1:CO Fl:=(zQ 1 (zq F_law_cell (za (zc 0) (za (zg (.int 0)) zo))))
def u2:CO Fl:=(zQ 2 (sIx (jz (qj (za (zg (.int 2)) (za (zg (.int 3)) (za (zg (.int 5)) (za (zg (.int 7)) zo)))))) (zu qx (zc 1) (zg (.int 4)))))
def u3:CO Fl:=(Jv (.tp [3,4]) (sIx (jz (qj (za (jp (za (zg (.int 4)) (za (zg (.int 2)) zo))) (za (jp (za (zg (.int 3)) (za (zg (.int 2)) zo))) (za (jp (za (zg (.int 2)) (za (zg (.int 2)) zo))) (za (jp (za (zg (.int 2)) (za (zg (.int 2)) zo))) (za (jp (za (zg (.int 6)) (za (zg (.int 1)) zo))) (za (jp (za (zg (.int 5)) (za (zg (.int 1)) zo))) (za (jp (za (zg (.int 4)) (za (zg (.int 1)) zo))) (za (jp (za (zg (.int 3)) (za (zg (.int 1)) zo))) zo)))))))))) (zu qx (zc 1) (zg (.int 8)))))
theorem y6{c:Int}{n:Nat}(z:0<n) : ∃a:Nat,c%(n:Int)=a/\a<n:=by
 obtain⟨a,ha⟩:=ziR (zhM c (show(n:Int)≠0 by omega));have:=zht c (show(0:Int)<n by omega);exact⟨a,ha,by omega⟩
theorem zda{c:Int}(h:0<=c) : ∃q:Nat,Pr (q:Int)/\([D.int 2,.int 3,.int 5,.int 7])[(c%4).toNat]? = some (.int q)/\ixD 4 (c%4)=some (c%4).toNat:=by
 have h1:=zhM c (show(4:Int)≠0 by decide);have h2:=zht c (show(0:Int)<4 by decide);obtain⟨r,z⟩:=ziR h1;rw [z];have I:r<4:=by omega
 rw [j3,if_pos I,zh1];rcases (by omega:r=0\/r=1\/r=2\/r=3)with e | e | e | e<;>subst e
 ·exact⟨2,.inl rfl,rfl,rfl⟩
 ·exact⟨3,.inr (.inl rfl),rfl,rfl⟩
 ·exact⟨5,.inr (.inr (.inl rfl)),rfl,rfl⟩
 ·exact⟨7,.inr (.inr (.inr rfl)),rfl,rfl⟩
section
variable{p:Int}{w:Nat->Bool}{wd:Nat->Nat}{T:Nat->Nat->Nat->Int}{m N:Nat}{A:Nat->Bar}
theorem xK(I:Pr p)(J : ∀k,wd k<=4)(O : ∀k x y,0<=T k x y/\T k x y<p)(Q:m<=5)(D:Decp p w wd T m N A):F_numbers [jO p m w wd T]=some (.val (k5 (λs=>(muZ (wf A N) s:Int)) (m+1))):=by
 rw [XE Q (λs=>(cvZ (wf A N) s.1 s.2:Int)) λs z=>by
  have:=mem_st.mp z;exact wV I J O ⋯ D this.1 ⋯]
 congr 2;unfold k5;congr 1;exact zhi λs z=>by rw [zdt D (mem_st.mp z).1]
end
theorem ZG{α:Type}(m:Nat)(f:Nat->α):((zgX m).map f).reverse=(zgX m).map λk=>f (m - 1 - k):=by
 apply List.ext_getElem
 ·simp
 ·intro i h1 h2
  simp at h1 h2 ⊢
theorem Zl{p:Int}{m:Nat}(w:Nat->Bool)(wd:Nat->Nat)(T:Nat->Nat->Nat->Int)(hm:m<=900):F_mirrored [jO p m w wd T]=some (.val (jO p m (λk=> !w (m - 1 - k)) (λk=>wd (m - k)) λk=>T (m - 1 - k))):=by
 have hl:=jf;have Q:m<=lim:=by omega
 have z:jw (jO p m w wd T)=some (.T,[.int p,.tup (zz (m+1) λk=>(wd k:Int)),.tup (jZ m w wd T)]):=rfl;have go:zL (.nm 0) ja (jp (za (zq F_other_way (za (sIx (zf 0) (zg (.int 0))) zo)) (za (sIx (zf 0) (zg (.int 1))) zo))) [Cell.no] ((zgX m).map λk=>qC w wd T (m - 1 - k))=some (jZ m (λk=> !w (m - 1 - k)) (λk=>wd (m - k)) λk=>T (m - 1 - k)):=by
  unfold jZ;refine zv _ _ λk I=>zw rfl rfl ?_;have I:=zgZ.mp I;have S:jw (qC w wd T (m - 1 - k))=some (.T,[.str (qv (wch (w (m - 1 - k)))),jV (hiW w wd (m - 1 - k)) (wiW w wd (m - 1 - k)) (T (m - 1 - k))]):=rfl;have U:=ke (w (m - 1 - k));have Y:m - k=m - 1 - k+1:=by omega
  have Z:m - (k+1)=m - 1 - k:=by omega
  simp [S,U,qC,hiW,wiW];rw [Y,Z];cases w (m - 1 - k)<;>simp
 have J:(jZ m w wd T).reverse=(zgX m).map λk=>qC w wd T (m - 1 - k):=ZG m _;have O:(zz (m+1) λk=>(wd k:Int)).reverse=zz (m+1) λk=>((wd (m - k):Nat):Int):=by
  unfold zz;rw [ZG];simp
 simp only [F_mirrored,z5,zV];rw [zO];simp [z,zec,wG,J,O,Q,z6,qb,zg2];rw [go];simp [z,zec,wG,J,O,jO]
theorem k0{p:Int}{m:Nat}(w:Nat->Bool)(wd:Nat->Nat)(T:Nat->Nat->Nat->Int)(Y:m<=900)(z : ∀k,wd k<=lim):F_opposite [jO p m w wd T]=some (.val (jO p m (λk=> !w k) wd λk i j=>T k j i)):=by
 have Z:=jf;have J:m<=lim:=by omega
 have I:jw (jO p m w wd T)=some (.T,[.int p,.tup (zz (m+1) λk=>(wd k:Int)),.tup (jZ m w wd T)]):=rfl;have go:zL (.nm 0) ja (jp (za (zq F_other_way (za (sIx (zf 0) (zg (.int 0))) zo)) (za (zq F_turned_over (za (sIx (zf 0) (zg (.int 1))) zo)) zo))) [Cell.no] (jZ m w wd T)=some (jZ m (λk=> !w k) wd λk i j=>T k j i):=by
  unfold jZ;refine zv _ _ λk hk=>zw rfl rfl ?_;have h1:hiW w wd k<=lim:=by unfold hiW;split<;>exact z _
  have h2:wiW w wd k<=lim:=by unfold wiW;split<;>exact z _
  have O:jw (qC w wd T k)=some (.T,[.str (qv (wch (w k))),jV (hiW w wd k) (wiW w wd k) (T k)]):=rfl;have Q:=ke (w k);have S:=xD (T k) h1 h2;have e1:hiW (λk=> !w k) wd k=wiW w wd k:=by unfold hiW wiW;cases e:w k<;>simp [e]
  have U:wiW (λk=> !w k) wd k=hiW w wd k:=by unfold hiW wiW;cases e:w k<;>simp [e]
  simp [O,Q,S];simp [qC,e1,U]
 simp only [F_opposite,z5,zV];rw [zO];simp [I,J,z6,qb,zg2];rw [go];simp [I,jO]
section
variable{p:Int}{w:Nat->Bool}{wd:Nat->Nat}{T:Nat->Nat->Nat->Int}{m N:Nat}{A:Nat->Bar}
def zfl(m:Nat)(b:Bar):Bar:=⟨m+1 - (b.s+b.n),b.n,λr=>b.v (m - r)⟩
theorem ki{b:Bar}(h:b.s+b.n<=m+1){r:Nat}(z:r<=m):(zfl m b).has r=b.has (m - r):=by
 rw [ziA,has_iff,has_iff];show m+1 - (b.s+b.n)<=r/\r<m+1 - (b.s+b.n)+b.n↔_;omega
theorem Wn(w:Nat->Bool){m k:Nat}(z:k<m):m - begR (λk=> !w (m - 1 - k)) k=begR w (m - 1 - k)/\m - endR (λk=> !w (m - 1 - k)) k=endR w (m - 1 - k)/\begR (λk=> !w (m - 1 - k)) k<=m/\endR (λk=> !w (m - 1 - k)) k<=m:=by
 unfold begR endR;cases h:w (m - 1 - k)<;>simp [h]<;>omega
theorem Wo(D:Decp p w wd T m N A):Decp p (λk=> !w (m - 1 - k)) (λk=>wd (m - k)) (λk=>T (m - 1 - k)) m N (λj=>zfl m (A j)) where
 ok:=λj z=>by
  have o:=D.ok j z;refine⟨o.n1,?_,λr i I hi=>?_,λk U O i hi=>?_⟩
  ·show m+1 - ((A j).s+(A j).n)+(A j).n<=m+1
   have:=o.le;omega
  ·have Y:r<=m:=by
    have:=(has_iff.mp I).2;have:r<m+1 - ((A j).s+(A j).n)+(A j).n:=this;have:=o.le;omega
   rw [ki o.le Y]at I;exact o.rng (m - r) i I hi
  ·obtain⟨e1,Q,Z,e4⟩:=Wn w U
   rw [ki o.le Z,e1]at O;rw [ki o.le e4,Q];show app (T (m - 1 - k)) (wd (m - begR (λk=> !w (m - 1 - k)) k)) ((A j).v (m - begR (λk=> !w (m - 1 - k)) k)) i%p=(if _ then (A j).v (m - endR (λk=> !w (m - 1 - k)) k) i else 0)%p;have hi:i<wd (m - endR (λk=> !w (m - 1 - k)) k):=hi;rw [e1,Q]at *;exact o.arr (m - 1 - k) ⋯ O i hi
 sp:=λr I v=>by
  obtain⟨t,J⟩:=D.sp (m - r) ⋯ v;refine⟨t,λi hi=>?_⟩;rw [J i hi];congr 1;exact zn λj z=>by rw [ki (D.ok j z).le I];rfl
 inj:=λr I t J j z S=>by
  rw [ki (D.ok j z).le I]at S;refine D.inj (m - r) ⋯ t (λi hi=>(congrArg (· % p) (zn λj z=>?_)).trans (J i hi)) j z S;rw [ki (D.ok j z).le I];rfl
 cnt:=λr I=>by
  rw [<- D.cnt (m - r) ⋯];unfold ixs;congr 1;exact zkz λj z=>by rw [ki (D.ok j (zgZ.mp z)).le I]
def ym(m:Nat)(s:Nat×Nat):Nat×Nat:=(m - s.2,m - s.1)
theorem Wm(D:Decp p w wd T m N A):wf (λj=>zfl m (A j)) N=(wf A N).map (ym m):=by
 unfold wf;rw [zhU];refine zhi λj z=>?_;have h1:=(D.ok j (zgZ.mp z)).n1;have h2:=(D.ok j (zgZ.mp z)).le;show(m+1 - ((A j).s+(A j).n),m+1 - ((A j).s+(A j).n)+(A j).n - 1)=(m - ((A j).s+(A j).n - 1),m - (A j).s);rw [Prod.mk.injEq];omega
theorem kH{s:Nat×Nat}(h:s.1<=s.2/\s.2<m+1):ym m (ym m s)=s:=by
 unfold ym;obtain⟨a,b⟩:=s;dsimp only at *;rw [Prod.mk.injEq];omega
theorem Ye{s:Nat×Nat}(h:s∈stN (m+1)):ym m s∈stN (m+1):=by
 have:=mem_st.mp h;exact mem_st.mpr (by show m - s.2<=m - s.1/\m - s.1<m+1;omega)
theorem zdz{K:List (Nat×Nat)}(I : ∀x,x∈K->x∈stN (m+1)){s:Nat×Nat}(J:s∈stN (m+1)):muZ (K.map (ym m)) s=muZ K (ym m s):=by
 unfold muZ;rw [zje];refine zic λx hx=>?_;have h1:=mem_st.mp (I x hx);simp only [zjG,decide_eq_true_eq];exact⟨λz=>by rw [<- z,kH h1],λz=>by rw [z,kH (mem_st.mp J)]⟩
theorem zdW{K:List (Nat×Nat)}(z : ∀x,x∈K->x∈stN (m+1)){i j:Nat}(hi:i<=m)(I:j<=m):cvZ (K.map (ym m)) ((m:Int) - j) ((m:Int) - i)=cvZ K i j:=by
 unfold cvZ;rw [zje];refine zic λx hx=>?_;have h1:=mem_st.mp (z x hx);simp only [zjG,Bool.and_eq_true,decide_eq_true_eq];show(((m - x.2:Nat):Int)<=(m:Int) - j/\(m:Int) - i<=((m - x.1:Nat):Int))↔_;constructor
 ·intro h
  constructor<;>omega
 ·intro h
  constructor<;>omega
def XY(A:Nat->Bar)(N:Nat)(g:Nat->Nat->Nat->Int)(j:Nat):Bar:=⟨(A j).s,(A j).n,λr i=>g r ((ixs A N r).idxOf j) i⟩
theorem WI(g:Nat->Nat->Nat->Int)(r:Nat):ixs (XY A N g) N r=ixs A N r:=rfl
theorem YN(g:Nat->Nat->Nat->Int):wf (XY A N g) N=wf A N:=rfl
theorem zcI(D:Decp p w wd T m N A){r:Nat}(z:r<=m)(v:Vc) : ∃t,∀i,i<wd r->v i%p=app (qi A N r) (wd r) t i%p:=by
 obtain⟨t,I⟩:=D.sp r z v;refine⟨λk=>t ((ixs A N r).getD k 0),λi hi=>?_⟩;rw [I i hi,JQ,D.cnt r z]
theorem Z5(Z:Pr p)(a9 : ∀k,wd k<=8)(D:Decp p w wd T m N A) : ∃g,Decp p (λk=> !w k) wd (λk i j=>T k j i) m N (XY A N g):=by
 have p0:=Z.pos;have ag : ∀r,∃g:Nat->Nat->Int,r<=m->zeL p (wd r) (qi A N r) g/\zeL p (wd r) g (qi A N r)/\∀i j,0<=g i j/\g i j<p:=λr=>by
  by_cases O:r<=m
  ·obtain⟨g,h⟩:=Zs Z (a9 r) (zcI D O)
   exact⟨g,λ_=>h⟩
  ·exact⟨λ_ _=>0,λz=>absurd z O⟩
 obtain⟨g,Y⟩:=zjN ag;have pos : ∀{r l:Nat},l<(ixs A N r).length->(ixs A N r).idxOf ((ixs A N r).getD l 0)=l:=λ{r l} J=>by
  rw [zg4,zg0 J,zjZ,(kJ A N r).idxOf_getElem _ J]
 have bF : ∀{r:Nat},r<=m->∀i l,l<wd r->qi (XY A N g) N r i l=g r l i:=λ{r} O i l J=>by
  show g r ((ixs A N r).idxOf ((ixs A N r).getD l 0)) i=_;rw [pos (by rw [D.cnt r O];exact J)]
 refine⟨g,YU Z a9 (λj hj=>?_) (λr O=>by rw [WI];exact D.cnt r O) λr O v=>?_⟩
 ·have o:=D.ok j hj
  refine⟨o.n1,o.le,λr i O hi=>?_,λk hk Q x hx=>?_⟩
  ·have aj:r<=m:=by have:=(has_iff.mp O).2;have:r<(A j).s+(A j).n:=this;have:=o.le;omega
   exact(Y r aj).2.2 _ _
  ·have eb:begR (λk=> !w k) k=endR w k:=by unfold begR endR;cases h:w k<;>simp [h]
   have ee:endR (λk=> !w k) k=begR w k:=by unfold begR endR;cases h:w k<;>simp [h]
   have S:begR w k<=m:=by unfold begR;split<;>omega
   have a1:endR w k<=m:=by unfold endR;split<;>omega
   rw [eb]at Q;rw [ee]at hx;rw [eb,ee];have Q:(A j).has (endR w k)=true:=Q;generalize ac:begR w k=b at *;generalize ad:endR w k=e at *;show sumTo (λi=>T k i x*g e ((ixs A N e).idxOf j) i) (wd e)%p=(if (A j).has b=true then g b ((ixs A N b).idxOf j) x else 0)%p;obtain⟨I,a2,a3⟩:=ZU hj Q;have ak:(ixs A N e).idxOf j=I:=by rw [<- a3];exact pos a2
   rw [ak];have al:I<wd e:=by rw [<- D.cnt e a1];exact a2
   have on : ∀l,l<wd b->sumTo (λy=>sumTo (λi=>T k i y*g e I i) (wd e)*qi A N b y l) (wd b)%p=(if (ixs A N b).getD l 0=j then 1 else 0)%p:=λl J=>by
    have an:l<(ixs A N b).length:=by rw [D.cnt b S];exact J
    obtain⟨h1,h2⟩:=Yr an;have e1:sumTo (λy=>sumTo (λi=>T k i y*g e I i) (wd e)*qi A N b y l) (wd b)=sumTo (λi=>g e I i*app (T k) (wd b) ((A ((ixs A N b).getD l 0)).v b) i) (wd e):=by
     have:sumTo (λy=>sumTo (λi=>T k i y*g e I i) (wd e)*qi A N b y l) (wd b)=sumTo (λy=>sumTo (λi=>g e I i*(T k i y*qi A N b y l)) (wd e)) (wd b):=zn λy _=>by
      rw [<- j8];exact zn λi _=>by rw [zix (T k i y),ziw]
     rw [this,j7];exact zn λi _=>by rw [jo];rfl
    rw [e1];have ar : ∀i,i<wd e->app (T k) (wd b) ((A ((ixs A N b).getD l 0)).v b) i%p=(if (A ((ixs A N b).getD l 0)).has e=true then (A ((ixs A N b).getD l 0)).v e i else 0)%p:=λi hi=>by
     have:=(D.ok _ h1).arr k hk (by rw [ac];exact h2) i (by rw [ad];exact hi);rw [ac,ad]at this;exact this
    have e2:sumTo (λi=>g e I i*app (T k) (wd b) ((A ((ixs A N b).getD l 0)).v b) i) (wd e)%p=sumTo (λi=>g e I i*(if (A ((ixs A N b).getD l 0)).has e=true then (A ((ixs A N b).getD l 0)).v e i else 0)) (wd e)%p:=zK λi hi=>wS rfl (ar i hi);rw [e2];cases hh:(A ((ixs A N b).getD l 0)).has e with
    | false=>
     have:(ixs A N b).getD l 0≠j:=λz=>by rw [z,Q]at hh;cases hh
     rw [if_neg this];simp [zG]
    | true=>
     obtain⟨le,ae,a5⟩:=ZU h1 hh;have u:=(Y e a1).2.1 I le al (by rw [<- D.cnt e a1];exact ae);have e3:sumTo (λi=>g e I i*qi A N e i le) (wd e)=sumTo (λi=>g e I i*(if true=true then (A ((ixs A N b).getD l 0)).v e i else 0)) (wd e):=zn λi _=>by
      rw [if_pos rfl];show _*(A ((ixs A N e).getD le 0)).v e i=_;rw [a5]
     rw [<- e3,u];unfold dlt;by_cases q:I=le
     ·rw [if_pos q,if_pos (by rw [<- a5,<- q,a3])]
     ·rw [if_neg q,if_neg λz=>q (by
       have:(ixs A N e).getD le 0=(ixs A N e).getD I 0:=by rw [a5,a3,z]
       exact(wa (kJ A N e) ae a2 this).symm)]
   have e4:sumTo (λi=>T k i x*g e I i) (wd e)%p=sumTo (λl=>(if (ixs A N b).getD l 0=j then 1 else 0)*g b l x) (wd b)%p:=by
    have s1:sumTo (λl=>(if (ixs A N b).getD l 0=j then 1 else 0)*g b l x) (wd b)%p=sumTo (λl=>sumTo (λy=>sumTo (λi=>T k i y*g e I i) (wd e)*qi A N b y l) (wd b)*g b l x) (wd b)%p:=zK λl J=>wS (on l J).symm rfl;rw [s1];have s2:sumTo (λl=>sumTo (λy=>sumTo (λi=>T k i y*g e I i) (wd e)*qi A N b y l) (wd b)*g b l x) (wd b)=sumTo (λy=>sumTo (λi=>T k i y*g e I i) (wd e)*sumTo (λl=>qi A N b y l*g b l x) (wd b)) (wd b):=by
     have:sumTo (λl=>sumTo (λy=>sumTo (λi=>T k i y*g e I i) (wd e)*qi A N b y l) (wd b)*g b l x) (wd b)=sumTo (λl=>sumTo (λy=>sumTo (λi=>T k i y*g e I i) (wd e)*(qi A N b y l*g b l x)) (wd b)) (wd b):=zn λl _=>by
      rw [<- j8];exact zn λy _=>by rw [ziw]
     rw [this,j7];exact zn λy _=>jo ..
    rw [s2];have s3:sumTo (λy=>sumTo (λi=>T k i y*g e I i) (wd e)*sumTo (λl=>qi A N b y l*g b l x) (wd b)) (wd b)%p=sumTo (λy=>sumTo (λi=>T k i y*g e I i) (wd e)*dlt y x) (wd b)%p:=zK λy hy=>wS rfl ((Y b S).1 y x hy hx);rw [s3,zR (i:=x) hx λy _ U=>by unfold dlt;rw [if_neg U];simp];unfold dlt;rw [if_pos rfl,zj2]
   rw [e4];cases hh:(A j).has b with
   | false=>
    have:sumTo (λl=>(if (ixs A N b).getD l 0=j then 1 else 0)*g b l x) (wd b)=sumTo (λ_=>0) (wd b):=zn λl J=>by
     rw [if_neg λz=>by
      have:=(Yr (A:=A) (N:=N) (r:=b) (j:=l) (by rw [D.cnt b S];exact J)).2;rw [z,hh]at this;cases this]
     simp
    rw [this,zG];rfl
   | true=>
    obtain⟨jb,a7,a8⟩:=ZU hj hh;have au:(ixs A N b).idxOf j=jb:=by rw [<- a8];exact pos a7
    rw [if_pos rfl,au,zR (i:=jb) (by rw [<- D.cnt b S];exact a7) λl J U=>by
     rw [if_neg λz=>U (wa (kJ A N b) (by rw [D.cnt b S];exact J) a7 (by rw [z,a8]))];simp,if_pos a8,Int.one_mul]
 ·refine⟨λl=>sumTo (λy=>v y*qi A N r y l) (wd r),λi hi=>?_⟩
  unfold app;have e1:sumTo (λl=>qi (XY A N g) N r i l*sumTo (λy=>v y*qi A N r y l) (wd r)) (wd r)=sumTo (λy=>v y*sumTo (λl=>qi A N r y l*g r l i) (wd r)) (wd r):=by
   have:sumTo (λl=>qi (XY A N g) N r i l*sumTo (λy=>v y*qi A N r y l) (wd r)) (wd r)=sumTo (λl=>sumTo (λy=>v y*(qi A N r y l*g r l i)) (wd r)) (wd r):=zn λl J=>by
    rw [bF O i l J,zix,<- j8];exact zn λy _=>by rw [ziw]
   rw [this,j7];exact zn λy _=>jo ..
  rw [e1];have e2:sumTo (λy=>v y*sumTo (λl=>qi A N r y l*g r l i) (wd r)) (wd r)%p=sumTo (λy=>v y*dlt y i) (wd r)%p:=zK λy hy=>wS rfl ((Y r O).1 y i hy hi);rw [e2,zR (i:=i) hi λy _ U=>by unfold dlt;rw [if_neg U];simp];unfold dlt;rw [if_pos rfl,zj2]
end
def F_law_seen:List D->Option Res:=z5 5 (zI (zee 2 (Xr (zc 0)) (.tp [3,4]) (jp (za (zu qP (zu qP (zc 1) (zg (.int 1))) (zc 4)) (za (zu qP (zu qP (zc 1) (zg (.int 1))) (zc 3)) zo))) (Xs (zc 0) (jp (za (zc 3) (za (zc 4) zo))))) (kz 2))
def F_law_k25:List D->Option Res:=z5 9 (zI (zQ 1 (zq F_law_cell (za (zc 0) (za (zg (.int 0)) zo)))) (zI (zQ 2 (sIx (jz (qj (za (zg (.int 2)) (za (zg (.int 3)) (za (zg (.int 5)) (za (zg (.int 7)) zo)))))) (zu qx (zc 1) (zg (.int 4))))) (zI (zQ 3 (zu jq (zg (.int 1)) (zu qx (zu Z7 (zc 1) (zg (.int 4))) (zg (.int 5))))) (zI (zQ 4 (zq F_law_ways_k22 (za (zu Z7 (zc 1) (zg (.int 32))) (za (zc 3) zo)))) (zI (zQ 5 (zq F_law_drawn_k22 (za (zc 0) (za (zg (.int 2)) (za (zc 2) (za (zc 4) (za (zg (.int 3)) zo))))))) (zI (zQ 6 (zq F_numbers (za (zc 5) zo))) (zI (sIf (za6 (sB (zu zaE (zq F_numbers (za (zq F_mirrored (za (zc 5) zo)) zo)) (zq F_law_seen (za (zc 6) (za (zc 3) zo))))) (sB (zu zaE (zq F_numbers (za (zq F_opposite (za (zc 5) zo)) zo)) (zc 6)))) (jR (zg (.bl false))) j4) (zI (sIf (sB (zu zaE (zq F_numbers (za (zq F_opposite (za (zq F_mirrored (za (zc 5) zo)) zo)) zo)) (zq F_law_seen (za (zc 6) (za (zc 3) zo))))) (jR (zg (.bl false))) j4) (zI (zQ 7 (zu qx (zq F_law_cell (za (zc 0) (za (zg (.int 1)) zo))) (zc 3))) (zI (zQ 8 (zu jq (zc 7) (zu qx (zu Z7 (zq F_law_cell (za (zc 0) (za (zg (.int 1)) zo))) (zg (.int 7))) (zu qP (zc 3) (zc 7))))) (zI (sIf (sB (zu dNe (zq F_kept (za (zq F_mirrored (za (zc 5) zo)) (za (zu qP (zu qP (zc 3) (zg (.int 1))) (zc 8)) (za (zu qP (zu qP (zc 3) (zg (.int 1))) (zc 7)) zo)))) (zq F_kept (za (zc 5) (za (zc 7) (za (zc 8) zo)))))) (jR (zg (.bl false))) j4) (jR (zu dEq (zc 5) (zq F_law_drawn_k22 (za (zc 0) (za (zg (.int 2)) (za (zc 2) (za (zc 4) (za (zg (.int 3)) zo)))))))))))))))))))
def zcy:CO Fl:=zQ 1 (zq F_law_cell (za (zc 0) (za (zg (.int 0)) zo)))
def zcx:CO Fl:=zQ 2 (sIx (jz (qj (za (zg (.int 2)) (za (zg (.int 3)) (za (zg (.int 5)) (za (zg (.int 7)) zo)))))) (zu qx (zc 1) (zg (.int 4))))
def zcw:CO Fl:=zQ 3 (zu jq (zg (.int 1)) (zu qx (zu Z7 (zc 1) (zg (.int 4))) (zg (.int 5))))
def zcv:CO Fl:=zQ 4 (zq F_law_ways_k22 (za (zu Z7 (zc 1) (zg (.int 32))) (za (zc 3) zo)))
def zcu:CO Fl:=zQ 5 (zq F_law_drawn_k22 (za (zc 0) (za (zg (.int 2)) (za (zc 2) (za (zc 4) (za (zg (.int 3)) zo))))))
def zct:CO Fl:=zQ 6 (zq F_numbers (za (zc 5) zo))
def zcs:CO Fl:=sIf (za6 (sB (zu zaE (zq F_numbers (za (zq F_mirrored (za (zc 5) zo)) zo)) (zq F_law_seen (za (zc 6) (za (zc 3) zo))))) (sB (zu zaE (zq F_numbers (za (zq F_opposite (za (zc 5) zo)) zo)) (zc 6)))) (jR (zg (.bl false))) j4
def zcr:CO Fl:=sIf (sB (zu zaE (zq F_numbers (za (zq F_opposite (za (zq F_mirrored (za (zc 5) zo)) zo)) zo)) (zq F_law_seen (za (zc 6) (za (zc 3) zo))))) (jR (zg (.bl false))) j4
def zcq:CO Fl:=zQ 7 (zu qx (zq F_law_cell (za (zc 0) (za (zg (.int 1)) zo))) (zc 3))
def zaa:CO Fl:=zQ 8 (zu jq (zc 7) (zu qx (zu Z7 (zq F_law_cell (za (zc 0) (za (zg (.int 1)) zo))) (zg (.int 7))) (zu qP (zc 3) (zc 7))))
def W9:CO Fl:=sIf (sB (zu dNe (zq F_kept (za (zq F_mirrored (za (zc 5) zo)) (za (zu qP (zu qP (zc 3) (zg (.int 1))) (zc 8)) (za (zu qP (zu qP (zc 3) (zg (.int 1))) (zc 7)) zo)))) (zq F_kept (za (zc 5) (za (zc 7) (za (zc 8) zo)))))) (jR (zg (.bl false))) j4
def W8:CO Fl:=jR (zu dEq (zc 5) (zq F_law_drawn_k22 (za (zc 0) (za (zg (.int 2)) (za (zc 2) (za (zc 4) (za (zg (.int 3)) zo)))))))
theorem Vx:F_law_k25=z5 9 (zI zcy (zI zcx (zI zcw (zI zcv (zI zcu (zI zct (zI zcs (zI zcr (zI zcq (zI zaa (zI W9 W8))))))))))):=rfl
theorem w4(I:Nat×Nat->List Int)(g:Nat×Nat->Int) : ∀{L:List (Nat×Nat)} {t:Nat×Nat},(∀x∈L,I x=I t->x=t)->t∈L->YD (L.map I) (L.map g) (I t)=some (g t)
 | x::L,t,inj,h=>by
  show(if I x=I t then _ else _)=_;by_cases e:I x=I t
  ·rw [if_pos e,inj x zhj e]
  ·rw [if_neg e]
   refine w4 I g (λy J=>inj y (zhg _ J)) ?_;rcases zhh.mp h with z | z
   ·exact absurd (by rw [z]) e
   ·exact z
theorem wW(g:Nat×Nat->Int) : ∀L:List (Nat×Nat),ye (L.map λs=>D.int (g s))=some (L.map g)
 | []=>rfl
 | s::L=>by
  show(ye (L.map λs=>D.int (g s))).map _=_;rw [wW g L];rfl
theorem YH{M:Nat}(f g:Nat×Nat->Int)(z:Nat×Nat->List Int)(h : ∀s,s∈stN M->YD ((stN M).map z) ((stN M).map g) (kI s)=some (f s)):zbX (k5 f M) (.dct ((stN M).map z) ((stN M).map λs=> .int (g s)))=some true:=by
 show(ye _).bind _=_;rw [wW f];show(ye _).map _=_;rw [wW g];show some (eqT _ _ _ _)=_;congr 1;unfold eqT;rw [decide_eq_true ⋯,Bool.true_and,zjx];intro x hx;rw [zjy]at hx;obtain⟨s,I,rfl⟩:=zhr.mp hx;exact decide_eq_true (h s I)
section
variable{m:Nat}
def zcM:CO D:=jp (za (zu qP (zu qP (zc 1) (zg (.int 1))) (zc 4)) (za (zu qP (zu qP (zc 1) (zg (.int 1))) (zc 3)) zo))
def zci:CO D:=Xs (zc 0) (jp (za (zc 3) (za (zc 4) zo)))
theorem VL:F_law_seen=z5 5 (zI (zee 2 (Xr (zc 0)) (.tp [3,4]) zcM zci) (kz 2)):=rfl
theorem Ku(g:Nat×Nat->Int) : ∀(L:List (Nat×Nat)) (I J:Cell) (ks:List (List Int)) (vs:List D),(∀s∈L,s∈stN (m+1))->(ks++L.map λs=>kI (ym m s)).Nodup->
 ∃O Q,zbI (.tp [3,4]) zcM zci (L.map kD) [.val (k5 g (m+1)),.val (.int ((m:Int)+1)),.no,I,J] ks vs=some ([.val (k5 g (m+1)),.val (.int ((m:Int)+1)),.no,O,Q],ks++L.map (λs=>kI (ym m s)),vs++L.map λs=>D.int (g s))
 | [],I,J,ks,vs,_,_=>⟨I,J,by simp [zbI]⟩
 | s::L,I,J,ks,vs,hL,nd=>by
  have S:=hL s zhj;have a2:=mem_st.mp S;have e1:jQ (.tp [3,4]) (kD s) [.val (k5 g (m+1)),.val (.int ((m:Int)+1)),.no,I,J]=some [.val (k5 g (m+1)),.val (.int ((m:Int)+1)),.no,.val (.int s.1),.val (.int s.2)]:=rfl;have U:zci [.val (k5 g (m+1)),.val (.int ((m:Int)+1)),.no,.val (.int s.1),.val (.int s.2)]=some (.int (g s)):=by
   have:=YE g S;simp [zci,k5,zbK,this]
  have Y:(zcM [.val (k5 g (m+1)),.val (.int ((m:Int)+1)),.no,.val (.int s.1),.val (.int s.2)]).bind Vp=some (kI (ym m s)):=by
   have z1:(m:Int)+1 - 1 - (s.2:Int)=((m - s.2:Nat):Int):=by omega
   have z2:(m:Int)+1 - 1 - (s.1:Int)=((m - s.1:Nat):Int):=by omega
   simp only [zcM,zaF,xh,kW,Q9,qo,kX,zha,zhb,zT,zg5,zhF,WQ,z1,z2];rfl
  have Z:kI (ym m s)∉ks:=λz=>by
   have:=List.nodup_append.mp nd;exact this.2.2 _ z _ ⋯ rfl
  obtain⟨O,Q,ih⟩:=Ku g L (.val (.int s.1)) (.val (.int s.2)) (ks++[kI (ym m s)]) (vs++[.int (g s)]) (λt ht=>hL t (zhg _ ht)) (by simpa using nd);refine⟨O,Q,?_⟩;rw [zhq];show(jQ (.tp [3,4]) (kD s) _).bind _=_;rw [e1];show(zci _).bind _=_;rw [U,zg5,Y,zg5,if_neg Z,ih];simp
theorem Yd{L:List (Nat×Nat)}(z : ∀s∈L,s∈stN (m+1)){t:Nat×Nat}(I:t∈stN (m+1)) : ∀x∈L,kI (ym m x)=kI (ym m t)->x=t:=λx hx e=>by
 have:=congrArg (ym m) (Yq e);rw [kH (mem_st.mp (z x hx)),kH (mem_st.mp I)]at this;exact this
theorem za4(g:Nat×Nat->Int)(Y:m<=5):F_law_seen [k5 g (m+1),.int ((m:Int)+1)]=some (.val (.dct ((stN (m+1)).map λs=>kI (ym m s)) ((stN (m+1)).map λs=> .int (g s)))):=by
 have Z:=jf;obtain⟨n1,I,J⟩:=Ql ⟨m+1,by omega⟩;dsimp only at n1 I J;have nd:((stN (m+1)).map λs=>kI (ym m s)).Nodup:=by
  rw [zjF,zi1];refine ziY (λ{a b} ha O Q z=>Q ?_) n1;exact Yd (λs h=>h) O a ha z
 obtain⟨S,U,e⟩:=Ku g (stN (m+1)) .no .no [] [] (λs h=>h) (by simpa using nd);have src:Xr (zc 0) [.val (k5 g (m+1)),.val (.int ((m:Int)+1)),.no,.no,.no]=some ((stN (m+1)).map kD):=by
  show some (((stN (m+1)).map kI).map _)=_;rw [zhU];rfl
 rw [VL];refine jN (zC (γ':=[.val (k5 g (m+1)),.val (.int ((m:Int)+1)),.val (.dct ((stN (m+1)).map λs=>kI (ym m s)) ((stN (m+1)).map λs=> .int (g s))),S,U]) ?_ rfl);show(if _ then _ else _)=_;rw [if_pos ⟨rfl,(by show 2<5;decide),rfl⟩];show(Xr (zc 0) [.val (k5 g (m+1)),.val (.int ((m:Int)+1)),.no,.no,.no]).bind _=_;rw [src];show(if ((stN (m+1)).map kD).length<=lim then (zbI (.tp [3,4]) zcM zci ((stN (m+1)).map kD) [.val (k5 g (m+1)),.val (.int ((m:Int)+1)),.no,.no,.no] [] []).map _ else none)=_;rw [if_pos (by rw [zhk];omega),e];rfl
end
theorem law_k25(ns:List Int)(a6:ns.length<=63):F_law_k25 [x9 ns]=some (.val (.bl true)):=by
 have hl:=jf;obtain⟨a1,a2,a3⟩:=Zd a6 (k:=0) ⋯ ⋯;obtain⟨y1,y2,y3⟩:=Zd a6 (k:=1) ⋯ ⋯;generalize qN ns 0=c at a1 a2 a3;generalize qN ns 1=d at y1 y2 y3;obtain⟨q,O,ep,ay⟩:=zda a2;obtain⟨m,em,bi⟩:=y6 (c:=c/4) (n:=5) ⋯;have U:m<=5:=by omega
 obtain⟨w,hw⟩:=zco (c:=c/32) ⋯ U;obtain⟨wd,T,hd,b0,hT⟩:=yt (w:=w) a6 O U (wide:=3) ⋯;have Q : ∀k,wd k<=4:=λk=>by have:=b0 k;omega
 obtain⟨i,ei,hi⟩:=y6 (c:=d) (n:=m+1) ⋯;obtain⟨z,ej,hj⟩:=y6 (c:=d/7) (n:=m+1 - i) ⋯;have a5 : ∀k,wd k<=8:=λk=>by have:=Q k;omega
 obtain⟨bars,I,_,_⟩:=Jk (T:=T) (w:=w) (wd:=wd) O a5 U λk x y _ _ _=>hT k x y;have Y:=WP O a5 I;generalize bars.length=N at Y;generalize (λj=>bars.getD j Kb)=A at Y;have Dm:=Wo Y;have ab:=Yp Y;have mk:=Wm Y;obtain⟨g1,Do⟩:=Z5 O a5 Y;obtain⟨g2,ba⟩:=Z5 O (λk=>a5 _) Dm;have ac : ∀k x y,0<=T (m - 1 - k) x y/\T (m - 1 - k) x y<(q:Int):=λk=>hT _;have nu:=xK O Q hT U Y;have ad:=xK O (λk=>Q (m - k)) ac U Dm;have ae:=xK O Q (λk x y=>hT k y x) U Do;have a4:=xK O (λk=>Q (m - k)) (λk x y=>ac k y x) U ba;rw [YN]at ae a4;rw [mk]at ad a4;have kn : ∀{i j:Nat},i<=j->j<=m->F_kept [jO q m w wd T,.int i,.int j]=some (.val (.int ((cvZ (wf A N) i j:Nat):Int))):=λh1 h2=>wV O Q hT ⋯ Y h1 h2;have ak : ∀{i j:Nat},i<=j->j<=m->F_kept [jO q m (λk=> !w (m - 1 - k)) (λk=>wd (m - k)) (λk=>T (m - 1 - k)),.int i,.int j]=some (.val (.int ((cvZ ((wf A N).map (ym m)) i j:Nat):Int))):=λh1 h2=>by
  rw [<- mk];exact wV O (λk=>Q (m - k)) ac ⋯ Dm h1 h2
 have al:=λ{i j:Nat}=>zdW (i:=i) (j:=j) ab;have am:=λ{s:Nat×Nat}=>zdz (s:=s) ab;clear mk;generalize wf A N=K at nu ad ae a4 kn ak al am ab;have mi:=Zl (p:=(q:Int)) (m:=m) w wd T ⋯;have op:=k0 (p:=(q:Int)) (m:=m) w wd T ⋯ (λk=>by have:=Q k;omega);have an:=k0 (p:=(q:Int)) (m:=m) (λk=> !w (m - 1 - k)) (λk=>wd (m - k)) (λk=>T (m - 1 - k)) ⋯ (λk=>by have:=Q (m - k);omega);have se:=za4 (λs=>(muZ K s:Int)) U;have ap:zbX (k5 (λs=>(muZ (K.map (ym m)) s:Int)) (m+1)) (.dct ((stN (m+1)).map λs=>kI (ym m s)) ((stN (m+1)).map λs=> .int (muZ K s:Int)))=some true:=by
  refine YH (λs=>(muZ (K.map (ym m)) s:Int)) (λs=>(muZ K s:Int)) (λs=>kI (ym m s)) λs Z=>?_;have h1:=w4 (λs=>kI (ym m s)) (λs=>(muZ K s:Int)) (L:=stN (m+1)) (t:=ym m s) (Yd (λs h=>h) (Ye Z)) (Ye Z);rw [kH (mem_st.mp Z)]at h1;rw [h1,am Z]
 have bc:zbX (k5 (λs=>(muZ K s:Int)) (m+1)) (k5 (λs=>(muZ K s:Int)) (m+1))=some true:=by
  refine YH (λs=>(muZ K s:Int)) (λs=>(muZ K s:Int)) kI λs Z=>?_;exact w4 kI (λs=>(muZ K s:Int)) (λx _ e=>Yq e) Z
 let g:Nat×Nat->Int:=λs=>(muZ K s:Int);let R:=jO q m w wd T;let S:=k5 g (m+1);let M:D:= .int ((m:Int)+1);let W:D:= .str (kf m w);have bd:c/4%5=(m:Int):=em;have eM:(1+(m:Int))=(m:Int)+1:=by omega
 have rp:(0:Int)<(m:Int)+1:=by omega
 have ei:d%((m:Int)+1)=i:=ei;have bf:(i:Int)<(m:Int)+1:=by omega
 have sp:(0:Int)<(m:Int)+1 - (i:Int):=by omega
 have ej:d/7%((m:Int)+1 - (i:Int))=z:=by rw [<- ej];congr 1;omega
 let J:D:= .int ((i:Int)+(z:Int));have ar:=kn (i:=i) (j:=i+z) ⋯ ⋯;rw [show((i+z:Nat):Int)=(i:Int)+(z:Int)by omega]at ar;have as:=ak (i:=m - (i+z)) (j:=m - i) ⋯ ⋯;have z1:((m - (i+z):Nat):Int)=(m:Int) - ((i+z:Nat):Int):=by omega
 have z2:((m - i:Nat):Int)=(m:Int) - (i:Int):=by omega
 rw [z1,z2,al ⋯ ⋯,show((i+z:Nat):Int)=(i:Int)+(z:Int)by omega]at as;have au:F_law_drawn_k22 [x9 ns,.int 2,.int q,.str (kf m w),.int 3]=some (.val (jO q m w wd T)):=hd;have er:=WT (zbD (q:Int) m w wd T);rw [eM]at hw;rw [Vx];refine jN (zC (γ':=[.val (x9 ns),.val (.int c),.no,.no,.no,.no,.no,.no,.no]) ?_
  (zC (γ':=[.val (x9 ns),.val (.int c),.val (.int q),.no,.no,.no,.no,.no,.no]) ?_
  (zC (γ':=[.val (x9 ns),.val (.int c),.val (.int q),.val M,.no,.no,.no,.no,.no]) ?_
  (zC (γ':=[.val (x9 ns),.val (.int c),.val (.int q),.val M,.val W,.no,.no,.no,.no]) ?_
  (zC (γ':=[.val (x9 ns),.val (.int c),.val (.int q),.val M,.val W,.val R,.no,.no,.no]) ?_
  (zC (γ':=[.val (x9 ns),.val (.int c),.val (.int q),.val M,.val W,.val R,.val S,.no,.no]) ?_
  (zC (γ':=[.val (x9 ns),.val (.int c),.val (.int q),.val M,.val W,.val R,.val S,.no,.no]) ?_
  (zC (γ':=[.val (x9 ns),.val (.int c),.val (.int q),.val M,.val W,.val R,.val S,.no,.no]) ?_
  (zC (γ':=[.val (x9 ns),.val (.int c),.val (.int q),.val M,.val W,.val R,.val S,.val (.int i),.no]) ?_
  (zC (γ':=[.val (x9 ns),.val (.int c),.val (.int q),.val M,.val W,.val R,.val S,.val (.int i),.val J]) ?_
  (zC (γ':=[.val (x9 ns),.val (.int c),.val (.int q),.val M,.val W,.val R,.val S,.val (.int i),.val J]) ?_ ?_)))))))))))
 ·simp [zcy,zV,zg2,a1]
 ·simp [zcx,ay,ep]
 ·simp [zcw,bd,eM,M]
 ·simp [zcv,M,hw,W]
 ·simp [zcu,M,W,au,R]
 ·simp [zct,R,nu,S,g]
 ·simp [zcs,R,M,mi,ad,S,g,se,ap,op,ae,bc]
 ·simp only [Bool.not_not]at an a4
  simp [zcr,R,M,mi,an,a4,S,g,se,ap]
 ·simp [zcq,y1,M,rp,ei]
 ·simp [zaa,y1,M,bf,sp,ej,J]
 ·have x1:(m:Int)+1 - 1 - ((i:Int)+(z:Int))=(m:Int) - ((i:Int)+(z:Int)):=by omega
  have x2:(m:Int)+1 - 1 - (i:Int)=(m:Int) - (i:Int):=by omega
  have ne:=WR (d:= .int ((cvZ K i ((i:Int)+(z:Int)):Nat):Int)) rfl;simp [W9,R,M,J,mi,ar,as,ne]
 ·simp [W8,R,W,au,er]
def top(i:Nat):PySem.Stmt:=PySem.Challenge.pw_barsplit_k25_whole_mirrored_and_opposite.main.body.getD i (.Pass ⟨0,0,0,0⟩)
section
variable{CR CL:PySem.Addr}{P:PySem.Program}{w:PySem.World}{K:PySem.W.Frag}{mg:PySem.Str->Option PySem.Value}{base:PySem.Heap}
theorem JO{α:Type}{us:List α}{n:Nat}(h:us.length=n+1) : ∃a t,us=a::t/\t.length=n:=by
 cases us with
 | nil=>exact absurd h (Nat.zero_ne_add_one n)
 | cons a t=>exact⟨a,t,rfl,Nat.succ.inj h⟩
theorem len1{α:Type}{us:List α}(h:us.length=1) : ∃a,us=[a]:=by
 obtain⟨a,I,rfl,z⟩:=JO h;rw [zhy z];exact⟨a,rfl⟩
theorem len2{α:Type}{us:List α}(h:us.length=2) : ∃a b,us=[a,b]:=by
 obtain⟨a,I,rfl,z⟩:=JO h;obtain⟨b,J,rfl,h1⟩:=JO z;rw [zhy h1];exact⟨a,b,rfl⟩
theorem len3{α:Type}{us:List α}(h:us.length=3) : ∃a b c,us=[a,b,c]:=by
 obtain⟨a,I,rfl,z⟩:=JO h;obtain⟨b,J,rfl,h1⟩:=JO z;obtain⟨c,O,rfl,h2⟩:=JO h1;rw [zhy h2];exact⟨a,b,c,rfl⟩
theorem len4{α:Type}{us:List α}(h:us.length=4) : ∃a b c d,us=[a,b,c,d]:=by
 obtain⟨a,J,rfl,z⟩:=JO h;obtain⟨b,O,rfl,h1⟩:=JO z;obtain⟨c,Q,rfl,h2⟩:=JO h1;obtain⟨d,S,rfl,I⟩:=JO h2;rw [zhy I];exact⟨a,b,c,d,rfl⟩
theorem len5{α:Type}{us:List α}(h:us.length=5) : ∃a b c d e,us=[a,b,c,d,e]:=by
 obtain⟨a,O,rfl,z⟩:=JO h;obtain⟨b,Q,rfl,h1⟩:=JO z;obtain⟨c,S,rfl,h2⟩:=JO h1;obtain⟨d,U,rfl,I⟩:=JO h2;obtain⟨e,Y,rfl,J⟩:=JO I;rw [zhy J];exact⟨a,b,c,d,e,rfl⟩
theorem ok_law_cell(D:DefAt K mg "_law_cell" (top 36) ["_law_script","_law_k"])(I:mg "len" = none)(J:mg "min" = none)(O:mg "range" = none):FnD P w K mg base 1 "_law_cell" 2 F_law_cell:=
 kN (N:=["_law_script","_law_k","_law_cell_here","_law_turn","_law_given"]) D ⋯ λX Q hw S U Y z hx=>by
  subst Q hw S U Y;exact(by refine zh ?_ ?_;exact(kF (zc6 (zbc (zam (kE z ⋯ I (zx 0 (z.var ⋯))) zm) (VX (v5 z (qg (zW (zx 0 (z.var ⋯)) zm) zm) zm)))) ((by refine zh ?_ ?_;exact(jd 2 (z.set 2 ⋯ (zW (zx 0 (z.var ⋯)) (ju zm (qg (ze 1 (z.var ⋯)) (j6 (kE z ⋯ I (zx 0 (z.var ⋯))) zm))))));refine zh ?_ ?_;exact(qX (T:= .nm 3) (xV hx) z.calm (qe z ⋯ O (zc4 z ⋯ J zm (yT (ze 1 (z.var ⋯)) (j6 (kE z ⋯ I (zx 0 (z.var ⋯))) zm)))) (z.tgt 3 ⋯) (zy (jd 2 (z.set 2 ⋯ (yT (ze 2 (z.var ⋯)) (KP zm zm))))));exact(zy (jh (qg (ze 2 (z.var ⋯)) (KP zm zm)))))) qp);refine zh ?_ ?_;exact(jd 4 (z.set 4 ⋯ (ze 1 (z.var ⋯))));refine zh ?_ ?_;exact(kF (zam (kE z ⋯ I (zx 0 (z.var ⋯))) zm) (zy (jd 4 (z.set 4 ⋯ (zW (zx 0 (z.var ⋯)) (qg (ze 1 (z.var ⋯)) (kE z ⋯ I (zx 0 (z.var ⋯)))))))) qp);exact(zy (jh (qg (qm (qg (ju (ju (ju (qm (qg (ze 4 (z.var ⋯)) (KP zm zm)) zm) (qm (qm zm (ze 1 (z.var ⋯))) (ze 1 (z.var ⋯)))) (qm zm (ze 1 (z.var ⋯)))) zm) zm) zm) zm))))
theorem ok_law_ways_k22(D:DefAt K mg "_law_ways" (top 39) ["_law_cell_here","_law_rooms"])(I:mg "range" = none):FnD P w K mg base 1 "_law_ways" 2 F_law_ways_k22:=
 kN (N:=["_law_cell_here","_law_rooms","_law_ways_here","_law_k"]) D ⋯ λX J hw O Q S z hx=>by
  subst J hw O Q S;exact(by refine zh ?_ ?_;exact(jd 2 (z.set 2 ⋯ vZ));refine zh ?_ ?_;exact(qX (T:= .nm 3) (xV hx) z.calm (qe z ⋯ I (j6 (ze 1 (z.var ⋯)) zm)) (z.tgt 3 ⋯) ((by refine zh ?_ ?_;exact(jd 2 (z.set 2 ⋯ (zbg (ze 2 (z.var ⋯)) (VY vZ (qg (ze 0 (z.var ⋯)) zm)))));exact(zy (jd 0 (z.set 0 ⋯ (yT (ze 0 (z.var ⋯)) zm)))))));exact(zy (qG 2 (z.var ⋯))))
theorem ok_law_ends_k22(D:DefAt K mg "_law_ends" (top 37) ["_law_k","_law_way"]):FnD P w K mg base 1 "_law_ends" 2 F_law_ends_k22:=
 kN (N:=["_law_k","_law_way"]) D ⋯ λX I hw J O Q z hx=>by
  subst I hw J O Q;exact(by refine zh ?_ ?_;exact(kF (v5 z (ze 1 (z.var ⋯)) vZ) (zy (jh (jx (xq (zb (ze 0 (z.var ⋯)) (zb (ju (ze 0 (z.var ⋯)) zm) zk)))))) qp);exact(zy (jh (jx (xq (zb (ju (ze 0 (z.var ⋯)) zm) (zb (ze 0 (z.var ⋯)) zk)))))))
theorem ok_law_row_k22(D:DefAt K mg "_law_row" (top 38) ["_law_p","_law_ways_here","_law_widths","_law_tables"])(J:FnD P w K mg base 1 "_law_ends" 2 F_law_ends_k22)(O:mg "enumerate" = none)(I:mg "tuple" = none):FnD P w K mg base 2 "_law_row" 4 F_law_row_k22:=
 kN (N:=["_law_p","_law_ways_here","_law_widths","_law_tables","_law_arrows","_law_k","_law_way","_law_begin","_law_end"]) D ⋯ λX Q hw S U Y z hx=>by
  subst Q hw S U Y;exact(by refine zh ?_ ?_;exact(qF 4 (z.set 4 ⋯ (yV (xq zk))));refine zh ?_ ?_;exact(qX (T:= .tp [5,6]) (xV hx) z.calm (K1 z ⋯ O (ze 1 (z.var ⋯))) (z.tgts (z7 (z.tgt 5 ⋯) (z7 (z.tgt 6 ⋯) qu))) ((by refine zh ?_ ?_;exact(Qw (T:= .tp [7,8]) (z.tgts (z7 (z.tgt 7 ⋯) (z7 (z.tgt 8 ⋯) qu))) (jt J ⋯ z ⋯ (zb (ze 5 (z.var ⋯)) (zb (ze 6 (z.var ⋯)) zk))));exact(zy (JD 4 z ⋯ (jx (xq (zb (ze 6 (z.var ⋯)) (zb (jx (xq (zb (zW (zx 2 (z.var ⋯)) (ze 8 (z.var ⋯))) (zb (zW (zx 2 (z.var ⋯)) (ze 7 (z.var ⋯))) (zb (jS z ⋯ I (PO.q (jT (own:=["_law_row_here"]) (fr:=[]) (T:= .nm 0) z.calm (z.compOk (fr:=[]) ⋯) ⋯ (jA (PV.q (zW (zx 3 (z.var ⋯)) (ze 5 (z.var ⋯))))) (λfp s2 H2=>have h1:=z.cq ["_law_row_here"] [] fp s2 H2 ⋯;h1.tgt 0 ⋯) (λfp s2 H2=>have h1:=z.cq ["_law_row_here"] [] fp s2 H2 ⋯;jS h1 ⋯ I (zx 0 (h1.var ⋯)))))) zk))))) zk)))))))));exact(zy (jh (jx (xq (zb (ze 0 (z.var ⋯)) (zb (jS z ⋯ I (zx 2 (z.var ⋯))) (zb (jS z ⋯ I (zx 4 (z.var ⋯))) zk))))))))
theorem ok_law_rows_k22(D:DefAt K mg "_law_rows" (top 40) ["_law_script","_law_at","_law_p","_law_high","_law_wide"])(J:FnD P w K mg base 1 "_law_cell" 2 F_law_cell)(O:mg "int" = none)(I:mg "range" = none):FnD P w K mg base 2 "_law_rows" 5 F_law_rows_k22:=
 kN (N:=["_law_script","_law_at","_law_p","_law_high","_law_wide","_law_rows_here","_law_x","_law_cells"]) D ⋯ λX Q hw S U Y z hx=>by
  subst Q hw S U Y;exact(by refine zh ?_ ?_;exact(qF 5 (z.set 5 ⋯ (yV (xq zk))));refine zh ?_ ?_;exact(qX (T:= .nm 6) (xV hx) z.calm (qe z ⋯ I (ze 3 (z.var ⋯))) (z.tgt 6 ⋯) ((by refine zh ?_ ?_;exact(jL 7 (psc 7 z ⋯ (own:=["_law_y"]) (fr:=[("_law_script",0),("_law_at",1),("_law_wide",4),("_law_x",6)]) (T:= .nm 0) z.calm (z.compOk (fr:=[("_law_script",0),("_law_at",1),("_law_wide",4),("_law_x",6)]) ⋯) ⋯ (PIF.c (qe z ⋯ I (ze 4 (z.var ⋯)))) (λfp s2 H2=>have h1:=z.cq ["_law_y"] [("_law_script",0),("_law_at",1),("_law_wide",4),("_law_x",6)] fp s2 H2 ⋯;h1.tgt 0 ⋯) (λfp s2 H2=>have h1:=z.cq ["_law_y"] [("_law_script",0),("_law_at",1),("_law_wide",4),("_law_x",6)] fp s2 H2 ⋯;jt J ⋯ h1 ⋯ (zb (ze 1 (h1.var ⋯)) (zb (ju (ju (ze 2 (h1.var ⋯)) (qm (ze 4 (h1.var ⋯)) (ze 3 (h1.var ⋯)))) (ze 0 (h1.var ⋯))) zk)))));exact(zy (JD 5 z ⋯ (PO.v (jT (own:=["_law_cell_here"]) (fr:=[("_law_p",2)]) (T:= .nm 0) z.calm (z.compOk (fr:=[("_law_p",2)]) ⋯) ⋯ (jA (zx 7 (z.var ⋯))) (λfp s2 H2=>have h1:=z.cq ["_law_cell_here"] [("_law_p",2)] fp s2 H2 ⋯;h1.tgt 0 ⋯) (λfp s2 H2=>have h1:=z.cq ["_law_cell_here"] [("_law_p",2)] fp s2 H2 ⋯;qm (qg (yT (ze 0 (h1.var ⋯)) zm) (ze 1 (h1.var ⋯))) (zbf h1 ⋯ O (ze7 (qg (ze 0 (h1.var ⋯)) zm) zm))))))))));exact(zy (qG 5 (z.var ⋯))))
theorem ok_law_drawn_k22(D:DefAt K mg "_law_drawn" (top 41) ["_law_script","_law_at","_law_p","_law_ways_here","_law_most"])(I:FnD P w K mg base 2 "_law_row" 4 F_law_row_k22)(J:FnD P w K mg base 1 "_law_ends" 2 F_law_ends_k22)(O:FnD P w K mg base 1 "_law_cell" 2 F_law_cell)(Q:FnD P w K mg base 2 "_law_rows" 5 F_law_rows_k22)(S:mg "enumerate" = none)(U:mg "len" = none)(Y:mg "range" = none):FnD P w K mg base 3 "_law_drawn" 5 F_law_drawn_k22:=
 kN (N:=["_law_script","_law_at","_law_p","_law_ways_here","_law_most","_law_widths","_law_tables","_law_k","_law_way","_law_begin","_law_end"]) D ⋯ λX Z hw hK hm hb z hx=>by
  subst Z hw hK hm hb;exact(by refine zh ?_ ?_;exact(jL 5 (psc 5 z ⋯ (own:=["_law_room"]) (fr:=[("_law_script",0),("_law_at",1),("_law_most",4)]) (T:= .nm 0) z.calm (z.compOk (fr:=[("_law_script",0),("_law_at",1),("_law_most",4)]) ⋯) ⋯ (PIF.c (qe z ⋯ Y (ju (zbe z ⋯ U (ze 3 (z.var ⋯))) zm))) (λfp s2 H2=>have h1:=z.cq ["_law_room"] [("_law_script",0),("_law_at",1),("_law_most",4)] fp s2 H2 ⋯;h1.tgt 0 ⋯) (λfp s2 H2=>have h1:=z.cq ["_law_room"] [("_law_script",0),("_law_at",1),("_law_most",4)] fp s2 H2 ⋯;qg (jt O ⋯ h1 ⋯ (zb (ze 1 (h1.var ⋯)) (zb (ju (ze 2 (h1.var ⋯)) (ze 0 (h1.var ⋯))) zk))) (ju (ze 3 (h1.var ⋯)) zm))));refine zh ?_ ?_;exact(qF 6 (z.set 6 ⋯ (yV (xq zk))));refine zh ?_ ?_;exact(qX (T:= .tp [7,8]) (xV hx) z.calm (K1 z ⋯ S (ze 3 (z.var ⋯))) (z.tgts (z7 (z.tgt 7 ⋯) (z7 (z.tgt 8 ⋯) qu))) ((by refine zh ?_ ?_;exact(Qw (T:= .tp [9,10]) (z.tgts (z7 (z.tgt 9 ⋯) (z7 (z.tgt 10 ⋯) qu))) (jt J ⋯ z ⋯ (zb (ze 7 (z.var ⋯)) (zb (ze 8 (z.var ⋯)) zk))));exact(zy (JD 6 z ⋯ (PO.v (wN Q ⋯ z ⋯ (zb (ze 0 (z.var ⋯)) (zb (ju (ju (ze 1 (z.var ⋯)) zm) (qm zm (ze 7 (z.var ⋯)))) (zb (ze 2 (z.var ⋯)) (zb (zW (zx 5 (z.var ⋯)) (ze 10 (z.var ⋯))) (zb (zW (zx 5 (z.var ⋯)) (ze 9 (z.var ⋯))) zk))))))))))));exact(zy (KU 6 (jh (jt I ⋯ z ⋯ (zb (ze 2 (z.var ⋯)) (zb (ze 3 (z.var ⋯)) (zb (ze 5 (z.var ⋯)) (zb (ze 6 (z.var ⋯)) zk)))))))))
theorem ok_stretches_of(D:DefAt K mg "stretches_of" (top 32) ["many"])(I:mg "range" = none):FnD P w K mg base 1 "stretches_of" 1 F_stretches_of:=
 kN (N:=["many","found","i"]) D ⋯ λX J hw O Q S z hx=>by
  subst J hw O Q S;exact(by refine zh ?_ ?_;exact(qF 1 (z.set 1 ⋯ (yV (xq zk))));refine zh ?_ ?_;exact(qX (T:= .nm 2) (xV hx) z.calm (qe z ⋯ I (ze 0 (z.var ⋯))) (z.tgt 2 ⋯) (zy (zbl 1 z ⋯ (jT (own:=["j"]) (fr:=[("i",2)]) (T:= .nm 0) z.calm (z.compOk (fr:=[("i",2)]) ⋯) ⋯ (PIF.c (QA z ⋯ I (ze 2 (z.var ⋯)) (ze 0 (z.var ⋯)))) (λfp s2 H2=>have h1:=z.cq ["j"] [("i",2)] fp s2 H2 ⋯;h1.tgt 0 ⋯) (λfp s2 H2=>have h1:=z.cq ["j"] [("i",2)] fp s2 H2 ⋯;jx (xq (zb (ze 1 (h1.var ⋯)) (zb (ze 0 (h1.var ⋯)) zk))))))));exact(zy (qG 1 (z.var ⋯))))
theorem ok_rests(D:DefAt K mg "rests" (top 4) ["p","numbers"])(I:mg "tuple" = none):FnD P w K mg base 1 "rests" 2 F_rests:=
 kN (N:=["p","numbers"]) D ⋯ λX J hw O Q S z hx=>by
  subst J hw O Q S;exact zy (jh (jS z ⋯ I (PO.q (jT (own:=["x"]) (fr:=[("p",0)]) (T:= .nm 0) z.calm (z.compOk (fr:=[("p",0)]) ⋯) ⋯ (jA (zx 1 (z.var ⋯))) (λfp s2 H2=>have h1:=z.cq ["x"] [("p",0)] fp s2 H2 ⋯;h1.tgt 0 ⋯) (λfp s2 H2=>have h1:=z.cq ["x"] [("p",0)] fp s2 H2 ⋯;qg (ze 0 (h1.var ⋯)) (ze 1 (h1.var ⋯)))))))
theorem ok_inverse(D:DefAt K mg "inverse" (top 5) ["p","x"])(I:mg "range" = none):FnD P w K mg base 1 "inverse" 2 F_inverse:=
 kN (N:=["p","x","y"]) D ⋯ λX J hw O Q S z hx=>by
  subst J hw O Q S;exact(by refine zh ?_ ?_;exact(qX (T:= .nm 2) (xV hx) z.calm (QA z ⋯ I zm (ze 0 (z.var ⋯))) (z.tgt 2 ⋯) (zy (kF (v5 z (qg (qm (ze 1 (z.var ⋯)) (ze 2 (z.var ⋯))) (ze 0 (z.var ⋯))) zm) (zy (qG 2 (z.var ⋯))) qp)));exact(zy KT))
theorem ok_cleared(D:DefAt K mg "cleared" (top 11) ["p","load","pivot","place"])(I:FnD P w K mg base 1 "rests" 2 F_rests)(J:mg "zip" = none):FnD P w K mg base 2 "cleared" 4 F_cleared:=
 kN (N:=["p","load","pivot","place","much"]) D ⋯ λX O hw Q S U z hx=>by
  subst O hw Q S U;exact(by refine zh ?_ ?_;exact(jd 4 (z.set 4 ⋯ (zW (zx 1 (z.var ⋯)) (ze 3 (z.var ⋯)))));refine zh ?_ ?_;exact(kF (v5 z (ze 4 (z.var ⋯)) zm) (zy (qG 1 (z.var ⋯))) qp);exact(zy (jh (jt I ⋯ z ⋯ (zb (ze 0 (z.var ⋯)) (zb (PO.v (jT (own:=["x","y"]) (fr:=[("much",4)]) (T:= .tp [0,1]) z.calm (z.compOk (fr:=[("much",4)]) ⋯) ⋯ (PIF.c (Qz z ⋯ J (ze 1 (z.var ⋯)) (ze 2 (z.var ⋯)))) (λfp s2 H2=>have h1:=z.cq ["x","y"] [("much",4)] fp s2 H2 ⋯;h1.tgts (z7 (h1.tgt 0 ⋯) (z7 (h1.tgt 1 ⋯) qu))) (λfp s2 H2=>have h1:=z.cq ["x","y"] [("much",4)] fp s2 H2 ⋯;j6 (ze 0 (h1.var ⋯)) (qm (ze 2 (h1.var ⋯)) (ze 1 (h1.var ⋯)))))) zk))))))
theorem ok_base_of(D:DefAt K mg "base_of" (top 12) ["p","long","loads"])(I:FnD P w K mg base 1 "rests" 2 F_rests)(O:FnD P w K mg base 1 "inverse" 2 F_inverse)(J:FnD P w K mg base 2 "cleared" 4 F_cleared)(Q:mg "range" = none):FnD P w K mg base 3 "base_of" 3 F_base_of:=
 kN (N:=["p","long","loads","left","base","place","leading","times","pivot"]) D ⋯ λX S hw U Y Z z hx=>by
  subst S hw U Y Z;exact(by refine zh ?_ ?_;exact(jL 3 (psc 3 z ⋯ (own:=["load"]) (fr:=[("p",0)]) (T:= .nm 0) z.calm (z.compOk (fr:=[("p",0)]) ⋯) ⋯ (jA (zx 2 (z.var ⋯))) (λfp s2 H2=>have h1:=z.cq ["load"] [("p",0)] fp s2 H2 ⋯;h1.tgt 0 ⋯) (λfp s2 H2=>have h1:=z.cq ["load"] [("p",0)] fp s2 H2 ⋯;jt I ⋯ h1 ⋯ (zb (ze 1 (h1.var ⋯)) (zb (ze 0 (h1.var ⋯)) zk)))));refine zh ?_ ?_;exact(qF 4 (z.set 4 ⋯ (yV (xq zk))));refine zh ?_ ?_;exact(qX (T:= .nm 5) (xV hx) z.calm (qe z ⋯ Q (ze 1 (z.var ⋯))) (z.tgt 5 ⋯) ((by refine zh ?_ ?_;exact(jL 6 (ze9 6 z ⋯ (own:=["load"]) (fr:=[("place",5)]) (T:= .nm 0) z.calm (z.compOk (fr:=[("place",5)]) ⋯) ⋯ (jA (zx 3 (z.var ⋯))) (λfp s2 H2=>have h1:=z.cq ["load"] [("place",5)] fp s2 H2 ⋯;h1.tgt 0 ⋯) (λfp s2 H2=>have h1:=z.cq ["load"] [("place",5)] fp s2 H2 ⋯;zal h1 (zW (zx 0 (h1.var ⋯)) (ze 1 (h1.var ⋯))) zm) (λfp s2 H2=>have h1:=z.cq ["load"] [("place",5)] fp s2 H2 ⋯;ze 0 (h1.var ⋯))));refine zh ?_ ?_;exact(kF (KR (VZ (zx 6 (z.var ⋯)))) (zy ZK) qp);refine zh ?_ ?_;exact(jd 7 (z.set 7 ⋯ (jt O ⋯ z ⋯ (zb (ze 0 (z.var ⋯)) (zb (zW (PV.q (zW (zx 6 (z.var ⋯)) zm)) (ze 5 (z.var ⋯))) zk)))));refine zh ?_ ?_;exact(jd 8 (z.set 8 ⋯ (jt I ⋯ z ⋯ (zb (ze 0 (z.var ⋯)) (zb (PO.v (jT (own:=["x"]) (fr:=[("times",7)]) (T:= .nm 0) z.calm (z.compOk (fr:=[("times",7)]) ⋯) ⋯ (jA (PV.q (zW (zx 6 (z.var ⋯)) zm))) (λfp s2 H2=>have h1:=z.cq ["x"] [("times",7)] fp s2 H2 ⋯;h1.tgt 0 ⋯) (λfp s2 H2=>have h1:=z.cq ["x"] [("times",7)] fp s2 H2 ⋯;qm (ze 1 (h1.var ⋯)) (ze 0 (h1.var ⋯))))) zk)))));refine zh ?_ ?_;exact(jL 3 (psc 3 z ⋯ (own:=["load"]) (fr:=[("p",0),("place",5),("pivot",8)]) (T:= .nm 0) z.calm (z.compOk (fr:=[("p",0),("place",5),("pivot",8)]) ⋯) ⋯ (jA (zx 3 (z.var ⋯))) (λfp s2 H2=>have h1:=z.cq ["load"] [("p",0),("place",5),("pivot",8)] fp s2 H2 ⋯;h1.tgt 0 ⋯) (λfp s2 H2=>have h1:=z.cq ["load"] [("p",0),("place",5),("pivot",8)] fp s2 H2 ⋯;jt J ⋯ h1 ⋯ (zb (ze 1 (h1.var ⋯)) (zb (ze 0 (h1.var ⋯)) (zb (ze 3 (h1.var ⋯)) (zb (ze 2 (h1.var ⋯)) zk)))))));exact(zy (qF 4 (z.set 4 ⋯ (K0 (PO.q (jT (own:=["load"]) (fr:=[("p",0),("place",5),("pivot",8)]) (T:= .nm 0) z.calm (z.compOk (fr:=[("p",0),("place",5),("pivot",8)]) ⋯) ⋯ (jA (zx 4 (z.var ⋯))) (λfp s2 H2=>have h1:=z.cq ["load"] [("p",0),("place",5),("pivot",8)] fp s2 H2 ⋯;h1.tgt 0 ⋯) (λfp s2 H2=>have h1:=z.cq ["load"] [("p",0),("place",5),("pivot",8)] fp s2 H2 ⋯;jt J ⋯ h1 ⋯ (zb (ze 1 (h1.var ⋯)) (zb (ze 0 (h1.var ⋯)) (zb (ze 3 (h1.var ⋯)) (zb (ze 2 (h1.var ⋯)) zk))))))) (PO.q (yV (xq (zb (ze 8 (z.var ⋯)) zk)))))))))));exact(zy (qG 4 (z.var ⋯))))
theorem ok_led(D:DefAt K mg "led" (top 6) ["p","table","load"])(I:FnD P w K mg base 1 "rests" 2 F_rests)(J:mg "sum" = none)(O:mg "zip" = none):FnD P w K mg base 2 "led" 3 F_led:=
 kN (N:=["p","table","load"]) D ⋯ λX Q hw S U Y z hx=>by
  subst Q hw S U Y;exact zy (jh (jt I ⋯ z ⋯ (zb (ze 0 (z.var ⋯)) (zb (PO.v (jT (own:=["row"]) (fr:=[("load",2)]) (T:= .nm 0) z.calm (z.compOk (fr:=[("load",2)]) ⋯) ⋯ (jA (PV.q (zW (zx 1 (z.var ⋯)) zm))) (λfp s2 H2=>have h1:=z.cq ["row"] [("load",2)] fp s2 H2 ⋯;h1.tgt 0 ⋯) (λfp s2 H2=>have h1:=z.cq ["row"] [("load",2)] fp s2 H2 ⋯;zc3 h1 ⋯ J (PO.q (jT (own:=["x","y"]) (fr:=[]) (T:= .tp [0,1]) h1.calm (h1.compOk (fr:=[]) ⋯) ⋯ (PIF.c (Qz h1 ⋯ O (ze 0 (h1.var ⋯)) (ze 1 (h1.var ⋯)))) (λfp s2 H2=>have h2:=h1.cq ["x","y"] [] fp s2 H2 ⋯;h2.tgts (z7 (h2.tgt 0 ⋯) (z7 (h2.tgt 1 ⋯) qu))) (λfp s2 H2=>have h2:=h1.cq ["x","y"] [] fp s2 H2 ⋯;qm (ze 0 (h2.var ⋯)) (ze 1 (h2.var ⋯)))))))) zk))))
theorem ok_led_on(D:DefAt K mg "led_on" (top 14) ["p","table","base"])(I:FnD P w K mg base 3 "base_of" 3 F_base_of)(J:FnD P w K mg base 2 "led" 3 F_led):FnD P w K mg base 4 "led_on" 3 F_led_on:=
 kN (N:=["p","table","base"]) D ⋯ λX O hw Q S U z hx=>by
  subst O hw Q S U;exact zy (wM (wN I ⋯ z ⋯ (zb (ze 0 (z.var ⋯)) (zb (zW (zx 1 (z.var ⋯)) zm) (zb (PO.v (jT (own:=["load"]) (fr:=[("p",0),("table",1)]) (T:= .nm 0) z.calm (z.compOk (fr:=[("p",0),("table",1)]) ⋯) ⋯ (jA (zx 2 (z.var ⋯))) (λfp s2 H2=>have h1:=z.cq ["load"] [("p",0),("table",1)] fp s2 H2 ⋯;h1.tgt 0 ⋯) (λfp s2 H2=>have h1:=z.cq ["load"] [("p",0),("table",1)] fp s2 H2 ⋯;jt J ⋯ h1 ⋯ (zb (ze 1 (h1.var ⋯)) (zb (ze 2 (h1.var ⋯)) (zb (ze 0 (h1.var ⋯)) zk)))))) zk)))))
theorem ok_behind_noughts(D:DefAt K mg "behind_noughts" (top 13) ["many","base"])(I:mg "any" = none):FnD P w K mg base 1 "behind_noughts" 2 F_behind_noughts:=
 kN (N:=["many","base"]) D ⋯ λX J hw O Q S z hx=>by
  subst J hw O Q S;exact zy (wM (KZ (own:=["load"]) (fr:=[("many",0)]) (T:= .nm 0) z.calm (z.compOk (fr:=[("many",0)]) ⋯) ⋯ (jA (zx 1 (z.var ⋯))) (λfp s2 H2=>have h1:=z.cq ["load"] [("many",0)] fp s2 H2 ⋯;h1.tgt 0 ⋯) (λfp s2 H2=>have h1:=z.cq ["load"] [("many",0)] fp s2 H2 ⋯;KR (zbj (zc5 h1 ⋯ I (PV.q (ZJ (ze 0 (h1.var ⋯)) wO (yb (ze 1 (h1.var ⋯)))))))) (λfp s2 H2=>have h1:=z.cq ["load"] [("many",0)] fp s2 H2 ⋯;ZJ (ze 0 (h1.var ⋯)) (yb (ze 1 (h1.var ⋯))) wO)))
theorem ok_turned_over(D:DefAt K mg "turned_over" (top 7) ["table"])(J:mg "range" = none)(I:mg "tuple" = none):FnD P w K mg base 1 "turned_over" 1 F_turned_over:=
 kN (N:=["table","columns"]) D ⋯ λX O hw Q S U z hx=>by
  subst O hw Q S U;exact(by refine zh ?_ ?_;exact(jL 1 (psc 1 z ⋯ (own:=["j"]) (fr:=[("table",0)]) (T:= .nm 0) z.calm (z.compOk (fr:=[("table",0)]) ⋯) ⋯ (PIF.c (qe z ⋯ J (zW (zx 0 (z.var ⋯)) zm))) (λfp s2 H2=>have h1:=z.cq ["j"] [("table",0)] fp s2 H2 ⋯;h1.tgt 0 ⋯) (λfp s2 H2=>have h1:=z.cq ["j"] [("table",0)] fp s2 H2 ⋯;jS h1 ⋯ I (PO.q (jT (own:=["row"]) (fr:=[("j",0)]) (T:= .nm 0) h1.calm (h1.compOk (fr:=[("j",0)]) ⋯) ⋯ (jA (PV.q (zW (zx 1 (h1.var ⋯)) zm))) (λfp s2 H2=>have h2:=h1.cq ["row"] [("j",0)] fp s2 H2 ⋯;h2.tgt 0 ⋯) (λfp s2 H2=>have h2:=h1.cq ["row"] [("j",0)] fp s2 H2 ⋯;zW (zx 0 (h2.var ⋯)) (ze 1 (h2.var ⋯))))))));exact(zy (jh (jx (xq (zb (zW (zx 0 (z.var ⋯)) zm) (zb (zW (zx 0 (z.var ⋯)) zm) (zb (jS z ⋯ I (zx 1 (z.var ⋯))) zk))))))))
theorem ok_same_table(D:DefAt K mg "same_table" (top 8) ["many"])(I:mg "range" = none)(J:mg "tuple" = none):FnD P w K mg base 1 "same_table" 1 F_same_table:=
 kN (N:=["many","rows"]) D ⋯ λX O hw Q S U z hx=>by
  subst O hw Q S U;exact(by refine zh ?_ ?_;exact(jL 1 (psc 1 z ⋯ (own:=["i"]) (fr:=[("many",0)]) (T:= .nm 0) z.calm (z.compOk (fr:=[("many",0)]) ⋯) ⋯ (PIF.c (qe z ⋯ I (ze 0 (z.var ⋯)))) (λfp s2 H2=>have h1:=z.cq ["i"] [("many",0)] fp s2 H2 ⋯;h1.tgt 0 ⋯) (λfp s2 H2=>have h1:=z.cq ["i"] [("many",0)] fp s2 H2 ⋯;jS h1 ⋯ J (PO.q (jT (own:=["j"]) (fr:=[("i",0)]) (T:= .nm 0) h1.calm (h1.compOk (fr:=[("i",0)]) ⋯) ⋯ (PIF.c (qe h1 ⋯ I (ze 1 (h1.var ⋯)))) (λfp s2 H2=>have h2:=h1.cq ["j"] [("i",0)] fp s2 H2 ⋯;h2.tgt 0 ⋯) (λfp s2 H2=>have h2:=h1.cq ["j"] [("i",0)] fp s2 H2 ⋯;Qu (v5 h2 (ze 1 (h2.var ⋯)) (ze 0 (h2.var ⋯))) zm zm))))));exact(zy (jh (jx (xq (zb (ze 0 (z.var ⋯)) (zb (ze 0 (z.var ⋯)) (zb (jS z ⋯ J (zx 1 (z.var ⋯))) zk))))))))
theorem ok_led_into(D:DefAt K mg "led_into" (top 15) ["p","table","base"])(I:FnD P w K mg base 1 "behind_noughts" 2 F_behind_noughts)(J:FnD P w K mg base 3 "base_of" 3 F_base_of)(O:FnD P w K mg base 1 "turned_over" 1 F_turned_over)(Q:FnD P w K mg base 1 "same_table" 1 F_same_table)(S:mg "zip" = none):FnD P w K mg base 4 "led_into" 3 F_led_into:=
 kN (N:=["p","table","base","pairs","free"]) D ⋯ λX U hw Y Z hb z hx=>by
  subst U hw Y Z hb;exact(by refine zh ?_ ?_;exact(jL 3 (psc 3 z ⋯ (own:=["column","unit"]) (fr:=[]) (T:= .tp [0,1]) z.calm (z.compOk (fr:=[]) ⋯) ⋯ (PIF.c (Qz z ⋯ S (zW (PV.q (jt O ⋯ z ⋯ (zb (ze 1 (z.var ⋯)) zk))) zm) (zW (PV.q (jt Q ⋯ z ⋯ (zb (zW (zx 1 (z.var ⋯)) zm) zk))) zm))) (λfp s2 H2=>have h1:=z.cq ["column","unit"] [] fp s2 H2 ⋯;h1.tgts (z7 (h1.tgt 0 ⋯) (z7 (h1.tgt 1 ⋯) qu))) (λfp s2 H2=>have h1:=z.cq ["column","unit"] [] fp s2 H2 ⋯;ju (ze 0 (h1.var ⋯)) (ze 1 (h1.var ⋯)))));refine zh ?_ ?_;exact(jL 4 (psc 4 z ⋯ (own:=["load"]) (fr:=[("table",1)]) (T:= .nm 0) z.calm (z.compOk (fr:=[("table",1)]) ⋯) ⋯ (jA (zx 2 (z.var ⋯))) (λfp s2 H2=>have h1:=z.cq ["load"] [("table",1)] fp s2 H2 ⋯;h1.tgt 0 ⋯) (λfp s2 H2=>have h1:=z.cq ["load"] [("table",1)] fp s2 H2 ⋯;ju (ze 0 (h1.var ⋯)) (qm (jx (xq (zb zm zk))) (zW (zx 1 (h1.var ⋯)) zm)))));exact(zy (wM (wN I ⋯ z ⋯ (zb (zW (zx 1 (z.var ⋯)) zm) (zb (PO.v (wN J ⋯ z ⋯ (zb (ze 0 (z.var ⋯)) (zb (ju (zW (zx 1 (z.var ⋯)) zm) (zW (zx 1 (z.var ⋯)) zm)) (zb (PO.v (K0 (zx 3 (z.var ⋯)) (zx 4 (z.var ⋯)))) zk))))) zk))))))
theorem ok_tables_joined(D:DefAt K mg "tables_joined" (top 24) ["one","other","join"])(I:mg "tuple" = none)(J:mg "zip" = none):FnD P w K mg base 1 "tables_joined" 3 F_tables_joined:=
 kN (N:=["one","other","join","first","second"]) D ⋯ λX O hw Q S U z hx=>by
  subst O hw Q S U;exact(by refine zh ?_ ?_;exact(jL 3 (psc 3 z ⋯ (own:=["row","beyond"]) (fr:=[]) (T:= .tp [0,1]) z.calm (z.compOk (fr:=[]) ⋯) ⋯ (PIF.c (Qz z ⋯ J (zW (zx 0 (z.var ⋯)) zm) (zW (zx 2 (z.var ⋯)) zm))) (λfp s2 H2=>have h1:=z.cq ["row","beyond"] [] fp s2 H2 ⋯;h1.tgts (z7 (h1.tgt 0 ⋯) (z7 (h1.tgt 1 ⋯) qu))) (λfp s2 H2=>have h1:=z.cq ["row","beyond"] [] fp s2 H2 ⋯;ju (ze 0 (h1.var ⋯)) (ze 1 (h1.var ⋯)))));refine zh ?_ ?_;exact(jL 4 (psc 4 z ⋯ (own:=["row"]) (fr:=[("one",0)]) (T:= .nm 0) z.calm (z.compOk (fr:=[("one",0)]) ⋯) ⋯ (jA (PV.q (zW (zx 1 (z.var ⋯)) zm))) (λfp s2 H2=>have h1:=z.cq ["row"] [("one",0)] fp s2 H2 ⋯;h1.tgt 0 ⋯) (λfp s2 H2=>have h1:=z.cq ["row"] [("one",0)] fp s2 H2 ⋯;ju (qm (jx (xq (zb zm zk))) (zW (zx 1 (h1.var ⋯)) zm)) (ze 0 (h1.var ⋯)))));exact(zy (jh (jx (xq (zb (ju (zW (zx 0 (z.var ⋯)) zm) (zW (zx 1 (z.var ⋯)) zm)) (zb (ju (zW (zx 0 (z.var ⋯)) zm) (zW (zx 1 (z.var ⋯)) zm)) (zb (jS z ⋯ I (PV.q (PO.v (K0 (zx 3 (z.var ⋯)) (zx 4 (z.var ⋯)))))) zk))))))))
theorem ok_nought_table(D:DefAt K mg "nought_table" (top 9) ["high","wide"]):FnD P w K mg base 1 "nought_table" 2 F_nought_table:=
 kN (N:=["high","wide"]) D ⋯ λX I hw J O Q z hx=>by
  subst I hw J O Q;exact zy (jh (jx (xq (zb (ze 0 (z.var ⋯)) (zb (ze 1 (z.var ⋯)) (zb (qm (jx (xq (zb (qm (jx (xq (zb zm zk))) (ze 1 (z.var ⋯))) zk))) (ze 0 (z.var ⋯))) zk))))))
theorem ok_no_join(D:DefAt K mg "no_join" (top 25) ["one","other"])(I:FnD P w K mg base 1 "nought_table" 2 F_nought_table):FnD P w K mg base 2 "no_join" 2 F_no_join:=
 kN (N:=["one","other"]) D ⋯ λX J hw O Q S z hx=>by
  subst J hw O Q S;exact zy (jh (jt I ⋯ z ⋯ (zb (zW (zx 0 (z.var ⋯)) zm) (zb (zW (zx 1 (z.var ⋯)) zm) zk))))
theorem ok_tables_beside_5(D:DefAt K mg "tables_beside" (top 26) ["one","other"])(I:FnD P w K mg base 1 "tables_joined" 3 F_tables_joined)(J:FnD P w K mg base 2 "no_join" 2 F_no_join):FnD P w K mg base 3 "tables_beside" 2 F_tables_beside_5:=
 kN (N:=["one","other"]) D ⋯ λX O hw Q S U z hx=>by
  subst O hw Q S U;exact zy (jh (jt I ⋯ z ⋯ (zb (ze 0 (z.var ⋯)) (zb (ze 1 (z.var ⋯)) (zb (jt J ⋯ z ⋯ (zb (ze 0 (z.var ⋯)) (zb (ze 1 (z.var ⋯)) zk))) zk)))))
theorem ok_link(D:DefAt K mg "link" (top 30) ["row","i","j"])(a1:FnD P w K mg base 4 "led_on" 3 F_led_on)(a2:FnD P w K mg base 4 "led_into" 3 F_led_into)(I:FnD P w K mg base 1 "same_table" 1 F_same_table)(J:FnD P w K mg base 3 "tables_beside" 2 F_tables_beside_5)(O:FnBy P w K mg base 3 "arrow_by" CR CL)(Q:MethAt P w K mg base 5 CR F_led_on)(S:MethAt P w K mg base 5 CL F_led_into):FnD P w K mg base 6 "link" 3 F_link:=
 kN (N:=["row","i","j","same","base","arrow"]) D ⋯ λX U hw Y Z hb z hx=>by
  subst U hw Y Z hb;exact(by refine zh ?_ ?_;exact(jd 3 (z.set 3 ⋯ (jt I ⋯ z ⋯ (zb (zW (PV.q (zW (zx 0 (z.var ⋯)) zm)) (ze 1 (z.var ⋯))) zk))));refine zh ?_ ?_;exact(qF 4 (psc 4 z ⋯ (own:=["unit"]) (fr:=[]) (T:= .nm 0) z.calm (z.compOk (fr:=[]) ⋯) ⋯ (jA (PV.q (zW (zx 3 (z.var ⋯)) zm))) (λfp s2 H2=>have h1:=z.cq ["unit"] [] fp s2 H2 ⋯;h1.tgt 0 ⋯) (λfp s2 H2=>have h1:=z.cq ["unit"] [] fp s2 H2 ⋯;ju (ze 0 (h1.var ⋯)) (ze 0 (h1.var ⋯)))));refine zh ?_ ?_;exact(qX (T:= .nm 5) (xV hx) z.calm (zbr (ZJ (zW (zx 0 (z.var ⋯)) zm) (yb (ze 1 (z.var ⋯))) (yb (ze 2 (z.var ⋯))))) (z.tgt 5 ⋯) (zy (KU 4 (qF 4 (z.set 4 ⋯ (V5 O Q S ⋯ ⋯ ⋯ z ⋯ (zW (zx 0 (z.var ⋯)) zm) (zW (zx 5 (z.var ⋯)) zm) (jt J ⋯ z ⋯ (zb (ze 3 (z.var ⋯)) (zb (zW (zx 5 (z.var ⋯)) zm) zk))) (ze 4 (z.var ⋯))))))));exact(zy (qG 4 (z.var ⋯))))
theorem ok_kept(D:DefAt K mg "kept" (top 31) ["row","i","j"])(O:FnD P w K mg base 6 "link" 3 F_link)(Q:FnD P w K mg base 3 "base_of" 3 F_base_of)(J:FnD P w K mg base 1 "behind_noughts" 2 F_behind_noughts)(I:mg "len" = none):FnD P w K mg base 7 "kept" 3 F_kept:=
 kN (N:=["row","i","j","base","first","second","swapped"]) D ⋯ λX S hw U Y Z z hx=>by
  subst S hw U Y Z;exact(by refine zh ?_ ?_;exact(jd 3 (z.set 3 ⋯ (PO.v (wN O ⋯ z ⋯ (zb (ze 0 (z.var ⋯)) (zb (ze 1 (z.var ⋯)) (zb (ze 2 (z.var ⋯)) zk)))))));refine zh ?_ ?_;exact(jd 4 (z.set 4 ⋯ (zW (PV.q (zW (zx 0 (z.var ⋯)) zm)) (ze 1 (z.var ⋯)))));refine zh ?_ ?_;exact(jd 5 (z.set 5 ⋯ (zW (PV.q (zW (zx 0 (z.var ⋯)) zm)) (ze 2 (z.var ⋯)))));refine zh ?_ ?_;exact(jd 6 (z.set 6 ⋯ (PO.v (wN Q ⋯ z ⋯ (zb (zW (zx 0 (z.var ⋯)) zm) (zb (ju (ze 5 (z.var ⋯)) (ze 4 (z.var ⋯))) (zb (PO.v (jT (own:=["load"]) (fr:=[("first",4)]) (T:= .nm 0) z.calm (z.compOk (fr:=[("first",4)]) ⋯) ⋯ (jA (zx 3 (z.var ⋯))) (λfp s2 H2=>have h1:=z.cq ["load"] [("first",4)] fp s2 H2 ⋯;h1.tgt 0 ⋯) (λfp s2 H2=>have h1:=z.cq ["load"] [("first",4)] fp s2 H2 ⋯;ju (ZJ (ze 0 (h1.var ⋯)) (yb (ze 1 (h1.var ⋯))) wO) (ZJ (ze 0 (h1.var ⋯)) wO (yb (ze 1 (h1.var ⋯))))))) zk)))))));exact(zy (jh (j6 (j6 (kE z ⋯ I (zx 3 (z.var ⋯))) (kE z ⋯ I (PO.q (wN J ⋯ z ⋯ (zb (ze 5 (z.var ⋯)) (zb (ze 6 (z.var ⋯)) zk)))))) (kE z ⋯ I (PO.q (wN J ⋯ z ⋯ (zb (ze 4 (z.var ⋯)) (zb (ze 3 (z.var ⋯)) zk)))))))))
theorem ok_number_of(D:DefAt K mg "number_of" (top 33) ["much","i","j"]):FnD P w K mg base 1 "number_of" 3 F_number_of:=
 kN (N:=["much","i","j","longer"]) D ⋯ λX I hw J O Q z hx=>by
  subst I hw J O Q;exact(by refine zh ?_ ?_;exact(jd 3 (z.set 3 ⋯ (ju (JB z (ze 0 (z.var ⋯)) (jx (xq (zb (j6 (ze 1 (z.var ⋯)) zm) (zb (ze 2 (z.var ⋯)) zk)))) zm) (JB z (ze 0 (z.var ⋯)) (jx (xq (zb (ze 1 (z.var ⋯)) (zb (ju (ze 2 (z.var ⋯)) zm) zk)))) zm))));exact(zy (jh (ju (j6 (KQ z (ze 0 (z.var ⋯)) (jx (xq (zb (ze 1 (z.var ⋯)) (zb (ze 2 (z.var ⋯)) zk))))) (ze 3 (z.var ⋯))) (JB z (ze 0 (z.var ⋯)) (jx (xq (zb (j6 (ze 1 (z.var ⋯)) zm) (zb (ju (ze 2 (z.var ⋯)) zm) zk)))) zm)))))
theorem ok_numbers(D:DefAt K mg "numbers" (top 34) ["row"])(J:FnD P w K mg base 1 "stretches_of" 1 F_stretches_of)(O:FnD P w K mg base 7 "kept" 3 F_kept)(Q:FnD P w K mg base 1 "number_of" 3 F_number_of)(I:mg "dict" = none)(S:mg "len" = none):FnD P w K mg base 8 "numbers" 1 F_numbers:=
 kN (N:=["row","stretches","much"]) D ⋯ λX U hw Y Z hb z hx=>by
  subst U hw Y Z hb;exact(by refine zh ?_ ?_;exact(jd 1 (z.set 1 ⋯ (PO.v (wN J ⋯ z ⋯ (zb (kE z ⋯ S (PV.q (zW (zx 0 (z.var ⋯)) zm))) zk)))));refine zh ?_ ?_;exact(jd 2 (z.set 2 ⋯ (Qv z ⋯ I (jT (own:=["i","j"]) (fr:=[("row",0)]) (T:= .tp [0,1]) z.calm (z.compOk (fr:=[("row",0)]) ⋯) ⋯ (jA (zx 1 (z.var ⋯))) (λfp s2 H2=>have h1:=z.cq ["i","j"] [("row",0)] fp s2 H2 ⋯;h1.tgts (z7 (h1.tgt 0 ⋯) (z7 (h1.tgt 1 ⋯) qu))) (λfp s2 H2=>have h1:=z.cq ["i","j"] [("row",0)] fp s2 H2 ⋯;jx (xq (zb (jx (xq (zb (ze 0 (h1.var ⋯)) (zb (ze 1 (h1.var ⋯)) zk)))) (zb (jt O ⋯ h1 ⋯ (zb (ze 2 (h1.var ⋯)) (zb (ze 0 (h1.var ⋯)) (zb (ze 1 (h1.var ⋯)) zk)))) zk))))))));exact(zy (jh (Qv z ⋯ I (jT (own:=["i","j"]) (fr:=[("much",2)]) (T:= .tp [0,1]) z.calm (z.compOk (fr:=[("much",2)]) ⋯) ⋯ (jA (zx 1 (z.var ⋯))) (λfp s2 H2=>have h1:=z.cq ["i","j"] [("much",2)] fp s2 H2 ⋯;h1.tgts (z7 (h1.tgt 0 ⋯) (z7 (h1.tgt 1 ⋯) qu))) (λfp s2 H2=>have h1:=z.cq ["i","j"] [("much",2)] fp s2 H2 ⋯;jx (xq (zb (jx (xq (zb (ze 0 (h1.var ⋯)) (zb (ze 1 (h1.var ⋯)) zk)))) (zb (jt Q ⋯ h1 ⋯ (zb (ze 2 (h1.var ⋯)) (zb (ze 0 (h1.var ⋯)) (zb (ze 1 (h1.var ⋯)) zk)))) zk)))))))))
theorem ok_law_seen(D:DefAt K mg "_law_seen" (top 42) ["_law_found","_law_rooms"]):FnD P w K mg base 1 "_law_seen" 2 F_law_seen:=
 kN (N:=["_law_found","_law_rooms","_law_told","_law_i","_law_j"]) D ⋯ λX I hw J O Q z hx=>by
  subst I hw J O Q;exact V2 (T:= .tp [3,4]) 2 (z.set 2 ⋯ Wa) (xV hx) z.calm (V6 (ze 0 (z.var ⋯))) (z.tgts (z7 (z.tgt 3 ⋯) (z7 (z.tgt 4 ⋯) qu))) (zbm (by have:=z.u64;omega) (z.var ⋯) (jx (xq (zb (j6 (j6 (ze 1 (z.var ⋯)) zm) (ze 4 (z.var ⋯))) (zb (j6 (j6 (ze 1 (z.var ⋯)) zm) (ze 3 (z.var ⋯))) zk)))) (KQ z (ze 0 (z.var ⋯)) (jx (xq (zb (ze 3 (z.var ⋯)) (zb (ze 4 (z.var ⋯)) zk))))) (by rfl)) (zy (qG 2 (z.var ⋯)))
theorem ok_other_way(D:DefAt K mg "other_way" (top 22) ["way"]):FnD P w K mg base 1 "other_way" 1 F_other_way:=
 kN (N:=["way"]) D ⋯ λX I hw J O Q z hx=>by
  subst I hw J O Q;exact zy (jh (Qu (v5 z (ze 0 (z.var ⋯)) vZ) vZ vZ))
theorem ok_opposite(D:DefAt K mg "opposite" (top 28) ["row"])(I:FnD P w K mg base 1 "other_way" 1 F_other_way)(J:FnD P w K mg base 1 "turned_over" 1 F_turned_over)(O:mg "tuple" = none):FnD P w K mg base 2 "opposite" 1 F_opposite:=
 kN (N:=["row","arrows"]) D ⋯ λX Q hw S U Y z hx=>by
  subst Q hw S U Y;exact(by refine zh ?_ ?_;exact(jL 1 (psc 1 z ⋯ (own:=["arrow"]) (fr:=[]) (T:= .nm 0) z.calm (z.compOk (fr:=[]) ⋯) ⋯ (jA (PV.q (zW (zx 0 (z.var ⋯)) zm))) (λfp s2 H2=>have h1:=z.cq ["arrow"] [] fp s2 H2 ⋯;h1.tgt 0 ⋯) (λfp s2 H2=>have h1:=z.cq ["arrow"] [] fp s2 H2 ⋯;jx (xq (zb (jt I ⋯ h1 ⋯ (zb (zW (zx 0 (h1.var ⋯)) zm) zk)) (zb (jt J ⋯ h1 ⋯ (zb (zW (zx 0 (h1.var ⋯)) zm) zk)) zk))))));exact(zy (jh (jx (xq (zb (zW (zx 0 (z.var ⋯)) zm) (zb (zW (zx 0 (z.var ⋯)) zm) (zb (jS z ⋯ O (zx 1 (z.var ⋯))) zk))))))))
theorem ok_mirrored(D:DefAt K mg "mirrored" (top 27) ["row"])(O:FnD P w K mg base 1 "other_way" 1 F_other_way)(I:mg "reversed" = none)(J:mg "tuple" = none):FnD P w K mg base 2 "mirrored" 1 F_mirrored:=
 kN (N:=["row","arrows"]) D ⋯ λX Q hw S U Y z hx=>by
  subst Q hw S U Y;exact(by refine zh ?_ ?_;exact(jL 1 (psc 1 z ⋯ (own:=["arrow"]) (fr:=[]) (T:= .nm 0) z.calm (z.compOk (fr:=[]) ⋯) ⋯ (PIF.c (zbs z ⋯ I (zW (zx 0 (z.var ⋯)) zm))) (λfp s2 H2=>have h1:=z.cq ["arrow"] [] fp s2 H2 ⋯;h1.tgt 0 ⋯) (λfp s2 H2=>have h1:=z.cq ["arrow"] [] fp s2 H2 ⋯;jx (xq (zb (jt O ⋯ h1 ⋯ (zb (zW (zx 0 (h1.var ⋯)) zm) zk)) (zb (zW (zx 0 (h1.var ⋯)) zm) zk))))));exact(zy (jh (jx (xq (zb (zW (zx 0 (z.var ⋯)) zm) (zb (KO z ⋯ J ⋯ I (zW (zx 0 (z.var ⋯)) zm)) (zb (jS z ⋯ J (zx 1 (z.var ⋯))) zk))))))))
theorem ok_law{f:Addr}{fd:FuncData}(D:L2.Fun K "law" "law" (top 43) f fd)(J:FnD P w K mg base 1 "_law_cell" 2 F_law_cell)(Z:FnD P w K mg base 1 "_law_ways" 2 F_law_ways_k22)(Q:FnD P w K mg base 3 "_law_drawn" 5 F_law_drawn_k22)(I:FnD P w K mg base 8 "numbers" 1 F_numbers)(S:FnD P w K mg base 1 "_law_seen" 2 F_law_seen)(U:FnD P w K mg base 7 "kept" 3 F_kept)(Y:FnD P w K mg base 2 "opposite" 1 F_opposite)(O:FnD P w K mg base 2 "mirrored" 1 F_mirrored):FnOk P w K mg base CX0 9 f fd ["_law_script"] (spF K 1 F_law_k25):=
 zfx (N:=["_law_script","_law_cell_here","_law_p","_law_rooms","_law_ways_here","_law_row_here","_law_found","_law_i","_law_j"]) D ⋯ λX hP hw hK hm hb z hx=>by
  subst hP hw hK hm hb;exact(by refine zh ?_ ?_;exact(jd 1 (z.set 1 ⋯ (jt J ⋯ z ⋯ (zb (ze 0 (z.var ⋯)) (zb zm zk)))));refine zh ?_ ?_;exact(jd 2 (z.set 2 ⋯ (zW (PO.q (yV (xq (zb zm (zb zm (zb zm (zb zm zk))))))) (qg (ze 1 (z.var ⋯)) zm))));refine zh ?_ ?_;exact(jd 3 (z.set 3 ⋯ (ju zm (qg (yT (ze 1 (z.var ⋯)) zm) zm))));refine zh ?_ ?_;exact(jd 4 (z.set 4 ⋯ (jt Z ⋯ z ⋯ (zb (yT (ze 1 (z.var ⋯)) zm) (zb (ze 3 (z.var ⋯)) zk)))));refine zh ?_ ?_;exact(jd 5 (z.set 5 ⋯ (jt Q ⋯ z ⋯ (zb (ze 0 (z.var ⋯)) (zb zm (zb (ze 2 (z.var ⋯)) (zb (ze 4 (z.var ⋯)) (zb zm zk))))))));refine zh ?_ ?_;exact(jd 6 (z.set 6 ⋯ (jt I ⋯ z ⋯ (zb (ze 5 (z.var ⋯)) zk))));refine zh ?_ ?_;exact(kF (zc6 (zcZ (JC z (jt I ⋯ z ⋯ (zb (jt O ⋯ z ⋯ (zb (ze 5 (z.var ⋯)) zk)) zk)) (jt S ⋯ z ⋯ (zb (ze 6 (z.var ⋯)) (zb (ze 3 (z.var ⋯)) zk)))) (zbb (JC z (jt I ⋯ z ⋯ (zb (jt Y ⋯ z ⋯ (zb (ze 5 (z.var ⋯)) zk)) zk)) (ze 6 (z.var ⋯)))))) (zy (jh zbi)) qp);refine zh ?_ ?_;exact(kF (JC z (jt I ⋯ z ⋯ (zb (jt Y ⋯ z ⋯ (zb (jt O ⋯ z ⋯ (zb (ze 5 (z.var ⋯)) zk)) zk)) zk)) (jt S ⋯ z ⋯ (zb (ze 6 (z.var ⋯)) (zb (ze 3 (z.var ⋯)) zk)))) (zy (jh zbi)) qp);refine zh ?_ ?_;exact(jd 7 (z.set 7 ⋯ (qg (jt J ⋯ z ⋯ (zb (ze 0 (z.var ⋯)) (zb zm zk))) (ze 3 (z.var ⋯)))));refine zh ?_ ?_;exact(jd 8 (z.set 8 ⋯ (ju (ze 7 (z.var ⋯)) (qg (yT (jt J ⋯ z ⋯ (zb (ze 0 (z.var ⋯)) (zb zm zk))) zm) (j6 (ze 3 (z.var ⋯)) (ze 7 (z.var ⋯)))))));refine zh ?_ ?_;exact(kF (zal z (jt U ⋯ z ⋯ (zb (jt O ⋯ z ⋯ (zb (ze 5 (z.var ⋯)) zk)) (zb (j6 (j6 (ze 3 (z.var ⋯)) zm) (ze 8 (z.var ⋯))) (zb (j6 (j6 (ze 3 (z.var ⋯)) zm) (ze 7 (z.var ⋯))) zk)))) (jt U ⋯ z ⋯ (zb (ze 5 (z.var ⋯)) (zb (ze 7 (z.var ⋯)) (zb (ze 8 (z.var ⋯)) zk))))) (zy (jh zbi)) qp);exact(zy (jh (ze8 z (ze 5 (z.var ⋯)) (jt Q ⋯ z ⋯ (zb (ze 0 (z.var ⋯)) (zb zm (zb (ze 2 (z.var ⋯)) (zb (ze 4 (z.var ⋯)) (zb zm zk))))))))))
theorem ok_init{f C:Addr}{fd:FuncData}(I:L2.Fun K "__init__" "Arrow.__init__" (inCls (top 17) 0) f fd)(c:ClsA K C):FnOk P w K mg base CX0 1 f fd ["self","p","table"] (yP C):=
 zbV (k:=0) I ⋯ c λX J hw O Q S z=>by
  subst J hw O Q S;exact yv (zap (z.var ⋯) (z.var ⋯) rfl) (ya (zap (z.var ⋯) (z.var ⋯) rfl))
theorem ok_forthR{f C:Addr}{fd:FuncData}(O:L2.Fun K "forth" "Right.forth" (inCls (top 18) 0) f fd)(c:ClsA K C)(Q:FnD P w K mg base 4 "led_on" 3 F_led_on):FnOk P w K mg base CX0 5 f fd ["self","base"] (spForth K C F_led_on):=
 QQ (k:=4) O ⋯ c λX S hw U I J z=>by
  subst S hw U I J;obtain⟨fa,fd,ps,Y,G,I,Z,J⟩:=Q.ex;rw [Y]at G;exact ya (v7 (yW G (z.room.mono ⋯) (z.gl (x:="led_on") ⋯).1 I Z J .nil ZO (zS (QB (z.var ⋯) rfl) (zS (QB (z.var ⋯) rfl) (zS (z.var ⋯) jM)))))
theorem ok_forthL{f C:Addr}{fd:FuncData}(O:L2.Fun K "forth" "Left.forth" (inCls (top 19) 0) f fd)(c:ClsA K C)(Q:FnD P w K mg base 4 "led_into" 3 F_led_into):FnOk P w K mg base CX0 5 f fd ["self","base"] (spForth K C F_led_into):=
 QQ (k:=4) O ⋯ c λX S hw U I J z=>by
  subst S hw U I J;obtain⟨fa,fd,ps,Y,G,I,Z,J⟩:=Q.ex;rw [Y]at G;exact ya (v7 (yW G (z.room.mono ⋯) (z.gl (x:="led_into") ⋯).1 I Z J .nil ZO (zS (QB (z.var ⋯) rfl) (zS (QB (z.var ⋯) rfl) (zS (z.var ⋯) jM)))))
theorem ok_by{f fI CR CL:Addr}{fd I:FuncData}(O:L2.Fun K "arrow_by" "arrow_by" (top 20) f fd)(Q:Mk K CR fI)(S:Mk K CL fI)(U:FnOk P w K mg base CX0 1 fI I ["self","p","table"] (yP CR))(GL:FnOk P w K mg base CX0 1 fI I ["self","p","table"] (yP CL))(J:Binds K I ["self","p","table"] [])(mR:mg "Right" = some (.ref CR))(mL:mg "Left" = some (.ref CL)):FnOk P w K mg base CX0 3 f fd ["p","way","table"] (spBy CR CL):=
 zfw (k:=2) O ⋯ λX Y hw Z hm hb z=>by
  subst Y hw Z hm hb;exact ya (v7 (L2.pe_ifExp (KS zff (z.var ⋯) zat (by with_unfolding_all rfl)) (K6 Q U (z.room.mono ⋯) (z.gl (x:="Right") ⋯).1 mR J .nil ZO (zS (z.var ⋯) (zS (z.var ⋯) jM))) (K6 S GL (z.room.mono ⋯) (z.gl (x:="Left") ⋯).1 mL J .nil ZO (zS (z.var ⋯) (zS (z.var ⋯) jM)))))
end
end DL
namespace PySem.W.Fast
def tw970729206140430057:=0
def tw5765246684505656808:=0
def tw1546266135224155241:=0
def tw5125278414691989380:=0
def tw9340037510808648479:=0
def tw1190051539893046893:=0
def tw1707277367581149323:=0
def tw9304461206612067667:=0
def tw8042203125691203328:=0
def tw11456017941162077985:=0
def tw5807521677144874020:=0
def tw1417081827971982745:=0
def tw14792996421628212008:=0
def tw7651993141943028630:=0
def tw14913188826656781821:=0
def tw4177602897629313048:=0
def tw5592923675712926006:=0
def tw7312519816380128453:=0
def tw15982382744735788524:=0
def tw392272785626361903:=0
def tw3234220260901538765:=0
def tw13929888459936208677:=0
def tw3138537078568817319:=0
def tw4827619886059349253:=0
def tw9672479750545433213:=0
def tw13779195774622461956:=0
def tw11239284061411244716:=0
def tw13417404816246097364:=0
def tw2157976924987859516:=0
def tw14793215067967727292:=0
def tw15187616251137139146:=0
def tw3970587675438276468:=0
def tw3541387171807232776:=0
def tw2565176630320879142:=0
end PySem.W.Fast
open PySem PySem.W PyProof.Rows
set_option maxRecDepth 100000 in
set_option maxHeartbeats 0 in
theorem PySem.Challenge.cw_barsplit_k25_whole_mirrored_and_opposite_holds : PySem.Challenge.rw_barsplit_k25_whole_mirrored_and_opposite.Holds := by
 w_on;o_law;k_head;(case hw=>w_witness2)
 k_fill
 refine L2.walk_ofK (l:=zgW) (n:=63) (k:=9) (x:="_law_script") (CX:=L2.CX0) (sp:=λK=>DL.spF K 1 DL.F_law_k25) rfl ⋯ rfl ⟨rfl,by decide,by decide⟩ (λw h Y=>PySem.W.kIn_of Y) ?F ?S ?C
 case S=>exact λK H a ns J hO hS=>DL.law_true hS (DL.law_k25 ns J)
 case C=>exact λ_ _ _ _ z=>z
 case F=>
  intro w mg fa h I G ah;have ai:mg "any" = none:=zhZ I G (by k_is);have aj:mg "dict" = none:=zhZ I G (by k_is);have a5:mg "enumerate" = none:=zhZ I G (by k_is);have ak:mg "int" = none:=zhZ I G (by k_is);have U:mg "len" = none:=zhZ I G (by k_is);have al:mg "min" = none:=zhZ I G (by k_is);have O:mg "range" = none:=zhZ I G (by k_is);have am:mg "reversed" = none:=zhZ I G (by k_is);have an:mg "sum" = none:=zhZ I G (by k_is);have Q:mg "tuple" = none:=zhZ I G (by k_is);have Z:mg "zip" = none:=zhZ I G (by k_is);have ao:DL.DefAt (L2.KOf I) mg "_law_cell" (DL.top 36) ["_law_script","_law_k"]:=by
   dsimp only [L2.KOf];refine' DL.def_mk I G ?a ?l ?c ?k ?b
   (case a=>k_is);(case l=>k_is);(case c=>k_is);(case k=>k_is)
   (case b=>intro _ _ _ _ _ _ us J;obtain⟨_,_,rfl⟩:=DL.len2 J;rfl)
  have ap:DL.DefAt (L2.KOf I) mg "_law_ways" (DL.top 39) ["_law_cell_here","_law_rooms"]:=by
   dsimp only [L2.KOf];refine' DL.def_mk I G ?a ?l ?c ?k ?b
   (case a=>k_is);(case l=>k_is);(case c=>k_is);(case k=>k_is)
   (case b=>intro _ _ _ _ _ _ us J;obtain⟨_,_,rfl⟩:=DL.len2 J;rfl)
  have aq:DL.DefAt (L2.KOf I) mg "_law_ends" (DL.top 37) ["_law_k","_law_way"]:=by
   dsimp only [L2.KOf];refine' DL.def_mk I G ?a ?l ?c ?k ?b
   (case a=>k_is);(case l=>k_is);(case c=>k_is);(case k=>k_is)
   (case b=>intro _ _ _ _ _ _ us J;obtain⟨_,_,rfl⟩:=DL.len2 J;rfl)
  have ar:DL.DefAt (L2.KOf I) mg "_law_row" (DL.top 38) ["_law_p","_law_ways_here","_law_widths","_law_tables"]:=by
   dsimp only [L2.KOf];refine' DL.def_mk I G ?a ?l ?c ?k ?b
   (case a=>k_is);(case l=>k_is);(case c=>k_is);(case k=>k_is)
   (case b=>intro _ _ _ _ _ _ us J;obtain⟨_,_,_,_,rfl⟩:=DL.len4 J;rfl)
  have as:DL.DefAt (L2.KOf I) mg "_law_rows" (DL.top 40) ["_law_script","_law_at","_law_p","_law_high","_law_wide"]:=by
   dsimp only [L2.KOf];refine' DL.def_mk I G ?a ?l ?c ?k ?b
   (case a=>k_is);(case l=>k_is);(case c=>k_is);(case k=>k_is)
   (case b=>intro _ _ _ _ _ _ us J;obtain⟨_,_,_,_,_,rfl⟩:=DL.len5 J;rfl)
  have au:DL.DefAt (L2.KOf I) mg "_law_drawn" (DL.top 41) ["_law_script","_law_at","_law_p","_law_ways_here","_law_most"]:=by
   dsimp only [L2.KOf];refine' DL.def_mk I G ?a ?l ?c ?k ?b
   (case a=>k_is);(case l=>k_is);(case c=>k_is);(case k=>k_is)
   (case b=>intro _ _ _ _ _ _ us J;obtain⟨_,_,_,_,_,rfl⟩:=DL.len5 J;rfl)
  have av:DL.DefAt (L2.KOf I) mg "stretches_of" (DL.top 32) ["many"]:=by
   dsimp only [L2.KOf];refine' DL.def_mk I G ?a ?l ?c ?k ?b
   (case a=>k_is);(case l=>k_is);(case c=>k_is);(case k=>k_is)
   (case b=>intro _ _ _ _ _ _ us J;obtain⟨_,rfl⟩:=DL.len1 J;rfl)
  have aw:DL.DefAt (L2.KOf I) mg "rests" (DL.top 4) ["p","numbers"]:=by
   dsimp only [L2.KOf];refine' DL.def_mk I G ?a ?l ?c ?k ?b
   (case a=>k_is);(case l=>k_is);(case c=>k_is);(case k=>k_is)
   (case b=>intro _ _ _ _ _ _ us J;obtain⟨_,_,rfl⟩:=DL.len2 J;rfl)
  have ax:DL.DefAt (L2.KOf I) mg "inverse" (DL.top 5) ["p","x"]:=by
   dsimp only [L2.KOf];refine' DL.def_mk I G ?a ?l ?c ?k ?b
   (case a=>k_is);(case l=>k_is);(case c=>k_is);(case k=>k_is)
   (case b=>intro _ _ _ _ _ _ us J;obtain⟨_,_,rfl⟩:=DL.len2 J;rfl)
  have ay:DL.DefAt (L2.KOf I) mg "cleared" (DL.top 11) ["p","load","pivot","place"]:=by
   dsimp only [L2.KOf];refine' DL.def_mk I G ?a ?l ?c ?k ?b
   (case a=>k_is);(case l=>k_is);(case c=>k_is);(case k=>k_is)
   (case b=>intro _ _ _ _ _ _ us J;obtain⟨_,_,_,_,rfl⟩:=DL.len4 J;rfl)
  have az:DL.DefAt (L2.KOf I) mg "base_of" (DL.top 12) ["p","long","loads"]:=by
   dsimp only [L2.KOf];refine' DL.def_mk I G ?a ?l ?c ?k ?b
   (case a=>k_is);(case l=>k_is);(case c=>k_is);(case k=>k_is)
   (case b=>intro _ _ _ _ _ _ us J;obtain⟨_,_,_,rfl⟩:=DL.len3 J;rfl)
  have b0:DL.DefAt (L2.KOf I) mg "led" (DL.top 6) ["p","table","load"]:=by
   dsimp only [L2.KOf];refine' DL.def_mk I G ?a ?l ?c ?k ?b
   (case a=>k_is);(case l=>k_is);(case c=>k_is);(case k=>k_is)
   (case b=>intro _ _ _ _ _ _ us J;obtain⟨_,_,_,rfl⟩:=DL.len3 J;rfl)
  have b9:DL.DefAt (L2.KOf I) mg "led_on" (DL.top 14) ["p","table","base"]:=by
   dsimp only [L2.KOf];refine' DL.def_mk I G ?a ?l ?c ?k ?b
   (case a=>k_is);(case l=>k_is);(case c=>k_is);(case k=>k_is)
   (case b=>intro _ _ _ _ _ _ us J;obtain⟨_,_,_,rfl⟩:=DL.len3 J;rfl)
  have ba:DL.DefAt (L2.KOf I) mg "behind_noughts" (DL.top 13) ["many","base"]:=by
   dsimp only [L2.KOf];refine' DL.def_mk I G ?a ?l ?c ?k ?b
   (case a=>k_is);(case l=>k_is);(case c=>k_is);(case k=>k_is)
   (case b=>intro _ _ _ _ _ _ us J;obtain⟨_,_,rfl⟩:=DL.len2 J;rfl)
  have bb:DL.DefAt (L2.KOf I) mg "turned_over" (DL.top 7) ["table"]:=by
   dsimp only [L2.KOf];refine' DL.def_mk I G ?a ?l ?c ?k ?b
   (case a=>k_is);(case l=>k_is);(case c=>k_is);(case k=>k_is)
   (case b=>intro _ _ _ _ _ _ us J;obtain⟨_,rfl⟩:=DL.len1 J;rfl)
  have bc:DL.DefAt (L2.KOf I) mg "same_table" (DL.top 8) ["many"]:=by
   dsimp only [L2.KOf];refine' DL.def_mk I G ?a ?l ?c ?k ?b
   (case a=>k_is);(case l=>k_is);(case c=>k_is);(case k=>k_is)
   (case b=>intro _ _ _ _ _ _ us J;obtain⟨_,rfl⟩:=DL.len1 J;rfl)
  have bd:DL.DefAt (L2.KOf I) mg "led_into" (DL.top 15) ["p","table","base"]:=by
   dsimp only [L2.KOf];refine' DL.def_mk I G ?a ?l ?c ?k ?b
   (case a=>k_is);(case l=>k_is);(case c=>k_is);(case k=>k_is)
   (case b=>intro _ _ _ _ _ _ us J;obtain⟨_,_,_,rfl⟩:=DL.len3 J;rfl)
  have be:DL.DefAt (L2.KOf I) mg "tables_joined" (DL.top 24) ["one","other","join"]:=by
   dsimp only [L2.KOf];refine' DL.def_mk I G ?a ?l ?c ?k ?b
   (case a=>k_is);(case l=>k_is);(case c=>k_is);(case k=>k_is)
   (case b=>intro _ _ _ _ _ _ us J;obtain⟨_,_,_,rfl⟩:=DL.len3 J;rfl)
  have bf:DL.DefAt (L2.KOf I) mg "nought_table" (DL.top 9) ["high","wide"]:=by
   dsimp only [L2.KOf];refine' DL.def_mk I G ?a ?l ?c ?k ?b
   (case a=>k_is);(case l=>k_is);(case c=>k_is);(case k=>k_is)
   (case b=>intro _ _ _ _ _ _ us J;obtain⟨_,_,rfl⟩:=DL.len2 J;rfl)
  have bg:DL.DefAt (L2.KOf I) mg "no_join" (DL.top 25) ["one","other"]:=by
   dsimp only [L2.KOf];refine' DL.def_mk I G ?a ?l ?c ?k ?b
   (case a=>k_is);(case l=>k_is);(case c=>k_is);(case k=>k_is)
   (case b=>intro _ _ _ _ _ _ us J;obtain⟨_,_,rfl⟩:=DL.len2 J;rfl)
  have bh:DL.DefAt (L2.KOf I) mg "tables_beside" (DL.top 26) ["one","other"]:=by
   dsimp only [L2.KOf];refine' DL.def_mk I G ?a ?l ?c ?k ?b
   (case a=>k_is);(case l=>k_is);(case c=>k_is);(case k=>k_is)
   (case b=>intro _ _ _ _ _ _ us J;obtain⟨_,_,rfl⟩:=DL.len2 J;rfl)
  have bi:DL.DefAt (L2.KOf I) mg "link" (DL.top 30) ["row","i","j"]:=by
   dsimp only [L2.KOf];refine' DL.def_mk I G ?a ?l ?c ?k ?b
   (case a=>k_is);(case l=>k_is);(case c=>k_is);(case k=>k_is)
   (case b=>intro _ _ _ _ _ _ us J;obtain⟨_,_,_,rfl⟩:=DL.len3 J;rfl)
  have bj:DL.DefAt (L2.KOf I) mg "kept" (DL.top 31) ["row","i","j"]:=by
   dsimp only [L2.KOf];refine' DL.def_mk I G ?a ?l ?c ?k ?b
   (case a=>k_is);(case l=>k_is);(case c=>k_is);(case k=>k_is)
   (case b=>intro _ _ _ _ _ _ us J;obtain⟨_,_,_,rfl⟩:=DL.len3 J;rfl)
  have bl:DL.DefAt (L2.KOf I) mg "number_of" (DL.top 33) ["much","i","j"]:=by
   dsimp only [L2.KOf];refine' DL.def_mk I G ?a ?l ?c ?k ?b
   (case a=>k_is);(case l=>k_is);(case c=>k_is);(case k=>k_is)
   (case b=>intro _ _ _ _ _ _ us J;obtain⟨_,_,_,rfl⟩:=DL.len3 J;rfl)
  have bm:DL.DefAt (L2.KOf I) mg "numbers" (DL.top 34) ["row"]:=by
   dsimp only [L2.KOf];refine' DL.def_mk I G ?a ?l ?c ?k ?b
   (case a=>k_is);(case l=>k_is);(case c=>k_is);(case k=>k_is)
   (case b=>intro _ _ _ _ _ _ us J;obtain⟨_,rfl⟩:=DL.len1 J;rfl)
  have bn:DL.DefAt (L2.KOf I) mg "_law_seen" (DL.top 42) ["_law_found","_law_rooms"]:=by
   dsimp only [L2.KOf];refine' DL.def_mk I G ?a ?l ?c ?k ?b
   (case a=>k_is);(case l=>k_is);(case c=>k_is);(case k=>k_is)
   (case b=>intro _ _ _ _ _ _ us J;obtain⟨_,_,rfl⟩:=DL.len2 J;rfl)
  have bo:DL.DefAt (L2.KOf I) mg "other_way" (DL.top 22) ["way"]:=by
   dsimp only [L2.KOf];refine' DL.def_mk I G ?a ?l ?c ?k ?b
   (case a=>k_is);(case l=>k_is);(case c=>k_is);(case k=>k_is)
   (case b=>intro _ _ _ _ _ _ us J;obtain⟨_,rfl⟩:=DL.len1 J;rfl)
  have bp:DL.DefAt (L2.KOf I) mg "opposite" (DL.top 28) ["row"]:=by
   dsimp only [L2.KOf];refine' DL.def_mk I G ?a ?l ?c ?k ?b
   (case a=>k_is);(case l=>k_is);(case c=>k_is);(case k=>k_is)
   (case b=>intro _ _ _ _ _ _ us J;obtain⟨_,rfl⟩:=DL.len1 J;rfl)
  have bq:DL.DefAt (L2.KOf I) mg "mirrored" (DL.top 27) ["row"]:=by
   dsimp only [L2.KOf];refine' DL.def_mk I G ?a ?l ?c ?k ?b
   (case a=>k_is);(case l=>k_is);(case c=>k_is);(case k=>k_is)
   (case b=>intro _ _ _ _ _ _ us J;obtain⟨_,rfl⟩:=DL.len1 J;rfl)
  have br:DL.DefAt (L2.KOf I) mg "law" (DL.top 43) ["_law_script"]:=by
   dsimp only [L2.KOf];refine' DL.def_mk I G ?a ?l ?c ?k ?b
   (case a=>k_is);(case l=>k_is);(case c=>k_is);(case k=>k_is)
   (case b=>intro _ _ _ _ _ _ us J;obtain⟨_,rfl⟩:=DL.len1 J;rfl)
  have AR:DL.ArrAt (L2.KOf I) mg (DL.inCls (DL.top 17) 0) (DL.inCls (DL.top 18) 0) (DL.inCls (DL.top 19) 0):=by
   dsimp only [L2.KOf];refine' DL.arr_mk I G ?nR ?nL ?iR ?iL ?mR ?mL ?uI ?uR ?uL ?vI ?vR ?vL ?w1 ?w2 ?w3 ?z1 ?z2 ?z3 ?bR ?bL ?gI ?gR ?gL
   (case nR=>k_is)
   (case nL=>k_is)
   (case iR=>k_is)
   (case iL=>k_is)
   (case mR=>k_is)
   (case mL=>k_is)
   (case uI=>k_is)
   (case uR=>k_is)
   (case uL=>k_is)
   (case vI=>k_is)
   (case vR=>k_is)
   (case vL=>k_is)
   (case w1=>k_is)
   (case w2=>k_is)
   (case w3=>k_is)
   (case z1=>k_is)
   (case z2=>k_is)
   (case z3=>k_is)
   (case bR=>kernel_rfl)
   (case bL=>kernel_rfl)
   (case gI=>intro _ _ _ _ _ _ us J;obtain⟨_,_,_,rfl⟩:=DL.len3 J;rfl)
   (case gR=>intro _ _ _ _ _ _ us J;obtain⟨_,_,rfl⟩:=DL.len2 J;rfl)
   (case gL=>intro _ _ _ _ _ _ us J;obtain⟨_,_,rfl⟩:=DL.len2 J;rfl)
  have bu:DL.DefAt (L2.KOf I) mg "arrow_by" (DL.top 20) ["p","way","table"]:=by
   dsimp only [L2.KOf];refine' DL.def_mk I G ?a ?l ?c ?k ?b
   (case a=>k_is);(case l=>k_is);(case c=>k_is);(case k=>k_is)
   (case b=>intro _ _ _ _ _ _ us J;obtain⟨_,_,_,rfl⟩:=DL.len3 J;rfl)
  obtain⟨f,fd,Fu,hb,hm⟩:=br.ex;have e0:=ah.symm.trans hm;cases e0;refine⟨fd,λs u=> .of_eq (hb [u] rfl),λbase kb nb=>?_⟩;obtain⟨CR,CL,fI,fR,fL,dI,dR,dL,q1,q2,q3,q4,q5,q6,q7,q8,q9,c6,c7,c8,c9,ca⟩:=AR.ex;obtain⟨cb,cc,a7,cd,ce⟩:=bu.ex;have cf:DL.FnBy (zgW).prog w (L2.KOf I) mg base 3 "arrow_by" CR CL:=⟨cb,cc,DL.ok_by a7 q3 q4 (DL.ok_init q9 q5) (DL.ok_init q9 q6) c8 q1 q2,ce,a7.kp,.all cd⟩;have a2:DL.FnD (zgW).prog w (L2.KOf I) mg base 1 "_law_cell" 2 DL.F_law_cell:=DL.ok_law_cell ao U al O;have cg:DL.FnD (zgW).prog w (L2.KOf I) mg base 1 "_law_ways" 2 DL.F_law_ways_k22:=DL.ok_law_ways_k22 ap O;have a8:DL.FnD (zgW).prog w (L2.KOf I) mg base 1 "_law_ends" 2 DL.F_law_ends_k22:=DL.ok_law_ends_k22 aq;have ch:DL.FnD (zgW).prog w (L2.KOf I) mg base 2 "_law_row" 4 DL.F_law_row_k22:=DL.ok_law_row_k22 ar a8 a5 Q;have ci:DL.FnD (zgW).prog w (L2.KOf I) mg base 2 "_law_rows" 5 DL.F_law_rows_k22:=DL.ok_law_rows_k22 as a2 ak O;have cj:DL.FnD (zgW).prog w (L2.KOf I) mg base 3 "_law_drawn" 5 DL.F_law_drawn_k22:=DL.ok_law_drawn_k22 au ch a8 a2 ci a5 U O;have ck:DL.FnD (zgW).prog w (L2.KOf I) mg base 1 "stretches_of" 1 DL.F_stretches_of:=DL.ok_stretches_of av O;have a3:DL.FnD (zgW).prog w (L2.KOf I) mg base 1 "rests" 2 DL.F_rests:=DL.ok_rests aw Q;have cl:DL.FnD (zgW).prog w (L2.KOf I) mg base 1 "inverse" 2 DL.F_inverse:=DL.ok_inverse ax O;have cm:DL.FnD (zgW).prog w (L2.KOf I) mg base 2 "cleared" 4 DL.F_cleared:=DL.ok_cleared ay a3 Z;have a4:DL.FnD (zgW).prog w (L2.KOf I) mg base 3 "base_of" 3 DL.F_base_of:=DL.ok_base_of az a3 cl cm O;have cn:DL.FnD (zgW).prog w (L2.KOf I) mg base 2 "led" 3 DL.F_led:=DL.ok_led b0 a3 an Z;have a9:DL.FnD (zgW).prog w (L2.KOf I) mg base 4 "led_on" 3 DL.F_led_on:=DL.ok_led_on b9 a4 cn;have aa:DL.FnD (zgW).prog w (L2.KOf I) mg base 1 "behind_noughts" 2 DL.F_behind_noughts:=DL.ok_behind_noughts ba ai;have ab:DL.FnD (zgW).prog w (L2.KOf I) mg base 1 "turned_over" 1 DL.F_turned_over:=DL.ok_turned_over bb O Q;have ac:DL.FnD (zgW).prog w (L2.KOf I) mg base 1 "same_table" 1 DL.F_same_table:=DL.ok_same_table bc O Q;have ad:DL.FnD (zgW).prog w (L2.KOf I) mg base 4 "led_into" 3 DL.F_led_into:=DL.ok_led_into bd aa a4 ab ac Z;have co:DL.FnD (zgW).prog w (L2.KOf I) mg base 1 "tables_joined" 3 DL.F_tables_joined:=DL.ok_tables_joined be Q Z;have cp:DL.FnD (zgW).prog w (L2.KOf I) mg base 1 "nought_table" 2 DL.F_nought_table:=DL.ok_nought_table bf;have cq:DL.FnD (zgW).prog w (L2.KOf I) mg base 2 "no_join" 2 DL.F_no_join:=DL.ok_no_join bg cp;have cr:DL.FnD (zgW).prog w (L2.KOf I) mg base 3 "tables_beside" 2 DL.F_tables_beside_5:=DL.ok_tables_beside_5 bh co cq;have cs:DL.MethAt (zgW).prog w (L2.KOf I) mg base 5 CR DL.F_led_on:=⟨q5,fR,dR,q7,DL.ok_forthR c6 q5 a9,c9⟩;have ct:DL.MethAt (zgW).prog w (L2.KOf I) mg base 5 CL DL.F_led_into:=⟨q6,fL,dL,q8,DL.ok_forthL c7 q6 ad,ca⟩;have cu:DL.FnD (zgW).prog w (L2.KOf I) mg base 6 "link" 3 DL.F_link:=DL.ok_link bi a9 ad ac cr cf cs ct;have ae:DL.FnD (zgW).prog w (L2.KOf I) mg base 7 "kept" 3 DL.F_kept:=DL.ok_kept bj cu a4 aa U;have cv:DL.FnD (zgW).prog w (L2.KOf I) mg base 1 "number_of" 3 DL.F_number_of:=DL.ok_number_of bl;have cw:DL.FnD (zgW).prog w (L2.KOf I) mg base 8 "numbers" 1 DL.F_numbers:=DL.ok_numbers bm ck ae cv aj U;have cx:DL.FnD (zgW).prog w (L2.KOf I) mg base 1 "_law_seen" 2 DL.F_law_seen:=DL.ok_law_seen bn;have af:DL.FnD (zgW).prog w (L2.KOf I) mg base 1 "other_way" 1 DL.F_other_way:=DL.ok_other_way bo;have cy:DL.FnD (zgW).prog w (L2.KOf I) mg base 2 "opposite" 1 DL.F_opposite:=DL.ok_opposite bp af ab Q;have cz:DL.FnD (zgW).prog w (L2.KOf I) mg base 2 "mirrored" 1 DL.F_mirrored:=DL.ok_mirrored bq af am Q;exact DL.ok_law Fu a2 cg cj cw cx ae cy cz
