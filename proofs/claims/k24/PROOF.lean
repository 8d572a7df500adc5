import PyProof.Rows.All
import Wide.All
import OpenK.AllK
import Wide.FinOn
import Lean
import PyProof.EqAt
import PyProof.EqKinds
import PyProof.TupleCall
import PySem.Str
import PyProof.ZipIter
import PyProof.IsiBase
import KE.KItemsList
import KE.KIsAll
import OpenK.KOwn
import KE.KSortAsk
import PyProof.StrBlockI
import PyProof.Rows.EqDataRows
import PyProof.Rows.InDataRows
import PyProof.SumWalkG
import PyProof.ConsumeWalk
import PyProof.WalksMore
import KE.KSortTup
import PyProof.ListMulRoad
import PyProof.EnumFor
import PyProof.Rows.EnumRows
import PyProof.StrBlockL
import PyProof.JoinWalk
import PyProof.NsDelKeeps
import KE.KTryDeep
import PyProof.InstStoreFacts
import PyProof.NsCount
import PyProof.ExcClass2
import PyProof.Rows.FStr
import PyProof.StationsW
import PyProof.Rows.Catch
import KE.KRevIter
import PyProof.CollectIter
import PyProof.TupleOfGen
import PyProof.Rows.Tup
import PyProof.Draws
import PyProof.EnumMake
import PyProof.StrWalks
import PyProof.SliceStr2
import PyProof.ListNew
import KE.KDictOf
import PyProof.ListRange
import PyProof.Rows.GenSrcRange
import PyProof.ListCopy
import PyProof.AttrMissHeap
import PyProof.DictWalks
import PyProof.FactsDict
import KE.KSortKey
import PyProof.TableCode
import PyProof.Rows.KernelRfl
import PySem.Challenge.RW_barsplit_k24_whole_numbers_of_built_rows
open PySem.Challenge renaming rw_barsplit_k24_whole_numbers_of_built_rows → zha
open PySem renaming wpAny_bind → zhb, wpAny_pure → zhi, wpAny_newObj_type → zij, wpAny_holding → ziv, wpAny_callSpecial?_slot → ziw, wpAny_field → ziE, wpAny_call_entry → ziI, wpAny_truthy_bool → ziN, wpAny_seqItems → ziV, wpAny_mono → ziZ, wpAny_Call_Name_kw → zja, mem_of_lookup → zjf, Builtin → zjk, wpAny_setField_rec → zjs, wpAny_loadPart' → zjt, call_meets → zjL, wpAny_passesOwn → zjO, pushCells_keeps → zjQ, wpAny_typeOf → zjW, tupleKind_room_in1 → zjX, sizeLine_eq → zj7, codeAny_mono → zkh, wpAny_rule → zkq, wpAny_updateSeq_pair → zku, codeAny_call_builtin → zkv, Within → zky, wpAny_onRaise → zkJ, wpAny_attempt → zkK, wpAny_pyIter_list → zkN, concat_meets → zkO, noFill_tuple_add → zkP
open PySem.Heap renaming get?_push_of_some → zhc, lt_size → zhu, get?_push_size → zhw, size_push → zia, push → zih, SameBut → zju, get?_push_ne → zjS, get?_update_other → zj2, get?_update_self → zj5, size_update → zkI
open Option renaming bind_some → zhd, map_some → zhF, some → zh9, isSome_iff_exists → ziF, map_eq_some_iff → zi0, bind → zi4, map → zj3, getD_some → zkz
open List renaming getElem?_eq_getElem → zhe, range → zhf, getElem?_eq_some_iff → zhg, getD_eq_getElem?_getD → zhh, getElem?_cons_zero → zhj, getElem?_cons_succ → zhk, getElem?_set_ne → zhl, replicate → zhm, size_toArray → zho, mem_range → zhp, mem_cons_self → zhq, mem_cons_of_mem → zhs, map_congr_left → zht, mem_cons → zhv, getElem?_map → zhz, length_map → zhB, mem_of_getElem? → zhE, map_cons → zhI, length_cons → zhJ, getElem?_set_self → zhK, getElem?_append_left → zhL, eq_nil_of_length_eq_zero → zhN, length_append → zhQ, all_eq_true → zhR, getElem?_append_right → zhS, not_mem_nil → zhU, length_range → zhX, map_append → zhZ, lookup_cons → zh4, mem_append_right → zh5, set_cons_zero → zid, set_cons_succ → zie, mem_singleton → zil, map_map → zim, mem_filter → zin, map → ziq, nodup_cons → zit, replicate_succ → ziA, range_succ → ziD, length_take → ziG, range_eq_range' → ziH, mem_map → ziJ, length_set → ziL, take_of_length_le → ziM, length_singleton → ziO, getElem?_eq_none → ziP, length → ziQ, flatten_cons → ziT, getElem?_range → ziX, range'_succ → zi1, mem_append → zi5, ext_getElem? → zjb, drop_eq_getElem_cons → zje, lookup → zjh, length_nil → zjm, getElem_range → zjn, getElem?_replicate → zjo, range' → zjr, getElem?_of_mem → zjy, countP_eq_length_filter → zjz, countP_map → zjD, append_nil → zjE, range_add → zjN, drop_length → zjY, countP_cons → zjZ, find?_cons_of_pos → zj0, find?_cons_of_neg → zj1, filterMap_cons → zkg, find?_eq_none → zkr, filter_append → zks, append_assoc → zkA, toArray → zkE, getElem_mem → zkH
open Nat renaming le_refl → zhn, lt_of_lt_of_le → zhx, lt_or_ge → zhy, not_lt_zero → zhC, ne_of_lt → zhG, add_sub_cancel_left → zhT, lt_succ_of_lt → zhY, le_trans → zh3, le_add_right → zh8, lt_irrefl → zif, zero_le → zik, lt_succ_self → zir, ne_of_gt → ziW, zero_add → zjM, le_of_lt → zj9, add_zero → zka, le_succ → zkm, lt_trichotomy → zkC, le_succ_of_le → zkD, mul_comm → zkG, min_le_right → zkL
open Int renaming mul_emod → zhr, add_emod → zhD, emod_lt_of_pos → zhP, emod_nonneg → zh0, emod_emod → zh1, toNat_natCast → zib, eq_ofNat_of_zero_le → ziu, mul_zero → ziY, mul_comm → zi6, add_zero → zi7, mul_assoc → zjc, emod_eq_of_lt → zjd, sub_emod → zjv, mul_one → zjG, emod_eq_emod_iff_emod_sub_eq_zero → zke, toNat_of_nonneg → zkn, mul_add → zko, add_mul → zkp
open Bool renaming false_ne_true → zhA, or_eq_true → zio, eq_iff_iff → ziU, not_eq_true' → zjT, false_eq_true → zkt
open PySem.Value renaming ref → zhH, none → zh7, type → zjg, int → zki, bool → zkw
open Option.some renaming inj → zhM
open PySem.W renaming kia_one → zhO, mg_none_of → zhW, emptyDict → zix, kitOne → ziz, cellsFrom_some → zjl, nsIn → zjC, typeIn → zjF, kitx_dict → zjJ, lookIn → zj4, plainGet_of → zj8, mg_of → zkb, callWith_K → zkc, methodObj → zkk, kitx_list → zkl
open PySem.Builtin.SmallTypes renaming nextOf → zhV, ownedTupleIsFree → ziC, ownedTupleHandOut → zjH
open PyProof.Rows renaming callWith_type1 → zh2, slot_tuple_getitem → zig, callWith_builtin1 → zjj, boot_dict → zjI, slot_tupleiter_next → zjP, tupleItemsOf_ → zj6, boot_isinstance → zkd
open True renaming intro → zh6
open Ne renaming symm → zic
open PySem.Str renaming ofString → zii
open PySem.Calls renaming spliced_cons → zis, spliced_nil → zi9
open PySem.Builtin.Tuple renaming tupleExact → ziy, tupleIsExact → zi2
open PySem.Obj renaming mapSeq → ziB, data_mapFields → zkx
open Array renaming length_toList → ziK
open False renaming elim → ziR
open PySem.NameKind renaming cell → ziS
open PySem.Builtin.Slice renaming slicePlaces → zi3, sliceAdjust → zjx
open Classical renaming byContradiction → zi8
open PySem.F renaming plainAttrs_list → zji, slot_list_getattribute → zjq, slot_tuple_mul → zjB, args_tuple_add_2 → zjK, entry_tuple_add → zjR, slot_tuple_add → zjU, slot_zip_next → zkf, args_tuple_mul_2 → zkF, entry_tuple_mul → zkM
open Function renaming comp_def → zjp
open Eq renaming trans → zjw
open PySem.Builtin.List renaming listTooLong → zjA
open ForInStep renaming yield → zjV
open Sum renaming inl → zkj, inr → zkB
local macro_rules | `(⋯) => `(by first | decide +kernel | omega | simp)
noncomputable section
set_option Elab.async false
set_option linter.all false
set_option maxRecDepth 100000
set_option maxHeartbeats 4000000
namespace L2
open PySem PySem.Spec PyProof.Rows
abbrev Key:=Sum Int Str
def zdM:Key->Value->Bool
 | .inl k,v=>Value.isInt k v
 | .inr x,v=>Value.isStrOf x v
def zgV(w:World):Key->Int
 | .inl k=>hashInt k
 | .inr x=>hashStr w x
theorem ju : ∀{k:Key} {v:Value},zdM k v=true->(∃i t,k=zkj i/\v=zki i t)\/(∃x t,k=zkB x/\v=Value.str x t)
 | .inl i,v,h=>by
  obtain⟨t,e⟩:=Value.isInt_shape (k:=i) (v:=v) h;exact .inl ⟨i,t,rfl,e⟩
 | .inr x,v,h=>by
  obtain⟨t,e⟩:=Value.isStrOf_shape (x:=x) (v:=v) h;exact .inr ⟨x,t,rfl,e⟩
theorem zdK(a b:Int):decide ((zkj a:Key)=zkj b)=(a==b):=by
 by_cases e:a=b
 ·subst e;simp
 ·have h : ¬(zkj a:Key)=zkj b:=λq=>e (zkj.inj q)
  rw [decide_eq_false h];exact(beq_eq_false_iff_ne.mpr e).symm
theorem zdH(a b:Str):decide ((zkB a:Key)=zkB b)=decide (a=b):=by
 by_cases e:a=b
 ·subst e;simp
 ·have h : ¬(zkB a:Key)=zkB b:=λq=>e (zkB.inj q)
  rw [decide_eq_false h,decide_eq_false e]
theorem zdJ(a:Int)(b:Str):decide ((zkj a:Key)=zkB b)=false:=decide_eq_false (λq=>nomatch q)
theorem zdI(a:Str)(b:Int):decide ((zkB a:Key)=zkj b)=false:=decide_eq_false (λq=>nomatch q)
def JR(prog:Program)(w:World):PySem.KeyKind prog w Key where
 is:=zdM
 hash:=zgV w
 inj:=λv a b ha I=>by
  rcases ju ha with⟨i,t,rfl,rfl⟩ | ⟨x,t,rfl,rfl⟩
  ·rcases ju I with⟨j,u,rfl,e⟩ | ⟨y,u,rfl,e⟩
   ·injection e with e1 _;rw [e1]
   ·exact nomatch e
  ·rcases ju I with⟨j,u,rfl,e⟩ | ⟨y,u,rfl,e⟩
   ·exact nomatch e
   ·injection e with e1 _;rw [e1]
 byValue:=λk v h=>by
  rcases ju h with⟨i,t,rfl,rfl⟩ | ⟨x,t,rfl,rfl⟩<;>rfl
 pyHash:=λz h=>by
  rcases ju z with⟨i,t,rfl,rfl⟩ | ⟨x,t,rfl,rfl⟩
  ·exact wpAny_pyHash_int h
  ·exact wpAny_pyHash_str h
 eqBool:=λJ z h=>by
  rcases ju J with⟨i,t,rfl,rfl⟩ | ⟨x,t,rfl,rfl⟩
  ·rcases ju z with⟨j,u,rfl,rfl⟩ | ⟨y,u,rfl,rfl⟩
   ·rw [zdK]at h;exact wpAny_eqBool_int h
   ·rw [zdJ]at h;exact SeqAt.EqAt.int_str i t y u _ _ _ _ h
  ·rcases ju z with⟨j,u,rfl,rfl⟩ | ⟨y,u,rfl,rfl⟩
   ·rw [zdI]at h;exact SeqAt.EqAt.str_int x t j u _ _ _ _ h
   ·rw [zdH]at h;exact wpAny_eqBool_str h
 «strs» :=λk x t v h=>by
  rcases ju h with⟨i,u,rfl,e⟩ | ⟨y,u,rfl,e⟩
  ·exact nomatch e
  ·injection e with e1 _
   subst e1;cases v<;>rfl
inductive V where
 | non | bl (b:Bool) | int (i:Int) | str (x:Str) | byt (b:Array UInt8) | flt (b:UInt64) | ref (a:Addr) | ty (n:String)
 deriving DecidableEq
def RelV:V->Value->Prop
 | .non,u=>u=zh7
 | .bl b,u=>u=zkw b
 | .int i,u=>∃t,u=zki i t
 | .str x,u=>∃t,u=Value.str x t
 | .byt b,u=>∃t,u=Value.bytes b t
 | .flt b,u=>∃t,u=Value.float b t
 | .ref a,u=>u=zhH a
 | .ty n,u=>u=zjg n
abbrev Vals:List V->List Value->Prop:=Paired RelV
theorem Vals.length{xs:List V}{us:List Value}(r:Vals xs us):xs.length=us.length:=Paired.length r
theorem Vals.get : ∀{xs:List V} {us:List Value} {i:Nat} {x:V},Vals xs us->xs[i]? = some x->∃u,us[i]? = some u/\RelV x u
 | _,_,_,_,.nil,e=>by simp at e
 | _,_,0,_,.cons r _,e=>by simp at e;subst e;exact⟨_,rfl,r⟩
 | _,_,i+1,x,.cons _ t,e=>by
  obtain⟨u,h1,h2⟩:=Vals.get (i:=i) (x:=x) t (by simpa using e);exact⟨u,by simpa using h1,h2⟩
theorem Vals.set{x:V}{u:Value}(r:RelV x u) : ∀{xs:List V} {us:List Value} (i:Nat),Vals xs us->Vals (xs.set i x) (us.set i u)
 | _,_,_,.nil=> .nil
 | _,_,0,.cons _ t=> .cons r t
 | _,_,i+1,.cons q t=> .cons q (Vals.set r i t)
theorem Vals.append : ∀{xs ys:List V} {us z:List Value},Vals xs us->Vals ys z->Vals (xs++ys) (us++z)
 | _,_,_,_,.nil,s=>s
 | _,_,_,_,.cons r t,s=> .cons r (Vals.append t s)
theorem Vals.take : ∀{xs:List V} {us:List Value} (n:Nat),Vals xs us->Vals (xs.take n) (us.take n)
 | _,_,0,_=> .nil
 | _,_,_+1,.nil=> .nil
 | _,_,n+1,.cons r t=> .cons r (Vals.take n t)
theorem Vals.drop : ∀{xs:List V} {us:List Value} (n:Nat),Vals xs us->Vals (xs.drop n) (us.drop n)
 | _,_,0,r=>r
 | _,_,_+1,.nil=> .nil
 | _,_,n+1,.cons _ t=>Vals.drop n t
def RelO:Option V->Option Value->Prop
 | some v,some u=>RelV v u
 | none,none=>True
 | _,_=>False
def KV{κ:Type}:List (κ×V)->List (κ×Value)->Prop:=Paired λ(p:κ×V) (q:κ×Value)=>p.1=q.1/\RelV p.2 q.2
def kV:Key->V
 | .inl i=> .int i
 | .inr x=> .str x
inductive HO where
 | lst (xs:List V)
 | tup (xs:List V)
 | dK (kvs:List (Key×V)) | dT (kvs:List (List Key×V))
 | set (S:Int->Bool) (n:Nat)
 | ins (C dx:Addr) (fs:List (Str×V))
 | own (x:Addr)
 | xd (fs:List (Str×V))
 | met (f x:Addr)
 | rng (lo hi:Int)
 | frz (o:Obj) (u:HO)
 | tbl (ps:Array Value)
 | ext (φ:Heap->Prop)
abbrev Hp:=Addr->Option HO
def upd(H:Hp)(a:Addr)(o:HO):Hp:=λb=>if b=a then some o else H b
theorem zv{H:Hp}{a:Addr}{o:HO}:upd H a o a=some o:=by unfold upd;rw [if_pos rfl]
theorem zy{H:Hp}{a b:Addr}{o:HO}(h:b≠a):upd H a o b=H b:=by unfold upd;rw [if_neg h]
theorem yG{H:Hp}{a:Addr}{o u:HO}:upd (upd H a o) a u=upd H a u:=by
 funext b;unfold upd;split<;>rfl
theorem jq{H:Hp}{a b:Addr}{o:HO}(h:H a=some o)(h':H b=none):a≠b:=by
 intro e;subst e;rw [h]at h';cases h'
def IsTupD(h:Heap)(a:Addr)(items:Array Value):Prop:=∃o,h.get? a=some o/\(o.cls,o.dict)=(zjg "tuple",none)/\∃n,o.data = .seq items n
theorem IsTupD.new(h:Heap)(items:Array Value):IsTupD (h.push {cls:= .type "tuple",data:= .seq items}) h.objs.size items:=⟨_,zhw _ rfl,rfl,_,rfl⟩
theorem IsTupD.tup{h:Heap}{a:Addr}{items:Array Value}(x:IsTupD h a items):IsTup h a items:=let ⟨o,e,c,r⟩:=x;⟨o,e,(Prod.mk.inj c).1,r⟩
section
variable(P:Program)(w:World)
def ObjOk(H:Hp)(h:Heap)(a:Addr):HO->Prop
 | .lst xs=>xs.length<=sizeLine/\∃(z:List Value) (n:Nat),Vals xs z/\h.get? a=some {cls:= .type "list",data:= .seq z.toArray n}
 | .tup xs=>xs.length<=sizeLine/\∃z:List Value,Vals xs z/\IsTupD h a z.toArray
 | .dK kvs=>kvs.length<=sizeLine/\(a==sysModules)=false/\∃vs,KV kvs vs/\h.DictOf (JR P w) a vs
 | .dT kvs=>kvs.length<=sizeLine/\(a==sysModules)=false/\∃xs:List (List Key×Addr×Value),
  Paired (λ(p:List Key×V) (q:List Key×Addr×Value)=>p.1=q.1/\H q.2.1=some (.tup (p.1.map kV))/\RelV p.2 q.2.2) kvs xs/\
  ∃o es I,h.get? a=some o/\o.ExactDict/\o.data = .dict es I/\es.toList=xs.map (entryOfKey (tupleKind (JR P w)))/\(xs.map (·.1)).Nodup
 | .set S n=>h.SetOf (intKind P w) a S n
 | .ins C dx fs=>H dx=some (.own a)/\fs.length<=1000/\dx≠a/\h.get? a=some (PySem.W.instObj C dx)/\
  ∃mA,h.Ns1 dx mA/\(∀f,RelO (fs.lookup f) (mA f))/\zky mA (fs.map (·.1))
 | .own _=>∃o,h.get? a=some o
 | .xd fs=>∃mA,h.Ns1 a mA/\∀f,RelO (fs.lookup f) (mA f)
 | .rng lo hi=>∃t u v,h.get? a=some {cls:= .type "range",data:= .fields #[.int lo t,.int hi u,.int 1 v]}
 | .frz o u=>h.get? a=some o/\ObjOk H h a u
 | .tbl ps=>h.get? a=some {cls:= .none,data:= .fields ps}
 | .met f x=>h.get? a=some (zkk (.ref f) (.ref x))
 | .ext φ=>φ h/\(∃o,h.get? a=some o)/\∀h1 h2:Heap,φ h1->(∀o,h1.get? a=some o->h2.get? a=some o)->φ h2
def HOk(H:Hp)(h:Heap):Prop:=∀a o,H a=some o->ObjOk P w H h a o
end
section
variable{P:Program}{w:World}{H H':Hp}{h h':Heap}{a:Addr}{o:HO}
theorem ObjOk.lt(x:ObjOk P w H h a o):a<h.objs.size:=by
 cases o with
 | lst xs=>obtain⟨_,_,_,_,e⟩:=x;exact zhu e
 | tup xs=>obtain⟨_,_,_,p⟩:=x;exact p.tup.lt
 | dK kvs=>obtain⟨_,_,_,_,o,_,_,e,_⟩:=x;exact zhu e
 | dT kvs=>obtain⟨_,_,_,_,o,_,_,e,_⟩:=x;exact zhu e
 | set S n=>obtain⟨o,_,_,_,e,_⟩:=x;exact zhu e
 | ins C dx fs=>obtain⟨_,_,_,e,_⟩:=x;exact zhu e
 | own y=>obtain⟨_,e⟩:=x;exact zhu e
 | xd fs=>obtain⟨_,⟨_,_,_,e,_⟩,_⟩:=x;exact zhu e
 | rng lo hi=>obtain⟨_,_,_,e⟩:=x;exact zhu e
 | frz z u=>obtain⟨e,_⟩:=x;exact zhu e
 | tbl ps=>exact zhu (show h.get? a=some _ from x)
 | met f y=>exact zhu (show h.get? a=some _ from x)
 | ext φ=>obtain⟨_,⟨_,e⟩,_⟩:=x;exact zhu e
theorem Paired.mapP{α β:Type}{F G:α->β->Prop} : ∀{z:List α} {I:List β},Paired F z I->(∀a b,F a b->G a b)->Paired G z I
 | _,_,.nil,_=> .nil
 | _,_,.cons r t,f=> .cons (f _ _ r) (Paired.mapP t f)
theorem ObjOk.stay(x:ObjOk P w H h a o)(k : ∀b u,(b=a\/H b=some (.own a))->h.get? b=some u->h'.get? b=some u)
 (Y : ∀b,H b=some (.own a)->H' b=some (.own a)) (ht : ∀b xs,H b=some (.tup xs)->H' b=some (.tup xs)):ObjOk P w H' h' a o:=by
 induction o with
 | lst xs=>obtain⟨z,O,n,r,e⟩:=x;exact⟨z,O,n,r,k _ _ (.inl rfl) e⟩
 | tup xs=>obtain⟨z,O,r,I,e,c⟩:=x;exact⟨z,O,r,I,k _ _ (.inl rfl) e,c⟩
 | dK kvs=>obtain⟨z,y,vs,r,I,es,J,e,c⟩:=x;exact⟨z,y,vs,r,I,es,J,k _ _ (.inl rfl) e,c⟩
 | dT kvs=>
  obtain⟨z,y,xs,r,I,es,J,e,c⟩:=x;exact⟨z,y,xs,Paired.mapP r λp q z=>⟨z.1,ht _ _ z.2.1,z.2.2⟩,I,es,J,k _ _ (.inl rfl) e,c⟩
 | set S n=>obtain⟨I,es,J,t,e,c⟩:=x;exact⟨I,es,J,t,k _ _ (.inl rfl) e,c⟩
 | ins C dx fs=>
  obtain⟨d,z,ne,e,mA,⟨od,es,J,e2,c⟩,r⟩:=x;exact⟨Y _ d,z,ne,k _ _ (.inl rfl) e,mA,⟨od,es,J,k _ _ (.inr d) e2,c⟩,r⟩
 | own y=>obtain⟨I,e⟩:=x;exact⟨I,k _ _ (.inl rfl) e⟩
 | xd fs=>obtain⟨mA,⟨od,es,J,e,c⟩,r⟩:=x;exact⟨mA,⟨od,es,J,k _ _ (.inl rfl) e,c⟩,r⟩
 | rng lo hi=>obtain⟨t,u,v,e⟩:=x;exact⟨t,u,v,k _ _ (.inl rfl) e⟩
 | frz I u ih=>obtain⟨e,q⟩:=x;exact⟨k _ _ (.inl rfl) e,ih q⟩
 | tbl ps=>
  have e:h.get? a=some {cls:= .none,data:= .fields ps}:=x;show h'.get? a=some {cls:= .none,data:= .fields ps};exact k a _ (.inl rfl) e
 | met f y=>
  have e:h.get? a=some (zkk (.ref f) (.ref y)):=x;show h'.get? a=some (zkk (.ref f) (.ref y));exact k a _ (.inl rfl) e
 | ext φ=>obtain⟨p,⟨o,e⟩,st⟩:=x;exact⟨st _ _ p λo q=>k _ _ (.inl rfl) q,⟨o,k _ _ (.inl rfl) e⟩,st⟩
theorem HOk.lt(x:HOk P w H h)(e:H a=some o):a<h.objs.size:=(x a o e).lt
theorem HOk.fresh(x:HOk P w H h)(e:h.objs.size<=a):H a=none:=by
 cases q:H a with
 | none=>rfl
 | some u=>exact absurd (zhx (x.lt q) e) (zif _)
theorem HOk.kept(x:HOk P w H h)(k : ∀b u,h.get? b=some u->h'.get? b=some u):HOk P w H h':=λa o e=>
 (x a o e).stay (λb u _ q=>k b u q) (λ_ q=>q) λ_ _ q=>q
theorem HOk.laid(x:HOk P w H h)(k : ∀b u,h.get? b=some u->h'.get? b=some u)(I:h.objs.size<=a)(new:ObjOk P w (upd H a o) h' a o):HOk P w (upd H a o) h':=λb u e=>by
 have hn:=x.fresh I;by_cases z:b=a
 ·subst z;rw [zv]at e;cases e;exact new
 ·rw [zy z]at e
  exact(x b u e).stay (λc v _ q=>k c v q) (λc q=>by rw [zy (jq q hn)];exact q) λc xs q=>by rw [zy (jq q hn)];exact q
end
def Rd(H:Hp)(a:Addr)(u:HO):Prop:=H a=some u\/∃o,H a=some (.frz o u)
theorem Rd.ok{P:Program}{w:World}{H:Hp}{h:Heap}{a:Addr}{u:HO}(r:Rd H a u)(x:HOk P w H h):ObjOk P w H h a u:=by
 rcases r with r | ⟨o,r⟩
 ·exact x a u r
 ·obtain⟨_,q⟩:=x a _ r
  exact q
def Mut:Option HO->Prop
 | some (.lst _)=>True
 | some (.dK _)=>True
 | some (.dT _)=>True
 | some (.set _ _)=>True
 | some (.ins _ _ _)=>True
 | some (.ext _)=>True
 | _=>False
section
variable{P:Program}{w:World}{H:Hp}{h h':Heap}{x e:Addr}{o':HO}
theorem HOk.write(ok:HOk P w H h)(I:Mut (H x))(he:e=x\/H e=some (.own x))(k : ∀b u,b≠e->h.get? b=some u->h'.get? b=some u)(a2 : ∃u,h'.get? e=some u)
 (new:ObjOk P w (upd H x o') h' x o'):HOk P w (upd H x o') h':=λb u q=>by
 have a0 : ∀c y,H c=some (.own y)->c≠x:=λc y r z=>by subst z;rw [r]at I;exact I
 have a3 : ∀c xs,H c=some (.tup xs)->c≠x:=λc xs r z=>by subst z;rw [r]at I;exact I
 by_cases J:b=x
 ·subst J;rw [zv]at q;cases q;exact new
 ·rw [zy J]at q
  by_cases O:b=e
  ·have q':H b=some (.own x):=by
    rcases he with z | z
    ·exact absurd (O.trans z) J
    ·rw [O];exact z
   rw [q]at q';cases q';obtain⟨v,hv⟩:=a2;exact⟨v,by rw [O];exact hv⟩
  ·refine(ok b u q).stay (λc v Y r=>k c v ?_ r) (λc r=>by rw [zy (a0 c b r)];exact r) λc xs r=>by rw [zy (a3 c xs r)];exact r
   rcases Y with rfl | Y
   ·exact O
   ·rintro rfl
    rcases he with z | z
    ·exact a0 c b Y z
    ·rw [Y]at z;cases z;exact J rfl
end
structure Un(fs ex:List Addr)(H H':Hp)(h h':Heap):Prop where
 keep : ∀b o,h.get? b=some o->H b=none->b∉fs->b∉ex->h'.get? b=some o
 slot : ∀b o,h.get? b=some o->H b=none->b∈fs->b∉ex->∃sl,h'.get? b=some {o with slots:=sl}
 free : ∀b o,h.get? b=some o->H b=none->b∉ex->H' b=none
 there : ∀b o,h.get? b=some o->b∉ex->∃o',h'.get? b=some o'
 tups : ∀b xs,H b=some (.tup xs)->H' b=some (.tup xs)
 frzs : ∀b o u,H b=some (.frz o u)->H' b=some (.frz o u)
 tbls : ∀b ps,H b=some (.tbl ps)->∃more,H' b=some (.tbl (ps++more))
section
variable{fs fs' ex ex':List Addr}{H H1 H2:Hp}{h h1 h2 h':Heap}{a x e:Addr}{o:HO}
theorem Un.any(u:Un fs ex H H1 h h1){b:Addr}{z:Obj}(q:h.get? b=some z)(n:H b=none)(hx:b∉ex) : ∃sl,h1.get? b=some {z with slots:=sl}:=by
 by_cases I:b∈fs
 ·exact u.slot b z q n I hx
 ·exact⟨z.slots,u.keep b z q n I hx⟩
theorem Un.kept(k : ∀b u,h.get? b=some u->h'.get? b=some u):Un fs ex H H h h':=
 ⟨λb z q _ _ _=>k b z q,λb z q _ _ _=>⟨z.slots,k b z q⟩,λ_ _ _ n _=>n,λb z q _=>⟨z,k b z q⟩,λ_ _ q=>q,λ_ _ _ q=>q,λ_ ps q=>⟨#[],by rw [q];simp⟩⟩
theorem Un.refl:Un fs ex H H h h:=Un.kept λ_ _ q=>q
theorem Un.laid(k : ∀b u,h.get? b=some u->h'.get? b=some u)(z:h.objs.size<=a)(hn:H a=none):Un fs ex H (upd H a o) h h' where
 keep:=λb u q _ _ _=>k b u q
 slot:=λb u q _ _ _=>⟨u.slots,k b u q⟩
 free:=λb u q n _=>by rw [zy (zhG (zhx (zhu q) z))];exact n
 there:=λb u q _=>⟨u,k b u q⟩
 tups:=λb xs q=>by rw [zy (jq q hn)];exact q
 frzs:=λb u xs q=>by rw [zy (jq q hn)];exact q
 tbls:=λb ps q=>⟨#[],by rw [zy (jq q hn),q];simp⟩
theorem Un.write(I:Mut (H x))(he:e=x\/H e=some (.own x))(k : ∀b u,b≠e->h.get? b=some u->h'.get? b=some u)(Y : ∃u,h'.get? e=some u):Un fs ex H (upd H x o) h h':=by
 have hx : ∀b,H b=none->b≠x:=λb n z=>by subst z;rw [n]at I;exact I
 have J : ∀b,H b=none->b≠e:=λb n z=>by
  subst z;rcases he with r | r
  ·exact hx b n r
  ·rw [n]at r;cases r
 have hm : ∀b u,H b=some u->¬Mut (some u)->b≠x:=λb u q nm z=>by subst z;rw [q]at I;exact nm I
 refine⟨λb u q n _ _=>k b u (J b n) q,λb u q n _ _=>⟨u.slots,k b u (J b n) q⟩,λb u q n _=>by rw [zy (hx b n)];exact n,λb u q _=>?_,
  λb xs q=>by rw [zy (hm b _ q λz=>z)];exact q,λb u xs q=>by rw [zy (hm b _ q λz=>z)];exact q,λb ps q=>⟨#[],by rw [zy (hm b _ q λz=>z),q];simp⟩⟩
 by_cases O:b=e
 ·subst O;exact Y
 ·exact⟨u,k b u O q⟩
end
def trk(h:Heap)(H:Hp):List Addr:=(zhf h.objs.size).filter λa=>(H a).isSome
def WP(h:Heap)(H:Hp):Heap:=PySem.W.hideAll h (trk h H)
theorem YE(h:Heap)(H:Hp):(WP h H).objs.size=h.objs.size:=PySem.W.hideAll_size _ _
theorem WO{h:Heap}{H:Hp}{b:Addr}{o:Obj}(e:h.get? b=some o)(n:H b=none):(WP h H).get? b=some o:=
 PySem.W.hideAll_get _ e λhm=>by
  have q:(H b).isSome=true:=(zin.mp hm).2;rw [n]at q;simp at q
theorem zbG{h:Heap}{H:Hp}{b:Addr}{o:Obj}(e:(WP h H).get? b=some o):h.get? b=some o/\H b=none:=by
 have I:h.get? b=some o:=PySem.W.of_hideAll (trk h H) e;refine⟨I,?_⟩;cases q:H b with
 | none=>rfl
 | some x=>
  have hm:b∈trk h H:=zin.mpr ⟨zhp.mpr (zhu I),by simp [q]⟩;have z:(WP h H).get? b=none:=PySem.W.hideAll_none (trk h H) hm;rw [z]at e;cases e
def zck(g h:Heap)(L:Addr):List (Addr×Obj):=(zhf h.objs.size).filterMap λa=>if a=L\/(g.get? a).isSome=true then none else (h.get? a).map λo=>(a,o)
def j3(g h:Heap)(L d:Addr):List (Addr×Obj):=(zck g h L).filter λp=>decide (p.1≠d)
structure Mod(K:PySem.W.Frag)(mg:Str->Option Value)(base:Heap):Prop where
 kin:K.In base
 glob:base.Ns mainGlobals mg
 blt : ∃mb,base.Ns builtinsNs mb/\∀x:Str,x ≠ "__name__"->mb x=bootBuiltins x
 nolimit:base.NoLimit
structure Cx where
 prog:Program
 w:World
 K:PySem.W.Frag
 mg:Str->Option Value
 base:Heap
 A:Around
 N:List Str
 s₀:Shared
 H₀:Hp
 env:Env
 outer:List Env
 stack:List Env
 ex:List Addr
 fn:Str->Bool
 calm:Bool
 pn:List (Addr×Obj)
 xe:Value->Shared->Prop
def frs(l:List Env):List Addr:=l.filterMap (·.frame)
abbrev Cx.fs(X:Cx):List Addr:=frs X.outer
def Vis(sc:Scope)(x:Str):Prop:=sc.names.lookup x=some .local\/sc.names.lookup x=some .cell\/sc.names.lookup x=some .free
def Loc(sc:Scope)(x:Str):Prop:=sc.names.lookup x=some .local\/sc.names.lookup x=some .cell
def Look(env:Env)(h:Heap)(m:Str->Option Value)(x:Str)(u:Value):Prop:=
 (env.kindOf x=some .local/\m x=some u)\/((env.kindOf x=some .cell\/env.kindOf x=some .free)/\∃c,env.cells.lookup x=some c/\h.IsCell c (some u))
structure Cx.Ok(X:Cx):Prop where
 mod:Mod X.K X.mg X.base
 kind:X.env.scope.kind = .function
 glob:X.env.globals=mainGlobals
 blt:X.env.builtins=builtinsNs
 above:X.s₀.heap.objs.size<=X.env.locals
 inj : ∀x y c,X.env.cells.lookup x=some c->X.env.cells.lookup y=some c->x=y
 has : ∀x,(X.env.kindOf x=some .cell\/X.env.kindOf x=some .free)->∃c,X.env.cells.lookup x=some c
 cab : ∀x c,X.fn x=true->X.env.cells.lookup x=some c->X.s₀.heap.objs.size<=c
 hd:X.calm=true->X.A.handled=none
 frames:X.A.frames=some X.stack
 stk:X.stack=X.outer\/(X.stack=X.env::X.outer/\X.env.frame=some X.env.locals)
 exf : ∀b∈X.ex,b≠X.env.locals/\∀x c,X.env.cells.lookup x=some c->c≠b
 bs : ∀b o,X.base.get? b=some o->X.s₀.heap.get? b=some o/\X.H₀ b=none
 bsz:X.base.objs.size<=X.s₀.heap.objs.size
 noex : ∀b o,X.base.get? b=some o->b∉X.ex
 exfs : ∀b∈X.ex,b∉X.fs
 funs:X.s₀.heap.FunFrames X.base X.outer
 frf : ∀b∈X.fs,X.H₀ b=none
structure Inv(X:Cx)(pins:List (Addr×Obj))(σ:List (Option V))(H:Hp)(s:Shared):Prop where
 ok:X.Ok
 os:s.os=X.s₀.os
 bare:AllBare s.gens
 base:Un X.fs X.ex X.H₀ H X.s₀.heap s.heap
 loc : ∃m,s.heap.Ns X.env.locals m/\∀(i:Nat) (x:Str) (v:V),X.N[i]? = some x->σ[i]? = some (some v)->Vis X.env.scope x->∃u,RelV v u/\Look X.env s.heap m x u
 cell : ∀x c,X.env.cells.lookup x=some c->∃v,s.heap.IsCell c v
 free:H X.env.locals=none
 freeC : ∀x c,X.env.cells.lookup x=some c->H c=none
 pin : ∀p∈X.pn++pins,s.heap.get? p.1=some p.2/\H p.1=none/\p.1≠X.env.locals/\p.1∉X.fs/\∀v,p.2.data ≠ .cell v
 hok:HOk X.prog X.w H s.heap
 len:σ.length=X.N.length
section
variable{X:Cx}{pins:List (Addr×Obj)}{σ:List (Option V)}{H H':Hp}{s:Shared}{h':Heap}
theorem Cx.Ok.nofr(ok:X.Ok){b:Addr}{o:Obj}(e:X.base.get? b=some o):b∉X.fs:=λz=>by
 have:=(ok.funs.mem z).1;rw [e]at this;cases this
theorem Inv.bs(I:Inv X pins σ H s) : ∀b o,X.base.get? b=some o->s.heap.get? b=some o/\H b=none:=λb o e=>
 ⟨I.base.keep b o (I.ok.bs b o e).1 (I.ok.bs b o e).2 (I.ok.nofr e) (I.ok.noex b o e),I.base.free b o (I.ok.bs b o e).1 (I.ok.bs b o e).2 (I.ok.noex b o e)⟩
theorem Inv.bk(I:Inv X pins σ H s) : ∀b o,X.base.get? b=some o->s.heap.get? b=some o:=λb o e=>(I.bs b o e).1
theorem Inv.mod(I:Inv X pins σ H s):Mod X.K X.mg X.base:=I.ok.mod
theorem Inv.kIn(I:Inv X pins σ H s):X.K.In s.heap:=I.ok.mod.kin.keeps I.bk
theorem Inv.lt(I:Inv X pins σ H s):X.env.locals<s.heap.objs.size:=let ⟨_,hn,_⟩:=I.loc;hn.lt
theorem Inv.sz(I:Inv X pins σ H s):X.s₀.heap.objs.size<=s.heap.objs.size:=zh3 I.ok.above (zj9 I.lt)
theorem Inv.nofs(I:Inv X pins σ H s){a:Addr}(h:s.heap.objs.size<=a):a∉X.fs:=λz=>by
 obtain⟨_,o,J,_⟩:=I.ok.funs.mem z;exact absurd (zhx (zhu J) (zh3 I.sz h)) (zif _)
theorem Inv.cne(I:Inv X pins σ H s) : ∀x c,X.env.cells.lookup x=some c->c≠X.env.locals:=λx c e z=>by
 obtain⟨v,o,J,hd⟩:=I.cell x c e;obtain⟨m,⟨o',es,ep,O,Y,_⟩,_⟩:=I.loc;rw [z,O]at J;cases J;rw [Y]at hd;cases hd
theorem Inv.funs(I:Inv X pins σ H s):s.heap.FunFrames X.base X.outer:=by
 have all : ∀(l:List Env),(∀b∈frs l,b∈X.fs)->X.s₀.heap.FunFrames X.base l->s.heap.FunFrames X.base l:=by
  intro l
  induction l with
  | nil=>intro _ _;trivial
  | cons env r ih=>
   intro hs hl;obtain⟨hk,⟨L,o,J,hn,ho,hd⟩,hr⟩:=hl;have O:L∈X.fs:=hs L (by unfold frs;rw [zkg,J];exact zhq);obtain⟨sl,e⟩:=I.base.slot L o ho (I.ok.frf L O) O λz=>I.ok.exfs L z O;exact⟨hk,⟨L,_,J,hn,e,hd⟩,ih (λb Y=>hs b (by unfold frs;rw [zkg,J];exact zhs _ Y)) hr⟩
 exact all X.outer (λ_ Y=>Y) I.ok.funs
theorem Inv.stack(I:Inv X pins σ H s):s.heap.FunFrames X.base X.stack:=by
 rcases I.ok.stk with e | ⟨e,z⟩
 ·rw [e];exact I.funs
 ·rw [e]
  obtain⟨m,hn,_⟩:=I.loc;refine .cons (by rw [I.ok.kind];decide) z hn ?_ I.funs;exact Heap.get?_none_of_le (zh3 I.ok.bsz I.ok.above)
theorem Inv.stkSub(I:Inv X pins σ H s) : ∀b∈frs X.stack,b∈X.env.locals::X.fs:=λb z=>by
 rcases I.ok.stk with e | ⟨e,J⟩
 ·rw [e]at z;exact zhs _ z
 ·rw [e]at z
  unfold frs at z;rw [zkg,J]at z;exact z
theorem Inv.stkFree(I:Inv X pins σ H s) : ∀b∈frs X.stack,H b=none:=λb J=>by
 rcases zhv.mp (I.stkSub b J)with e | J
 ·rw [e];exact I.free
 ·obtain⟨_,o,O,_⟩:=I.ok.funs.mem J
  exact I.base.free b o O (I.ok.frf b J) λz=>I.ok.exfs b z J
theorem Inv.step{g':Array GenState}{t':Nat}{d':Drawn}{ch:List Addr}(I:Inv X pins σ H s)
 (Y : ∀b∈ch,(b∈X.ex\/X.s₀.heap.objs.size<=b)/\b≠X.env.locals/\(∀x c,X.env.cells.lookup x=some c->c≠b)/\∀p∈X.pn++pins,p.1≠b)
 (keep : ∀b o,b≠X.env.locals->b∉X.fs->b∉ch->s.heap.get? b=some o->H b=none->h'.get? b=some o)
 (slot : ∀b o,b≠X.env.locals->b∈X.fs->b∉ch->s.heap.get? b=some o->H b=none->∃sl,h'.get? b=some {o with slots:=sl}) (free : ∀b o,b∉ch->s.heap.get? b=some o->H b=none->H' b=none)
 (there : ∀b o,b∉ch->s.heap.get? b=some o->∃o',h'.get? b=some o')
 (tups : ∀b xs,H b=some (.tup xs)->H' b=some (.tup xs)) (frzs : ∀b o u,H b=some (.frz o u)->H' b=some (.frz o u)) (tbls : ∀b ps,H b=some (.tbl ps)->∃more,H' b=some (.tbl (ps++more)))
 (ns : ∀m,s.heap.Ns X.env.locals m->h'.Ns X.env.locals m) (hok:HOk X.prog X.w H' h') (hg:AllBare g') :
 Inv X pins σ H' {s with heap:=h',gens:=g',drawn:=d',toks:=t'}:=by
 have a2 : ∀b o,X.s₀.heap.get? b=some o->b≠X.env.locals:=λb o e=>zhG (zhx (zhu e) I.ok.above);have a1 : ∀b o,X.s₀.heap.get? b=some o->b∉X.ex->b∉ch:=λb o e hx J=>by
  rcases (Y b J).1 with z | z
  ·exact hx z
  ·exact absurd (zhx (zhu e) z) (zif _)
 have a3 : ∀x c,X.env.cells.lookup x=some c->∀v,s.heap.IsCell c v->h'.IsCell c v:=λx c e v hZ=>by
  obtain⟨o,O,hd⟩:=hZ;have a0:c∉ch:=λz=>(Y c z).2.2.1 x c e rfl;by_cases hc:c∈X.fs
  ·obtain⟨sl,q⟩:=slot c o (I.cne x c e) hc a0 O (I.freeC x c e)
   exact⟨_,q,hd⟩
  ·exact⟨o,keep c o (I.cne x c e) hc a0 O (I.freeC x c e),hd⟩
 refine⟨I.ok,I.os,hg,⟨λb o e n J hx=>?_,λb o e n J hx=>?_,λb o e n hx=>?_,λb o e hx=>?_,λb xs e=>tups b xs (I.base.tups b xs e),λb o xs e=>frzs b o xs (I.base.frzs b o xs e),λb ps e=>?_⟩,?_,λx c e=>?_,?_,λx c e=>?_,λp hp=>?_,hok,I.len⟩
 ·exact keep b o (a2 b o e) J (a1 b o e hx) (I.base.keep b o e n J hx) (I.base.free b o e n hx)
 ·obtain⟨sl,e1⟩:=I.base.slot b o e n J hx
  obtain⟨a9,e2⟩:=slot b _ (a2 b o e) J (a1 b o e hx) e1 (I.base.free b o e n hx);exact⟨a9,e2⟩
 ·obtain⟨o',e1⟩:=I.base.there b o e hx
  exact free b o' (a1 b o e hx) e1 (I.base.free b o e n hx)
 ·obtain⟨o',e1⟩:=I.base.there b o e hx
  exact there b o' (a1 b o e hx) e1
 ·obtain⟨m1,e1⟩:=I.base.tbls b ps e
  obtain⟨m2,e2⟩:=tbls b _ e1;exact⟨m1++m2,by rw [e2,Array.append_assoc]⟩
 ·obtain⟨m,hn,hl⟩:=I.loc
  refine⟨m,ns m hn,λi x v e1 e2 e3=>?_⟩;obtain⟨u,r,l⟩:=hl i x v e1 e2 e3;refine⟨u,r,?_⟩;rcases l with l | ⟨k,c,e,z⟩
  ·exact .inl l
  ·exact .inr ⟨k,c,e,a3 x c e _ z⟩
 ·obtain⟨v,z⟩:=I.cell x c e
  exact⟨v,a3 x c e v z⟩
 ·obtain⟨m,⟨o,_,_,O,_⟩,_⟩:=I.loc
  exact free _ o (λz=>(Y _ z).2.1 rfl) O I.free
 ·obtain⟨v,o,O,hd⟩:=I.cell x c e
  exact free c o (λz=>(Y c z).2.2.1 x c e rfl) O (I.freeC x c e)
 ·obtain⟨e,n,ne,nf,d⟩:=I.pin p hp
  have a0:p.1∉ch:=λz=>(Y p.1 z).2.2.2 p hp rfl;exact⟨keep p.1 p.2 ne nf a0 e n,free p.1 p.2 a0 e n,ne,nf,d⟩
theorem Inv.un{t':Nat}(I:Inv X pins σ H s)(u:Un X.fs [] H H' s.heap h')(hok:HOk X.prog X.w H' h'):Inv X pins σ H' {s with heap:=h',toks:=t'}:=by
 obtain⟨m,⟨o,es,ep,O,r⟩,_⟩:=id I.loc;obtain⟨sl,hL⟩:=u.any O I.free ⋯;exact I.step (g':=s.gens) (d':=s.drawn) (ch:=[]) (λ_ z=>nomatch z) (λb o _ J _ e n=>u.keep b o e n J ⋯) (λb o _ J _ e n=>u.slot b o e n J ⋯) (λb o _ e n=>u.free b o e n ⋯) (λb o _ e=>u.there b o e ⋯) u.tups u.frzs u.tbls (λm' hm=>by
  obtain⟨o',a1,a2,Y,r'⟩:=hm;rw [O]at Y;cases Y;exact⟨_,a1,a2,hL,r'⟩) hok I.bare
theorem Inv.call{g':Array GenState}{t':Nat}{d':Drawn}{ch:List Addr}(I:Inv X pins σ H s)(u:Un (frs X.stack) ch H H' s.heap h')(hok:HOk X.prog X.w H' h')(hg:AllBare g')
 (Y : ∀b∈ch,(b∈X.ex\/X.s₀.heap.objs.size<=b)/\b≠X.env.locals/\(∀x c,X.env.cells.lookup x=some c->c≠b)/\∀p∈X.pn++pins,p.1≠b) :
 Inv X pins σ H' {s with heap:=h',gens:=g',drawn:=d',toks:=t'}:=by
 obtain⟨m,⟨o,es,ep,ho,r⟩,_⟩:=id I.loc;obtain⟨sl,O⟩:=u.any ho I.free λz=>(Y _ z).2.1 rfl;exact I.step (ch:=ch) Y (λb o O hb J e n=>u.keep b o e n (λz=>(zhv.mp (I.stkSub b z)).elim O hb) J) (λb o _ _ J e n=>u.any e n J) (λb o J e n=>u.free b o e n J) (λb o J e=>u.there b o e J) u.tups u.frzs u.tbls (λm' hm=>by
  obtain⟨o',a4,a5,a1,r'⟩:=hm;rw [ho]at a1;cases a1;exact⟨_,a4,a5,O,r'⟩) hok hg
theorem Inv.turned{t':Nat}{it:Addr}(I:Inv X pins σ H s)(k : ∀b o,b≠it->s.heap.get? b=some o->h'.get? b=some o)(hn:H it=none)(O:it≠X.env.locals)
 (h1:it∈X.ex\/X.s₀.heap.objs.size<=it) (h2 : ∀x c,X.env.cells.lookup x=some c->c≠it) (h3 : ∀p∈X.pn++pins,p.1≠it):Inv X pins σ H {s with heap:=h',toks:=t'}:=by
 have Y : ∀b u,H b=some u->b≠it:=λb u e z=>by rw [z,hn]at e;cases e
 refine I.step (g':=s.gens) (d':=s.drawn) (ch:=[it]) (λb hb=>?_) (λb o _ _ J e _=>k b o (λz=>J (by simp [z])) e) (λb o _ _ J e _=>⟨o.slots,k b o (λz=>J (by simp [z])) e⟩) (λ_ _ _ _ n=>n)
  (λb o J e=>⟨o,k b o (λz=>J (by simp [z])) e⟩) (λ_ _ e=>e) (λ_ _ _ e=>e) (λb ps e=>⟨#[],by rw [e];simp⟩) (λm hm=>?_) (λb u e=>?_) I.bare
 ·have e:b=it:=by simpa using hb
  subst e;exact⟨h1,O,h2,h3⟩
 ·obtain⟨o,es,ep,ho,r⟩:=hm
  exact⟨o,es,ep,k _ o (zic O) ho,r⟩
 ·refine(I.hok b u e).stay (λc v J q=>k c v ?_ q) (λ_ q=>q) λ_ _ q=>q
  rcases J with z | z
  ·rw [z];exact Y b u e
  ·exact Y c _ z
theorem Inv.tok(I:Inv X pins σ H s)(t:Nat):Inv X pins σ H {s with toks:=t}:=I.un (h':=s.heap) (t':=t) Un.refl I.hok
theorem Inv.kept{t':Nat}(I:Inv X pins σ H s)(k : ∀b u,s.heap.get? b=some u->h'.get? b=some u):Inv X pins σ H {s with heap:=h',toks:=t'}:=I.un (Un.kept k) (I.hok.kept k)
theorem Inv.laid{a:Addr}{o:HO}{t':Nat}(I:Inv X pins σ H s)(k : ∀b u,s.heap.get? b=some u->h'.get? b=some u)(z:s.heap.objs.size<=a)(new:ObjOk X.prog X.w (upd H a o) h' a o) :
 Inv X pins σ (upd H a o) {s with heap:=h',toks:=t'}:=I.un (Un.laid k z (I.hok.fresh z)) (I.hok.laid k z new)
theorem Inv.write{x e:Addr}{o:HO}{t':Nat}(I:Inv X pins σ H s)(z:Mut (H x))(he:e=x\/H e=some (.own x))(k : ∀b u,b≠e->s.heap.get? b=some u->h'.get? b=some u)(J : ∃u,h'.get? e=some u)
 (new:ObjOk X.prog X.w (upd H x o) h' x o):Inv X pins σ (upd H x o) {s with heap:=h',toks:=t'}:=I.un (Un.write z he k J) (I.hok.write z he k J new)
theorem Inv.pins_of{J:List (Addr×Obj)}(I:Inv X pins σ H s)(h : ∀p∈J,s.heap.get? p.1=some p.2/\H p.1=none/\p.1≠X.env.locals/\p.1∉X.fs/\∀v,p.2.data ≠ .cell v):Inv X J σ H s:=
 ⟨I.ok,I.os,I.bare,I.base,I.loc,I.cell,I.free,I.freeC,λp O=>(zi5.mp O).elim (λz=>I.pin p (List.mem_append_left _ z)) (h p),I.hok,I.len⟩
theorem QM{N:List Str}(z:N.Nodup){i j:Nat}{x:Str}(a:N[i]? = some x)(b:N[j]? = some x):i=j:=by
 obtain⟨h1,e1⟩:=zhg.mp a;obtain⟨h2,e2⟩:=zhg.mp b;exact(List.getElem_inj z).mp (e1.trans e2.symm)
theorem Zr{M:Model}{A:Around}{E:Value->Shared->Prop}{i:Nat}{x:Str}{v:V}{u:Value}{Q:Unit->Shared->Prop}(I:Inv X pins σ H s)(hN:X.N.Nodup)(hi:X.N[i]? = some x)(hx:Loc X.env.scope x)(r:RelV v u)
 (h : ∀s',Inv X pins (σ.set i (some v)) H s'->(∃a,zju a s.heap s'.heap/\(a=X.env.locals\/X.env.cells.lookup x=some a))->Q () s') (hf:X.fn x=true\/X.env.scope.names.lookup x=some .local:=by first | exact .inl rfl | exact .inr rfl | assumption):wpAny M A (storeName X.env x u) Q E s:=by
 obtain⟨m,hn,hl⟩:=id I.loc;have ah:(X.env.scope.kind == .class || (X.env.scope.kind == .module && X.env.locals != X.env.globals))=false:=by rw [I.ok.kind];rfl
 have a9:i<σ.length:=by rw [I.len];exact(zhg.mp hi).1
 have cne:=I.cne;have aa : ∀{a:Addr} {h':Heap},(∃o,s.heap.get? a=some o/\H a=none)->zju a s.heap h'->HOk X.prog X.w H h':=λ{a h'} ha J b ob e=>by
  obtain⟨_,_,ab⟩:=ha;refine(I.hok b ob e).stay (λc w' O q=>(J.2 c ?_).trans q) (λ_ q=>q) λ_ _ q=>q;rintro rfl;rcases O with rfl | O
  ·rw [ab]at e;cases e
  ·rw [ab]at O;cases O
 rcases hx with Y | Y
 ·refine wpAny_storeName_local Y hn (λh' aj J=>?_) ah
  obtain⟨oL,_,_,am,_⟩:=id hn;refine h _ ⟨I.ok,I.os,I.bare,⟨λb o e n hb hx=>?_,λb o e n hb hx=>?_,I.base.free,λb o e hx=>?_,I.base.tups,I.base.frzs,I.base.tbls⟩,⟨_,aj,λj y v' e1 e2 e3=>?_⟩,λy c e=>?_,I.free,I.freeC,λp hp=>?_,aa ⟨oL,am,I.free⟩ J,by simpa using I.len⟩ ⟨_,J,.inl rfl⟩
  ·exact(J.2 b (zhG (zhx (zhu e) I.ok.above))).trans (I.base.keep b o e n hb hx)
  ·obtain⟨sl,e1⟩:=I.base.slot b o e n hb hx
   exact⟨sl,(J.2 b (zhG (zhx (zhu e) I.ok.above))).trans e1⟩
  ·obtain⟨o',e1⟩:=I.base.there b o e hx
   exact⟨o',(J.2 b (zhG (zhx (zhu e) I.ok.above))).trans e1⟩
  ·by_cases hj:j=i
   ·subst hj
    rw [hi]at e1;cases e1;rw [zhK a9]at e2;cases e2;exact⟨u,r,.inl ⟨Y,by simp⟩⟩
   ·rw [zhl (zic hj)]at e2
    obtain⟨u',r',q⟩:=hl j y v' e1 e2 e3;refine⟨u',r',?_⟩;rcases q with⟨k,e⟩ | ⟨k,c,e,z⟩
    ·refine .inl ⟨k,?_⟩
     have:y≠x:=λe=>hj (QM hN e1 (e ▸ hi));simp [this,e]
    ·exact .inr ⟨k,c,e,z.sameBut J (cne y c e)⟩
  ·obtain⟨w',z⟩:=I.cell y c e
   exact⟨w',z.sameBut J (cne y c e)⟩
  ·obtain⟨e,n,ne,nf,d⟩:=I.pin p hp
   exact⟨(J.2 p.1 ne).trans e,n,ne,nf,d⟩
 ·have a6:X.fn x=true:=by
   rcases hf with z | z
   ·exact z
   ·rw [z]at Y;cases Y
  obtain⟨c,O⟩:=I.ok.has x (.inl Y);obtain⟨w',z⟩:=I.cell x c O;refine wpAny_storeName_cell I.ok.kind Y O z (λh' ac J=>?_);obtain⟨oc,ae,an⟩:=id z;refine h {s with heap:=h'} ⟨I.ok,I.os,I.bare,⟨λb o e n hb hx=>?_,λb o e n hb hx=>?_,I.base.free,λb o e hx=>?_,I.base.tups,I.base.frzs,I.base.tbls⟩,⟨m,hn.sameBut J (zic (cne x c O)),λj y v' e1 e2 e3=>?_⟩,λy c' e=>?_,I.free,I.freeC,λp hp=>?_,aa ⟨oc,ae,I.freeC x c O⟩ J,by simpa using I.len⟩ ⟨c,J,.inr O⟩
  ·exact(J.2 b (zhG (zhx (zhu e) (I.ok.cab x c a6 O)))).trans (I.base.keep b o e n hb hx)
  ·obtain⟨sl,e1⟩:=I.base.slot b o e n hb hx
   exact⟨sl,(J.2 b (zhG (zhx (zhu e) (I.ok.cab x c a6 O)))).trans e1⟩
  ·obtain⟨o',e1⟩:=I.base.there b o e hx
   exact⟨o',(J.2 b (zhG (zhx (zhu e) (I.ok.cab x c a6 O)))).trans e1⟩
  ·by_cases hj:j=i
   ·subst hj
    rw [hi]at e1;cases e1;rw [zhK a9]at e2;cases e2;exact⟨u,r,.inr ⟨.inl Y,c,O,ac⟩⟩
   ·rw [zhl (zic hj)]at e2
    obtain⟨u',r',q⟩:=hl j y v' e1 e2 e3;refine⟨u',r',?_⟩;rcases q with q | ⟨k,c',e,z'⟩
    ·exact .inl q
    ·refine .inr ⟨k,c',e,z'.sameBut J ?_⟩
     rintro rfl;exact hj (QM hN e1 (I.ok.inj _ _ _ e O ▸ hi))
  ·by_cases af:c'=c
   ·subst af;exact⟨_,ac⟩
   ·obtain⟨w2,z2⟩:=I.cell y c' e
    exact⟨w2,z2.sameBut J af⟩
  ·obtain⟨e,n,ne,nf,d⟩:=I.pin p hp
   refine⟨(J.2 p.1 ?_).trans e,n,ne,nf,d⟩;intro q;rw [q,ae]at e;have q':oc=p.2:=zhM e;exact d w' (by rw [<- q'];exact an)
theorem Qp{M:Model}{A:Around}{E:Value->Shared->Prop}{i:Nat}{x:Str}{v:V}{u:Value}{Q:Unit->Shared->Prop}(I:Inv X pins σ H s)(z:X.N.Nodup)(hi:X.N[i]? = some x)(hx:Loc X.env.scope x)(r:RelV v u)
 (h : ∀s',Inv X pins (σ.set i (some v)) H s'->Q () s') (J:X.fn x=true\/X.env.scope.names.lookup x=some .local:=by first | exact .inl rfl | exact .inr rfl | assumption):wpAny M A (storeName X.env x u) Q E s:=
 Zr I z hi hx r (λs' O _=>h s' O) J
theorem Inv.call'{s':Shared}{ch:List Addr}(I:Inv X pins σ H s)(z:s'.os=s.os)(u:Un (frs X.stack) ch H H' s.heap s'.heap)(hok:HOk X.prog X.w H' s'.heap)(J:AllBare s'.gens)
 (O : ∀b∈ch,(b∈X.ex\/X.s₀.heap.objs.size<=b)/\b≠X.env.locals/\(∀x c,X.env.cells.lookup x=some c->c≠b)/\∀p∈X.pn++pins,p.1≠b):Inv X pins σ H' s':=by
 obtain⟨h',g',d',t',o'⟩:=s';have e:o'=s.os:=z;subst e;exact I.call (g':=g') (t':=t') (d':=d') u hok J O
end
abbrev XK:=Value->Option Addr->Hp->Prop
abbrev St:=List (Option V)
abbrev VK:=V->Hp->Prop
abbrev TE:=St->Hp->VK->Prop
abbrev TT:=St->Hp->(Bool->Hp->Prop)->Prop
abbrev TA:=St->Hp->(List V->Hp->Prop)->Prop
structure Ends where
 nx:St->Hp->Prop
 rt:VK
 bk:St->Hp->Prop:=λ_ _=>False
 ct:St->Hp->Prop:=λ_ _=>False
abbrev TS:=Ends->St->Hp->Prop
def EP(X:Cx)(pins:List (Addr×Obj))(σ:St)(Q:VK)(u:Value)(s':Shared):Prop:=∃v H',Inv X pins σ H' s'/\RelV v u/\Q v H'
def TP(X:Cx)(pins:List (Addr×Obj))(σ:St)(Q:Bool->Hp->Prop)(b:Bool)(s':Shared):Prop:=∃H',Inv X pins σ H' s'/\Q b H'
def AP(X:Cx)(pins:List (Addr×Obj))(σ:St)(Q:List V->Hp->Prop)(us:List Value)(s':Shared):Prop:=∃vs H',Inv X pins σ H' s'/\Vals vs us/\Q vs H'
def SP(X:Cx)(pins:List (Addr×Obj))(D:Ends)(f:Flow)(s':Shared):Prop:=
 match f with
 | .next=>∃σ' H',Inv X pins σ' H' s'/\D.nx σ' H'
 | .brk=>∃σ' H',Inv X pins σ' H' s'/\D.bk σ' H'
 | .cont=>∃σ' H',Inv X pins σ' H' s'/\D.ct σ' H'
 | .ret u=>∃v σ' H',Inv X pins σ' H' s'/\RelV v u/\D.rt v H'
def PE(X:Cx)(e:Expr)(t:TE):Prop:=
 ∀(pins:List (Addr×Obj)) (s:Shared) (σ:St) (H:Hp) (Q:VK),Inv X pins σ H s->t σ H Q->wpAny (model X.prog X.w) X.A (eval e X.env) (EP X pins σ Q) X.xe s
def PT(X:Cx)(e:Expr)(t:TT):Prop:=
 ∀(pins:List (Addr×Obj)) (s:Shared) (σ:St) (H:Hp) (Q:Bool->Hp->Prop),Inv X pins σ H s->t σ H Q->wpAny (model X.prog X.w) X.A (isTrue e X.env (eval e X.env)) (TP X pins σ Q) X.xe s
def PW(X:Cx)(e:Expr)(t:TT):Prop:=
 ∀(z:Sem Value) (pins:List (Addr×Obj)) (s:Shared) (σ:St) (H:Hp) (Q:Bool->Hp->Prop),Inv X pins σ H s->t σ H Q->wpAny (model X.prog X.w) X.A (isTrue e X.env z) (TP X pins σ Q) X.xe s
theorem PW.pt{X:Cx}{e:Expr}{t:TT}(h:PW X e t):PT X e t:=h _
def PA(X:Cx)(es:List Expr)(t:TA):Prop:=
 ∀(pos:Pos) (pins:List (Addr×Obj)) (s:Shared) (σ:St) (H:Hp) (Q:List V->Hp->Prop),Inv X pins σ H s->t σ H Q->wpAny (model X.prog X.w) X.A (spliced (backTo pos (starEach es X.env))) (AP X pins σ Q) X.xe s
def PS(X:Cx)(st:Stmt)(t:TS):Prop:=
 ∀(pins:List (Addr×Obj)) (s:Shared) (σ:St) (H:Hp) (D:Ends),Inv X pins σ H s->t D σ H->wpAny (model X.prog X.w) X.A (exec st X.env) (SP X pins D) X.xe s
def PSs(X:Cx)(st:List Stmt)(t:TS):Prop:=
 ∀(pins:List (Addr×Obj)) (s:Shared) (σ:St) (H:Hp) (D:Ends),Inv X pins σ H s->t D σ H->wpAny (model X.prog X.w) X.A (execs st X.env) (SP X pins D) X.xe s
theorem thn{α:Type}{t:Sem α}{Q z:α->Shared->Prop}{M:Model}{A:Around}{E:Value->Shared->Prop}{s:Shared}(h:wpAny M A t Q E s)(I : ∀a s,Q a s->z a s):wpAny M A t z E s:=ziZ h I λ_ _ x=>x
section
variable{X:Cx}
def ki(i:Nat):TE:=λσ H Q=>∃v,σ[i]? = some (some v)/\Q v H
def tC(v:V):TE:=λ_ H Q=>Q v H
theorem zdm{i:Nat}{x:Str}{pos:Pos}(hN:X.N[i]? = some x)(hv:Vis X.env.scope x)(hd:(x==("__debug__" : Str))=false:=by decide)(a2:(x==("__classdict__" : Str))=false:=by decide):PE X (.Name x pos) (ki i):=by
 intro pins s σ H Q I h;obtain⟨v,e,h⟩:=h;obtain⟨m,hn,hl⟩:=I.loc;obtain⟨u,r,l⟩:=hl i x v hN e hv;have J:EP X pins σ Q u s:=⟨v,H,I,r,h⟩;rcases l with⟨z,hm⟩ | ⟨z,c,O,Y⟩
 ·exact wpAny_Name (wpAny_loadName_local I.ok.kind z hn hm J) hd
 ·rcases z with z | z
  ·exact wpAny_Name (wpAny_loadName_cell I.ok.kind z O Y J) hd
  ·exact wpAny_Name (wpAny_loadName_free I.ok.kind z O Y J a2) hd
theorem zdp{i j pos}:PE X (.Constant (.int i) j pos) (tC (.int i)):=λ_ _ _ H _ I h=>wpAny_Constant_int ⟨.int i,H,I.tok _,⟨_,rfl⟩,h⟩
theorem zfp{b j pos}:PE X (.Constant (.bool b) j pos) (tC (.bl b)):=λ_ _ _ H _ I h=>Constant_bool ⟨.bl b,H,I,rfl,h⟩
theorem zat{x j pos}:PE X (.Constant (.str x) j pos) (tC (.str x)):=λ_ _ _ H _ I h=>Calls.Constant_str ⟨.str x,H,I.tok _,⟨_,rfl⟩,h⟩
def Gl(X:Cx)(x:Str):Prop:=X.env.kindOf x=some .globalImplicit
theorem Yy{E:Value->Shared->Prop}{pins:List (Addr×Obj)}{s:Shared}{σ:St}{H:Hp}{x:Str}{u:Value}{pos:Pos}{Q:Value->Shared->Prop}(I:Inv X pins σ H s)(z:Gl X x)(hm:X.mg x=some u)(h:Q u s)
 (hd:(x==("__debug__" : Str))=false:=by decide):wpAny (model X.prog X.w) X.A (eval (.Name x pos) X.env) Q E s:=
 Calls.Name_function_global I.ok.kind z (Calls.loadGlobal_global (by rw [I.ok.glob];exact I.mod.glob.keeps I.bk) hm h) hd
theorem qJ{E:Value->Shared->Prop}{pins:List (Addr×Obj)}{s:Shared}{σ:St}{H:Hp}{x:Str}{u:Value}{pos:Pos}{Q:Value->Shared->Prop}(I:Inv X pins σ H s)(z:Gl X x)(hm:X.mg x=none)(J:bootBuiltins x=some u)(h:Q u s)
 (hn:x ≠ "__name__":=by decide) (hd:(x==("__debug__" : Str))=false:=by decide):wpAny (model X.prog X.w) X.A (eval (.Name x pos) X.env) Q E s:=by
 obtain⟨mb,h1,h2⟩:=I.mod.blt;exact Calls.Name_function_global I.ok.kind z (Calls.loadGlobal_builtin (by rw [I.ok.glob];exact I.mod.glob.keeps I.bk) hm (by rw [I.ok.blt];exact h1.keeps I.bk) ((h2 x hn).trans J) h) hd
variable{a b:Expr}{ta tb:TE}{pos:Pos}
def tB(t:TE):TT:=λσ H Q=>t σ H λx H1=>∃c,x = .bl c/\Q c H1
theorem zdf{e:Expr}{t:TE}(h:PE X e t)(he : ∀z,isTrue e X.env z=(do let v <- z;standAt e.pos;holding [v] (truthy v)):=by intro _;rfl):PT X e (tB t):=by
 intro pins s σ H Q I hw;refine isTrue_plain (thn (h pins s σ H _ I hw) λv s1 J=>?_) (he _);obtain⟨x,H1,O,Y,q1⟩:=J;obtain⟨d,rfl,q⟩:=q1;cases Y;exact ziN ⟨H1,O,q⟩
variable{tA tB':TT}{j3:List Expr}
def zgQ(t u:TT):TT:=λσ H Q=>t σ H λc H1=>if c=true then u σ H1 Q else Q false H1
def tOr(t u:TT):TT:=λσ H Q=>t σ H λc H1=>if c=true then Q true H1 else u σ H1 Q
def zgN(t:TT):TT:=λσ H Q=>t σ H λc H1=>Q (!c) H1
theorem zbj(ha:PT X a tA):PW X (.BoolOp .And [a] pos) tA:=by
 intro z pins s σ H Q I h;refine isTrue_and (thn (ha pins s σ H Q I h) λc s1 e=>?_);cases c with
 | true=>exact isTrue_and_nil e
 | false=>exact e
theorem zc3(ha:PT X a tA):PW X (.BoolOp .Or [a] pos) tA:=by
 intro z pins s σ H Q I h;refine isTrue_or (thn (ha pins s σ H Q I h) λc s1 e=>?_);cases c with
 | false=>exact isTrue_or_nil e
 | true=>exact e
theorem zc4(ha:PT X a tA)(O:PW X (.BoolOp .And (b::j3) pos) tB'):PW X (.BoolOp .And (a::b::j3) pos) (zgQ tA tB'):=by
 intro Y pins s σ H Q I h;refine isTrue_and (thn (ha pins s σ H _ I h) λc s1 hZ=>?_);obtain⟨H1,z,J⟩:=hZ;cases c with
 | true=>exact O Y pins s1 σ H1 Q z J
 | false=>exact⟨H1,z,J⟩
theorem zfm(ha:PT X a tA)(O:PW X (.BoolOp .Or (b::j3) pos) tB'):PW X (.BoolOp .Or (a::b::j3) pos) (tOr tA tB'):=by
 intro Y pins s σ H Q I h;refine isTrue_or (thn (ha pins s σ H _ I h) λc s1 hZ=>?_);obtain⟨H1,z,J⟩:=hZ;cases c with
 | true=>exact⟨H1,z,J⟩
 | false=>exact O Y pins s1 σ H1 Q z J
theorem zdg(ha:PT X a tA):PT X (.UnaryOp .Not a pos) (zgN tA):=by
 intro pins s σ H Q I h;exact isTrue_not (ha pins s σ H (λc H1=>Q (!c) H1) I h)
def zfe(ta tb:TE):TE:=λσ H Q=>ta σ H λx H1=>∃c,x = .bl c/\if c=true then tb σ H1 Q else Q (.bl false) H1
def ze7(ta:TE):TE:=λσ H Q=>ta σ H λx H1=>∃c,x = .bl c/\Q (.bl (!c)) H1
theorem zdn{op}{t:TE}(h:PE X a t):PE X (.BoolOp op [a] pos) t:=λpins s σ H Q I hw=>BoolOp_one (h pins s σ H Q I hw)
theorem zdq(ha:PE X a ta)(O:PE X (.BoolOp .And (b::j3) pos) tb):PE X (.BoolOp .And (a::b::j3) pos) (zfe ta tb):=by
 intro pins s σ H Q I h;refine BoolOp_and (thn (ha pins s σ H _ I h) λv s1 Y=>?_);obtain⟨x,H1,J,r1,z⟩:=Y;obtain⟨c,rfl,z⟩:=z;cases r1;refine ziN ?_;cases c with
 | true=>exact O pins s1 σ H1 Q J z
 | false=>exact⟨.bl false,H1,J,rfl,z⟩
theorem zdo(ha:PE X a ta):PE X (.UnaryOp .Not a pos) (ze7 ta):=by
 intro pins s σ H Q I h;refine UnaryOp_ (thn (ha pins s σ H _ I h) λv s1 J=>?_);obtain⟨x,H1,O,Y,z⟩:=J;obtain⟨c,rfl,z⟩:=z;cases Y;exact not_of (ziN ⟨.bl (!c),H1,O,rfl,z⟩)
def tIf(t:TT)(ta tb:TE):TE:=λσ H Q=>t σ H λc H1=>if c=true then ta σ H1 Q else tb σ H1 Q
theorem pe_ifExp{c:Expr}(O:PT X c tA)(ha:PE X a ta)(Y:PE X b tb):PE X (.IfExp c a b pos) (tIf tA ta tb):=by
 intro pins s σ H Q I h;refine wpAny_IfExp (thn (O pins s σ H _ I h) λd s1 hZ=>?_);obtain⟨H1,z,J⟩:=hZ;cases d with
 | true=>exact ha pins s1 σ H1 Q z J
 | false=>exact Y pins s1 σ H1 Q z J
end
def SqL(K:PySem.W.Frag)(H:Hp)(a:Addr)(xs:List V):Prop:=
 Rd H a (.lst xs)\/
  ∃(o:Obj) (z:Array Value) (n:Nat),K.lookup a=some o/\o.cls = .type "list"/\o.dict=none/\o.data = .seq z n/\z.size<=sizeLine/\Vals xs z.toList
def SqT(K:PySem.W.Frag)(H:Hp)(a:Addr)(xs:List V):Prop:=
 Rd H a (.tup xs)\/
  ∃(o:Obj) (z:Array Value) (n:Nat),K.lookup a=some o/\(o.cls,o.dict)=(zjg "tuple",none)/\o.data = .seq z n/\z.size<=sizeLine/\Vals xs z.toList
def zg5:Value->Option V
 | .none=>some .non
 | .bool b=>some (.bl b)
 | .int i _=>some (.int i)
 | .str x _=>some (.str x)
 | .bytes b _=>some (.byt b)
 | .float b _=>some (.flt b)
 | .ref a=>some (.ref a)
 | .type n=>some (.ty n)
 | _=>none
theorem RelV.abs{x:V}{u:Value}(r:RelV x u):zg5 u=some x:=by
 cases x with
 | non=>cases r;rfl
 | bl _=>cases r;rfl
 | int _=>obtain⟨t,rfl⟩:=r;rfl
 | str _=>obtain⟨t,rfl⟩:=r;rfl
 | byt _=>obtain⟨t,rfl⟩:=r;rfl
 | flt _=>obtain⟨t,rfl⟩:=r;rfl
 | ref _=>cases r;rfl
 | ty _=>cases r;rfl
theorem RelV.inj{x y:V}{u:Value}(r:RelV x u)(q:RelV y u):x=y:=zhM (r.abs.symm.trans q.abs)
theorem Vals.inj : ∀{xs ys:List V} {us:List Value},Vals xs us->Vals ys us->xs=ys
 | _,_,_,.nil,.nil=>rfl
 | _,_,_,.cons r t,.cons r' t'=>by rw [r.inj r',Vals.inj t t']
section
variable{X:Cx}{pins:List (Addr×Obj)}{σ:St}{H:Hp}{s:Shared}{a:Addr}{xs ys:List V}
theorem SqL.of{K:PySem.W.Frag}(h:H a=some (.lst xs)):SqL K H a xs:= .inl (.inl h)
theorem SqT.of{K:PySem.W.Frag}(h:H a=some (.tup xs)):SqT K H a xs:= .inl (.inl h)
theorem Inv.list(I:Inv X pins σ H s)(h:SqL X.K H a xs) : ∃J:List Value,Vals xs J/\PlainL s.heap a J.toArray/\xs.length<=sizeLine:=by
 rcases h with h | ⟨o,J,n,O,Y,hd,hs,hz,r⟩
 ·obtain⟨z,J,n,r,e⟩:=h.ok I.hok
  exact⟨J,r,⟨_,n,e,rfl,rfl,rfl⟩,z⟩
 ·refine⟨J.toList,r,⟨o,n,I.kIn a o O,Y,hd,by simpa using hs⟩,?_⟩
  have e:=r.length;simp only [ziK]at e;omega
theorem Inv.tuple(I:Inv X pins σ H s)(h:SqT X.K H a xs) : ∃J:List Value,Vals xs J/\IsTup s.heap a J.toArray/\xs.length<=sizeLine:=by
 rcases h with h | ⟨o,J,n,O,Y,hs,hz,r⟩
 ·obtain⟨z,J,r,p⟩:=h.ok I.hok
  exact⟨J,r,p.tup,z⟩
 ·refine⟨J.toList,r,⟨o,I.kIn a o O,(Prod.mk.inj Y).1,n,by simpa using hs⟩,?_⟩
  have e:=r.length;simp only [ziK]at e;omega
theorem Inv.list_inj(I:Inv X pins σ H s)(h:SqL X.K H a xs)(h':SqL X.K H a ys):xs=ys:=by
 obtain⟨J,r,⟨o,n,e,_,_,d⟩,_⟩:=I.list h;obtain⟨its',r',⟨o',n',z,_,_,d'⟩,_⟩:=I.list h';rw [e]at z;cases z;rw [d]at d';injection d' with O _;have:J=its':=by simpa using congrArg Array.toList O
 subst this;exact r.inj r'
theorem Inv.tuple_inj(I:Inv X pins σ H s)(h:SqT X.K H a xs)(h':SqT X.K H a ys):xs=ys:=by
 obtain⟨J,r,⟨o,e,_,n,d⟩,_⟩:=I.tuple h;obtain⟨its',r',⟨o',z,_,n',d'⟩,_⟩:=I.tuple h';rw [e]at z;cases z;rw [d]at d';injection d' with O _;have:J=its':=by simpa using congrArg Array.toList O
 subst this;exact r.inj r'
end
abbrev Cx.wish(X:Cx)(E:Value->Shared->Prop):Cx:={X with xe:=E}
abbrev Cx.nox(X:Cx):Cx:=X.wish λ_ _=>False
theorem Cx.Ok.wish{X:Cx}(ok:X.Ok)(E:Value->Shared->Prop):(X.wish E).Ok:=
 ⟨ok.mod,ok.kind,ok.glob,ok.blt,ok.above,ok.inj,ok.has,ok.cab,ok.hd,ok.frames,ok.stk,ok.exf,ok.bs,ok.bsz,ok.noex,ok.exfs,ok.funs,ok.frf⟩
theorem Cx.Ok.unwish{X:Cx}{E:Value->Shared->Prop}(ok:(X.wish E).Ok):X.Ok:=
 ⟨ok.mod,ok.kind,ok.glob,ok.blt,ok.above,ok.inj,ok.has,ok.cab,ok.hd,ok.frames,ok.stk,ok.exf,ok.bs,ok.bsz,ok.noex,ok.exfs,ok.funs,ok.frf⟩
section
variable{X:Cx}{pins:List (Addr×Obj)}{σ:St}{H:Hp}{s:Shared}{E:Value->Shared->Prop}
theorem Inv.wish(I:Inv X pins σ H s)(E:Value->Shared->Prop):Inv (X.wish E) pins σ H s:=⟨I.ok.wish E,I.os,I.bare,I.base,I.loc,I.cell,I.free,I.freeC,I.pin,I.hok,I.len⟩
theorem Inv.unwish(I:Inv (X.wish E) pins σ H s):Inv X pins σ H s:=⟨I.ok.unwish,I.os,I.bare,I.base,I.loc,I.cell,I.free,I.freeC,I.pin,I.hok,I.len⟩
theorem SP.unwish{D:Ends}{f:Flow}{s':Shared}(h:SP (X.wish E) pins D f s'):SP X pins D f s':=by
 cases f with
 | next=>obtain⟨σ',H',I,q⟩:=h;exact⟨σ',H',I.unwish,q⟩
 | brk=>obtain⟨σ',H',I,q⟩:=h;exact⟨σ',H',I.unwish,q⟩
 | cont=>obtain⟨σ',H',I,q⟩:=h;exact⟨σ',H',I.unwish,q⟩
 | ret u=>obtain⟨v,σ',H',I,r,q⟩:=h;exact⟨v,σ',H',I.unwish,r,q⟩
theorem PSs.nox{st:List Stmt}{t:TS}(h:PSs X.nox st t):PSs X st t:=λpins s σ H D I hw=>
 ziZ (h pins s σ H D (I.wish _) hw) (λ_ _ q=>q.unwish) λ_ _ z=>ziR z
end
section
variable{X:Cx}{st:Stmt}{j3:List Stmt}{t u:TS}{e:Expr}{te:TE}{pos:Pos}
def ze9:TS:=λD σ H=>D.nx σ H
def zgf(t u:TS):TS:=λD σ H=>t {D with nx:=u D} σ H
theorem JL:PSs X [] ze9:=λ_ _ σ H _ I h=>wpAny_execs_nil ⟨σ,H,I,h⟩
theorem jA(h1:PS X st t)(h2:PSs X j3 u):PSs X (st::j3) (zgf t u):=by
 intro pins s σ H D I h;refine wpAny_execs_cons (thn (h1 pins s σ H {D with nx:=u D} I h) λf s1 q=>?_);cases f with
 | next=>
  obtain⟨σ',H',z,q⟩:=q;exact h2 pins s1 σ' H' D z q
 | ret v=>exact q
 | brk=>exact q
 | cont=>exact q
theorem qN(h1:PS X st t):PSs X [st] t:=by
 intro pins s σ H D I h;refine wpAny_execs_cons (thn (h1 pins s σ H D I h) λf s1 q=>?_);cases f with
 | next=>exact wpAny_execs_nil q
 | ret v=>exact q
 | brk=>exact q
 | cont=>exact q
def zfd:TS:=λD σ H=>D.ct σ H
theorem JM:PS X (.Continue pos) zfd:=λ_ _ σ H _ I h=>wpAny_Continue ⟨σ,H,I,h⟩
theorem Inv.quiet{pins:List (Addr×Obj)}{σ:St}{H:Hp}{s:Shared}(I:Inv X pins σ H s):interactive X.env=false:=by simp [interactive,I.ok.kind]
def zfc(te:TE):TS:=λD σ H=>te σ H λ_ H1=>D.nx σ H1
theorem wP(he:PE X e te)(z:swapsWith e none pos.line X.env=pure false:=by rfl):PS X (.Expr e pos) (zfc te):=by
 intro pins s σ H D I h;exact wpAny_Expr_any (thn (he pins s σ H _ I h) λv s1 ⟨x,H1,J,Y,O⟩=>⟨σ,H1,J,O⟩) I.quiet z
def ze5(te:TE):TS:=λD σ H=>te σ H D.rt
theorem ku(he:PE X e te):PS X (.Return (some e) pos) (ze5 te):=by
 intro pins s σ H D I h;exact wpAny_Return_some (thn (he pins s σ H _ I h) λv s1 ⟨x,H1,z,J,O⟩=>⟨x,σ,H1,z,J,O⟩)
def zgO(c:TT)(t u:TS):TS:=λD σ H=>c σ H λb H1=>if b=true then t D σ H1 else u D σ H1
theorem zbr{c:Expr}{a b:List Stmt}{tc:TT}(O:PT X c tc)(ha:PSs X a t)(Y:PSs X b u):PS X (.If c a b pos) (zgO tc t u):=by
 intro pins s σ H D I h;refine wpAny_If (thn (O pins s σ H _ I h) λd s1 hZ=>?_);obtain⟨H1,z,J⟩:=hZ;cases d with
 | true=>exact ha pins s1 σ H1 D z J
 | false=>exact Y pins s1 σ H1 D z J
def zcL:TS:=λ_ _ _=>False
theorem We:PS X st zcL:=λ_ _ _ _ _ _ h=>h.elim
end
abbrev TG:=V->St->Hp->(St->Hp->Prop)->Prop
abbrev TGs:=List V->St->Hp->(St->Hp->Prop)->Prop
def PG(X:Cx)(z:Expr)(t:TG):Prop:=
 ∀(pins:List (Addr×Obj)) (s:Shared) (σ:St) (H:Hp) (v:V) (u:Value) (Q:St->Hp->Prop),Inv X pins σ H s->RelV v u->t v σ H Q->
  wpAny (model X.prog X.w) X.A (assign z X.env u) (λ_ s'=>∃σ' H',Inv X pins σ' H' s'/\Q σ' H') X.xe s
def PGs(X:Cx)(z:List Expr)(t:TGs):Prop:=
 ∀(pins:List (Addr×Obj)) (s:Shared) (σ:St) (H:Hp) (vs:List V) (us:List Value) (Q:St->Hp->Prop),Inv X pins σ H s->Vals vs us->t vs σ H Q->
  wpAny (model X.prog X.w) X.A (assignInOrder ((assignEach z X.env).map (·.2)) us) (λ_ s'=>∃σ' H',Inv X pins σ' H' s'/\Q σ' H') X.xe s
abbrev zgb:=V->V->V->Hp->(Hp->Prop)->Prop
def zgI(X:Cx)(t:zgb):Prop:=
 ∀(pins:List (Addr×Obj)) (s:Shared) (σ:St) (H:Hp) (o i v:V) (z I u:Value) (Q:Hp->Prop),Inv X pins σ H s->RelV o z->RelV i I->RelV v u->t o i v H Q->
  wpAny (model X.prog X.w) X.A (setItem z I u) (λ_ s'=>∃H',Inv X pins σ H' s'/\Q H') X.xe s
section
variable{X:Cx}{pos:Pos}
def xj(i:Nat):TG:=λv σ H Q=>Q (σ.set i (some v)) H
theorem Ye{i:Nat}{x:Str}(z:X.N.Nodup)(hi:X.N[i]? = some x)(hx:Loc X.env.scope x)(J:X.fn x=true\/X.env.scope.names.lookup x=some .local:=by first | exact .inl rfl | exact .inr rfl | assumption):PG X (.Name x pos) (xj i):=by
 intro pins s σ H v u Q I r h;exact wpAny_assign_Name (Qp I z hi hx r (λs' O=>⟨_,H,O,h⟩) J)
def zgs:TGs:=λvs σ H Q=>vs=[]/\Q σ H
def zd1(t:TG)(u:TGs):TGs:=λvs σ H Q=>∃v r,vs=v::r/\t v σ H λσ' H'=>u r σ' H' Q
theorem jz:PGs X [] zgs:=by
 intro pins s σ H vs us Q I r h;obtain⟨e,h⟩:=h;subst e;cases r;exact assignInOrder_nil ⟨σ,H,I,h⟩
theorem zD{e:Expr}{es:List Expr}{t:TG}{u:TGs}(h1:PG X e t)(h2:PGs X es u)
 (z:(assignEach (e::es) X.env).map (·.2)=assign e X.env::(assignEach es X.env).map (·.2):=by rfl):PGs X (e::es) (zd1 t u):=by
 intro pins s σ H vs us Q I r h;obtain⟨v,vr,e1,h⟩:=h;subst e1;cases r with
 | cons r J=>
  rw [z];refine assignInOrder_cons (thn (h1 pins s σ H _ _ _ I r h) λ_ s1 O=>?_);obtain⟨Y,H1,I1,q1⟩:=O;exact h2 pins s1 Y H1 _ _ Q I1 J q1
def zgr(K:PySem.W.Frag)(n:Nat)(t:TGs):TG:=λv σ H Q=>∃a xs,v = .ref a/\SqT K H a xs/\xs.length=n/\t xs σ H Q
theorem zdk{es:List Expr}{k:Nat}{t:TGs}{n:Nat}(J:X.calm=true)(h:PGs X es t)
 (hn:(assignEach es X.env).length=n:=by rfl) (O:(assignEach es X.env).findIdx? (·.1)=none:=by rfl):PG X (.Tuple es k pos) (zgr X.K n t):=by
 intro pins s σ H v u Q I r hw;obtain⟨a,xs,e1,Y,hl,hw⟩:=hw;subst e1;cases r;obtain⟨a3,z,ht,hz⟩:=I.tuple Y;refine assign_Tuple_tuple (I.ok.hd J) ht (by simp [hn,<- hl,z.length]) O λh' hx=>?_;have I1:Inv X pins σ H {s with heap:=h'}:=I.kept (t':=s.toks) λb o e=>hx b o (zhG (zhu e)) e;exact h pins _ σ H xs _ Q I1 (by simpa using z) hw
def zeL(to z:TE)(t:zgb):TG:=λv σ H Q=>to σ H λo H1=>z σ H1 λi H2=>t o i v H2 λI=>Q σ I
theorem zdl{o i:Expr}{to Y:TE}{t:zgb}(ho:PE X o to)(hi:PE X i Y)(hs:zgI X t)
 (ha : ∀v,assign (.Subscript o i pos) X.env v=(do
   let z <- holding [v] (eval o X.env);let J <- holding [v,z] (eval i X.env)
   standAt pos
   holding [v,z,J] (setItem z J v)
   release [v,z,J] []):=by intro _;rfl):PG X (.Subscript o i pos) (zeL to Y t):=by
 intro pins s σ H v u Q I r h;rw [ha];refine zhb (ziv (thn (ho pins s σ H _ I h) λz s1 O=>?_));obtain⟨x,H1,I1,r1,q1⟩:=O;refine zhb (ziv (thn (hi pins s1 σ H1 _ I1 q1) λJ s2 O=>?_));obtain⟨y,H2,I2,r2,q2⟩:=O;refine zhb (wpAny_standAt (zhb (ziv (thn (hs pins s2 σ H2 x y v z J u _ I2 r1 r2 r q2) λ_ s3 O=>?_))));obtain⟨H3,I3,q3⟩:=O;exact wpAny_release ⟨σ,H3,I3,q3⟩
def Zi(te:TE)(g:TG):TS:=λD σ H=>te σ H λx H1=>g x σ H1 D.nx
theorem wc{tg e:Expr}{te:TE}{g:TG}(he:PE X e te)(z:PG X tg g)(J:swapsWithSole [tg] e pos.line X.env=pure false:=by rfl)(hw:swappedStores [tg] e X.env=pure none:=by rfl)
 (h1:(assignEach [tg] X.env).map (·.2)=[assign tg X.env]:=by rfl):PS X (.Assign [tg] e pos) (Zi te g):=by
 intro pins s σ H D I h;refine wpAny_Assign_stores (thn (he pins s σ H _ I h) λv s1 O=>?_) J hw;obtain⟨x,H1,Y,r1,q1⟩:=O;rw [h1];exact thn (z pins s1 σ H1 x v _ Y r1 q1) λ_ s2 q=>q
theorem zdh{i:Nat}{x:Str}{e:Expr}{te:TE}{pos':Pos}(z:X.N.Nodup)(hi:X.N[i]? = some x)(hx:Loc X.env.scope x)(he:PE X e te)(J:swapsWith e (some (.Name x pos')) pos.line X.env=pure false:=by rfl)(O:X.fn x=true\/X.env.scope.names.lookup x=some .local:=by first | exact .inl rfl | exact .inr rfl | assumption) :
 PS X (.Assign [.Name x pos'] e pos) (Zi te (xj i)):=by
 intro pins s σ H D I h;refine wpAny_Assign_Name (thn (he pins s σ H _ I h) λv s1 Y=>?_) J;obtain⟨y,H1,I1,r1,q1⟩:=Y;exact Qp I1 z hi hx r1 (λs2 I2=>⟨_,H1,I2,q1⟩) O
end
structure It where
 go:Nat->Hp->Prop
 yld:Nat->Hp->V->Hp->Prop
 stop:Nat->Hp->Prop
def FpOk(X:Cx)(pins:List (Addr×Obj))(H:Hp)(b:Addr):Prop:=
 H b=none/\b≠X.env.locals/\b∉X.fs/\(b∈X.ex\/X.s₀.heap.objs.size<=b)/\(∀x c,X.env.cells.lookup x=some c->c≠b)/\∀p∈X.pn++pins,p.1≠b
theorem Inv.fpOk{X:Cx}{pins:List (Addr×Obj)}{σ:St}{H H':Hp}{s:Shared}{b:Addr}(I:Inv X pins σ H s)(J:s.heap.objs.size<=b)(hn:H' b=none):FpOk X pins H' b:=by
 refine⟨hn,ziW (zhx I.lt J),I.nofs J,.inr (zh3 I.sz J),λx c e z=>?_,λp O z=>?_⟩
 ·obtain⟨v,q⟩:=I.cell x c e
  exact absurd (zhx q.lt (by rw [z];exact J)) (zif _)
 ·exact absurd (zhx (zhu (I.pin p O).1) (by rw [z];exact J)) (zif _)
structure Turn(P:Program)(w:World)(K:PySem.W.Frag)(tg:Expr)(J:It)(fp:List Addr)(it:Addr)(tn:Nat->Heap->Prop):Prop where
 mem:it∈fp
 obj : ∀i h,tn i h->∀b∈fp,∃o,h.get? b=some o/\∀v,o.data ≠ .cell v
 keep : ∀i h h',tn i h->(∀b∈fp,∀o,h.get? b=some o->h'.get? b=some o)->tn i h'
 item : ∀(X:Cx),X.prog=P->X.w=w->X.K=K->X.calm=true->∀(i:Nat) (pins:List (Addr×Obj)) (s:Shared) (σ:St) (H:Hp) (E:Value->Shared->Prop),Inv X pins σ H s->(∀b∈fp,FpOk X pins H b)->tn i s.heap->J.go i H->
  wpAny (model P w) X.A (pyNext (.ref it)) (λr s1=>∃u,r=some u/\
   wpAny (model P w) X.A (letOwnedTupleGo tg (.ref it) u) (λ_ s2=>∃x H',Inv X pins σ H' s2/\RelV x u/\J.yld i H x H'/\tn (i+1) s2.heap/\∀b∈fp,H' b=none) E s1) E s
 done : ∀(X:Cx),X.prog=P->X.w=w->X.K=K->X.calm=true->∀(i:Nat) (pins:List (Addr×Obj)) (s:Shared) (σ:St) (H:Hp) (E:Value->Shared->Prop),Inv X pins σ H s->(∀b∈fp,FpOk X pins H b)->tn i s.heap->J.stop i H->
  wpAny (model P w) X.A (pyNext (.ref it)) (λr s1=>r=none/\Inv X pins σ H s1) E s
 self : ∀(A:Around) (i:Nat) (s:Shared) (Q:Value->Shared->Prop) (E:Value->Shared->Prop),tn i s.heap->Q (.ref it) s->wpAny (model P w) A (pyIter (.ref it)) Q E s
abbrev TI:=St->Hp->(It->Hp->Prop)->Prop
def PIE(X:Cx)(pins:List (Addr×Obj))(σ:St)(tg:Expr)(R:It->Hp->Prop)(z:Value)(s2:Shared):Prop:=
 ∃(it:Addr) (fp:List Addr) (tn:Nat->Heap->Prop) (J:It) (H':Hp),z = .ref it/\Inv X pins σ H' s2/\Turn X.prog X.w X.K tg J fp it tn/\tn 0 s2.heap/\(∀b∈fp,FpOk X pins H' b)/\R J H'
def PI(X:Cx)(tg iter:Expr)(wi:TI):Prop:=
 ∀(pins:List (Addr×Obj)) (s:Shared) (σ:St) (H:Hp) (R:It->Hp->Prop),Inv X pins σ H s->wi σ H R->
  wpAny (model X.prog X.w) X.A (eval iter X.env) (λv s1=>wpAny (model X.prog X.w) X.A (pyIter v) (PIE X pins σ tg R) X.xe s1) X.xe s
theorem zbU{M:Model}{A:Around}{E:Value->Shared->Prop}{s:Shared}{tg:Expr}{it:Addr}{u:Value}{o:Obj}{n:String}{vs:Array Value}{Q:Unit->Shared->Prop}(I:s.heap.get? it=some o)(J:o.cls = .type n)(hd:o.data = .fields vs)
 (hn:["enumerate","zip","dict_itemiterator","dict_reverseitemiterator","odict_iterator","itertools.zip_longest","itertools.pairwise"].contains n=false) (z:Q () s):wpAny M A (letOwnedTupleGo tg (.ref it) u) Q E s:=by
 unfold letOwnedTupleGo;cases tg<;>first
  | exact zhi z
  | (cases u<;>first
      | exact zhi z
      | (refine zhb (wpAny_load I ?_)
         rw [J,hd];show wpAny M A (if (["enumerate","zip","dict_itemiterator","dict_reverseitemiterator","odict_iterator","itertools.zip_longest","itertools.pairwise"].contains n && vs[0]? == some (rawInt _))=true then _ else _) Q E s;rw [if_neg (by intro h;rw [hn,Bool.false_and]at h;cases h)];exact zhi z))
def Itl(K:PySem.W.Frag)(a:Addr):It:=
 ⟨λi H=>∃xs x,SqL K H a xs/\xs[i]? = some x,λi H x H'=>H'=H/\∀xs,SqL K H a xs->xs[i]? = some x,λi H=>∃xs,SqL K H a xs/\xs.length<=i⟩
def Itt(K:PySem.W.Frag)(a:Addr):It:=
 ⟨λi H=>∃xs x,SqT K H a xs/\xs[i]? = some x,λi H x H'=>H'=H/\∀xs,SqT K H a xs->xs[i]? = some x,λi H=>∃xs,SqT K H a xs/\xs.length<=i⟩
def Itr(lo:Int)(n:Nat):It:=⟨λi _=>i<n,λi H x H'=>H'=H/\x = .int (lo+i),λi _=>n<=i⟩
theorem Ko{P:Program}{w:World}{K:PySem.W.Frag}{tg:Expr}(a it:Addr):Turn P w K tg (Itl K a) [it] it (λi h=>h.IsListIter it a i) where
 mem:=by simp
 obj:=λi h st b J=>by
  have e:b=it:=by simpa using J
  subst e;obtain⟨o,e,c,d⟩:=st;exact⟨o,e,λv z=>by rw [d]at z;cases z⟩
 keep:=λi h h' st k=>st.at λo e=>k it ⋯ o e
 item:=by
  intro X hP hw hK hc i pins s σ H E I O st hg;subst hP hw hK;obtain⟨xs,x,Y,hx⟩:=hg;obtain⟨ab,rv,p,hz⟩:=I.list Y;obtain⟨u,hu,ru⟩:=rv.get hx;obtain⟨f0,f1,f2,f3,f4,f5⟩:=O it ⋯;refine wpAny_pyNext_list_item st p.isList (x:=u) (by simpa using hu) λh' aa sb=>?_;have I1:Inv X pins σ H {s with heap:=h'}:=I.turned (t':=s.toks) (λb o J e=>(sb.2 b J).trans e) f0 f1 f3 f4 f5;obtain⟨o,e,c,d⟩:=id aa;exact⟨u,rfl,zbU (s:={s with heap:=h'}) e c d ⋯ ⟨x,H,I1,ru,⟨rfl,λys hy=>by rw [I.list_inj hy Y];exact hx⟩,aa,λb J=>(O b J).1⟩⟩
 done:=by
  intro X hP hw hK hc i pins s σ H E I O st hg;subst hP hw hK;obtain⟨xs,Y,hx⟩:=hg;obtain⟨ab,rv,p,hz⟩:=I.list Y;obtain⟨f0,f1,f2,f3,f4,f5⟩:=O it ⋯;have hl:=rv.length;exact wpAny_pyNext_list_end (I.ok.hd hc) st p.isList (by simp;omega) λh' eb=>⟨rfl,I.turned (t':=s.toks) (λb o J e=>eb b o J e) f0 f1 f3 f4 f5⟩
 self:=λ_ _ _ _ _ st h=>wpAny_pyIter_listiter st h
theorem Xl{P:Program}{w:World}{K:PySem.W.Frag}{tg:Expr}(a it:Addr):Turn P w K tg (Itt K a) [it] it (λi h=>h.IsTupleIter it a i) where
 mem:=by simp
 obj:=λi h st b J=>by
  have e:b=it:=by simpa using J
  subst e;obtain⟨o,e,c,d⟩:=st;exact⟨o,e,λv z=>by rw [d]at z;cases z⟩
 keep:=λi h h' st k=>st.at λo e=>k it ⋯ o e
 item:=by
  intro X hP hw hK hc i pins s σ H E I O st hg;subst hP hw hK;obtain⟨xs,x,Y,hx⟩:=hg;obtain⟨a3,rv,p,hz⟩:=I.tuple Y;obtain⟨u,hu,ru⟩:=rv.get hx;obtain⟨f0,f1,f2,f3,f4,f5⟩:=O it ⋯;refine wpAny_pyNext_tuple_item st (show s.heap.IsTuple a a3.toArray from p) (x:=u) (by simpa using hu) λh' ab sb=>?_;have I1:Inv X pins σ H {s with heap:=h'}:=I.turned (t':=s.toks) (λb o J e=>(sb.2 b J).trans e) f0 f1 f3 f4 f5;obtain⟨o,e,c,d⟩:=id ab;exact⟨u,rfl,zbU (s:={s with heap:=h'}) e c d ⋯ ⟨x,H,I1,ru,⟨rfl,λys hy=>by rw [I.tuple_inj hy Y];exact hx⟩,ab,λb J=>(O b J).1⟩⟩
 done:=by
  intro X hP hw hK hc i pins s σ H E I O st hg;subst hP hw hK;obtain⟨xs,Y,hx⟩:=hg;obtain⟨a3,rv,p,hz⟩:=I.tuple Y;obtain⟨f0,f1,f2,f3,f4,f5⟩:=O it ⋯;have hl:=rv.length;exact wpAny_pyNext_tuple_end (I.ok.hd hc) st (show s.heap.IsTuple a a3.toArray from p) (by simp;omega) λh' eb=>⟨rfl,I.turned (t':=s.toks) (λb o J e=>eb b o J e) f0 f1 f3 f4 f5⟩
 self:=λ_ _ _ _ _ st h=>wpAny_pyIter_tupleiter st h
theorem Xm{P:Program}{w:World}{K:PySem.W.Frag}{tg:Expr}(it:Addr)(lo:Int)(n:Nat):Turn P w K tg (Itr lo n) [it] it (λi h=>IsRangeIter h it (lo+(i:Nat)*1) ((n:Int) - (i:Nat)) 1) where
 mem:=by simp
 obj:=λi h st b J=>by
  have e:b=it:=by simpa using J
  subst e;exact⟨_,st,λv z=>by
   have z':Data.fields _=Data.cell v:=z;cases z'⟩
 keep:=λi h h' st k=>k it ⋯ _ st
 item:=by
  intro X Y hw hK hc i pins s σ H E I O st hg;subst Y hw hK;obtain⟨f0,f1,f2,f3,f4,f5⟩:=O it ⋯;have W:=Walks.range (prog:=X.prog) (w:=X.w) (I.ok.hd hc) it lo 1 n;refine W.item i s _ _ hg st λv h' tk hv a8 kk=>?_;obtain⟨t,rfl⟩:=hv;have I1:Inv X pins σ H {s with heap:=h',toks:=tk}:=I.turned (λb o J e=>kk b o (by simpa using J) e) f0 f1 f3 f4 f5;refine⟨_,rfl,zbU (s:={s with heap:=h',toks:=tk}) (n:="range_iterator") a8 rfl rfl ⋯ ⟨.int (lo+i),H,I1,⟨t,?_⟩,⟨rfl,rfl⟩,a8,λb J=>(O b J).1⟩⟩;rw [zjG]
 done:=by
  intro X Y hw hK hc i pins s σ H E I O st hg;subst Y hw hK;obtain⟨f0,f1,f2,f3,f4,f5⟩:=O it ⋯;exact wpAny_pyNext_range_end (I.ok.hd hc) st (by have:n<=i:=hg;omega) λh' eb=>⟨rfl,I.turned (t':=s.toks) (λb o J e=>eb b o J e) f0 f1 f3 f4 f5⟩
 self:=λ_ _ _ _ _ st h=>wpAny_pyIter_rangeiter st h
section
variable{X:Cx}{tg:Expr}
theorem QD{pins:List (Addr×Obj)}{σ:St}{H:Hp}{s:Shared}{R:It->Hp->Prop}{E:Value->Shared->Prop}{lo hi:Int}{t u v:Tok}{tk:Nat}(I:Inv X pins σ H s)(h1 : -(2 ^ 62)<=lo)(h2:lo<2 ^ 62)(J : -(2 ^ 62)<=hi)(O:hi<2 ^ 62)
 (q:R (Itr lo (hi - lo).toNat) H):wpAny (model X.prog X.w) X.A (pyIter (.ref s.heap.objs.size)) (PIE X pins σ tg R) E {s with heap:=s.heap.push {cls:= .type "range",data:= .fields #[.int lo t,.int hi u,.int 1 v]},toks:=tk}:=by
 refine wpAny_pyIter_range (IsRange.new ..) (small_one h1 h2 J O) ?_;have z:Inv X pins σ H {s with heap:=s.heap.push {cls:= .type "range",data:= .fields #[.int lo t,.int hi u,.int 1 v]},toks:=tk}:=I.kept λb o e=>zhc _ e;refine⟨(s.heap.push {cls:= .type "range",data:= .fields #[.int lo t,.int hi u,.int 1 v]}).objs.size,[(s.heap.push {cls:= .type "range",data:= .fields #[.int lo t,.int hi u,.int 1 v]}).objs.size],_,_,H,rfl,
  z.kept (t':=tk) λb o e=>zhc _ e,Xm _ lo (hi - lo).toNat,?_,λb Y=>?_,q⟩
 ·have e1:lo+((0:Nat):Int)*1=lo:=by simp
  have e2:(((hi - lo).toNat:Nat):Int) - ((0:Nat):Int)=Builtin.Range.rangeSize lo hi 1:=by rw [rangeSize_one];split<;>omega
  show IsRangeIter _ _ (lo+((0:Nat):Int)*1) ((((hi - lo).toNat:Nat):Int) - ((0:Nat):Int)) 1;rw [e1,e2];exact zhw _ rfl
 ·have e:b=(s.heap.push {cls:= .type "range",data:= .fields #[.int lo t,.int hi u,.int 1 v]}).objs.size:=by simpa using Y
  subst e;exact z.fpOk (zhn _) (z.hok.fresh (zhn _))
def zfE(ta:TA):TI:=λσ H R=>ta σ H λvs H1=>∃j:Int,vs=[.int j]/\ -(2 ^ 62)<=j/\j<2 ^ 62/\R (Itr 0 j.toNat) H1
def zfD(ta:TA):TI:=λσ H R=>ta σ H λvs H1=>∃i j:Int,vs=[.int i,.int j]/\(-(2 ^ 62)<=i/\i<2 ^ 62/\ -(2 ^ 62)<=j/\j<2 ^ 62)/\R (Itr i (j - i).toNat) H1
theorem Yd{a:Expr}{ta:TA}{p pos:Pos}(J:Gl X "range")(hm:X.mg "range" = none)(ha:PA X [a] ta)(O:starEach [a] X.env=[(false,eval a X.env)]:=by rfl):PI X tg (.Call (.Name "range" p) [a] [] pos) (zfE ta):=by
 intro pins s σ H R I h;refine Call_ (qJ I J hm boot_range (zh2 (thn (ha pos pins s σ H _ I h) λus s1 Y=>?_) O rfl));obtain⟨vs,H1,I1,r1,z⟩:=Y;obtain⟨j,e,z,q2,q⟩:=z;subst e;cases r1 with
 | cons r rr=>
  cases rr;obtain⟨t,rfl⟩:=r;exact call_range_1 (QD I1 ⋯ ⋯ z q2 (by simpa using q))
theorem Yc{a b:Expr}{ta:TA}{p pos:Pos}(Y:Gl X "range")(hm:X.mg "range" = none)(ha:PA X [a,b] ta)(hs:starEach [a,b] X.env=[(false,eval a X.env),(false,eval b X.env)]:=by rfl)(O:starEach [b] X.env=[(false,eval b X.env)]:=by rfl) :
 PI X tg (.Call (.Name "range" p) [a,b] [] pos) (zfD ta):=by
 intro pins s σ H R I h;refine Call_ (qJ I Y hm boot_range (zh2 (thn (ha pos pins s σ H _ I h) λus s1 hZ=>?_) (by rw [hs,O]) (by rw [O];rfl)));obtain⟨vs,H1,I1,r1,z⟩:=hZ;obtain⟨i,j,e,⟨z,q2,q3,q4⟩,q⟩:=z;subst e;cases r1 with
 | cons r J=>
  cases J with
  | cons r' J=>
   cases J;obtain⟨t,rfl⟩:=r;obtain⟨t',rfl⟩:=r';exact call_range_2 (QD I1 z q2 q3 q4 q)
def zgP(wi:TI)(g:TG)(tb:TS):TS:=λD σ H=>wi σ H λJ H1=>∃W:Nat->Nat->St->Hp->Prop,(∃m,W 0 m σ H1)/\∀i m σ H,W i m σ H->
 (J.stop i H/\D.nx σ H)\/(J.go i H/\∃N:St->Hp->Prop,(∀σ' H',N σ' H'->∃m',m'<m/\W (i+1) m' σ' H')/\∀x H',J.yld i H x H'->g x σ H' λz H2=>tb {D with nx:=N,ct:=N,bk:=D.nx} z H2)
def ZQ(fp:List Addr)(h:Heap):List (Addr×Obj):=fp.filterMap λb=>(h.get? b).map λo=>(b,o)
theorem xI{fp:List Addr}{h:Heap}{b:Addr}{o:Obj}(z:b∈fp)(e:h.get? b=some o):(b,o)∈ZQ fp h:=List.mem_filterMap.mpr ⟨b,z,by rw [e];rfl⟩
theorem Yk{fp:List Addr}{h:Heap}{p:Addr×Obj}(z:p∈ZQ fp h):p.1∈fp/\h.get? p.1=some p.2:=by
 obtain⟨b,I,e⟩:=List.mem_filterMap.mp z;cases q:h.get? b with
 | none=>rw [q]at e;cases e
 | some o=>
  rw [q]at e;have J:(b,o)=p:=zhM e;subst J;exact⟨I,q⟩
theorem Inv.pinned{pins:List (Addr×Obj)}{σ:St}{H:Hp}{s:Shared}{fp:List Addr}(I:Inv X pins σ H s)(Y : ∀b∈fp,FpOk X pins H b)(ho : ∀b∈fp,∃o,s.heap.get? b=some o/\∀v,o.data ≠ .cell v):Inv X (pins++ZQ fp s.heap) σ H s:=
 I.pins_of λp hp=>(zi5.mp hp).elim (λz=>I.pin p (zh5 _ z)) λz=>by
  obtain⟨J,e⟩:=Yk z;obtain⟨f0,f1,f2,_⟩:=Y p.1 J;obtain⟨o,O,d⟩:=ho p.1 J;rw [e]at O;cases O;exact⟨e,f0,f1,f2,d⟩
theorem Inv.unpinned{pins pl:List (Addr×Obj)}{σ:St}{H:Hp}{s:Shared}(I:Inv X (pins++pl) σ H s):Inv X pins σ H s:=I.pins_of λp z=>I.pin p (zh5 _ (List.mem_append_left _ z))
theorem K5{iter:Expr}{body:List Stmt}{wi:TI}{g:TG}{tb:TS}{pos:Pos}(hp:PassesOwn (model X.prog X.w) X.A X.env X.xe)(hc:X.calm=true)(hi:PI X tg iter wi)(hg:PG X tg g)(z:PSs X body tb)
 (hs : ∀x,foldedSetIterable iter X.env x=pure x:=by intro _;rfl):PS X (.For tg iter body [] pos) (zgP wi g tb):=by
 intro pins s σ H D I h;refine wpAny_For (thn (hi pins s σ H _ I h) λv s1 h1=>thn h1 λbh s2 h2=>?_) hs;obtain⟨it,fp,tn,J,H2,e,I2,T,an,f2,W,⟨m0,w0⟩,aq⟩:=h2;subst e;have a7 : ∀{H':Hp},(∀b∈fp,H' b=none)->∀b∈fp,FpOk X pins H' b:=λhn b z=>⟨hn b z,(f2 b z).2⟩;refine codeAny_forLoop_any (λn s'=>∃i σ' H',Inv X pins σ' H' s'/\tn i s'.heap/\(∀b∈fp,H' b=none)/\W i n σ' H') ?_ m0 ⟨0,σ,H2,I2,an,λb z=>(f2 b z).1,w0⟩;rintro n s3 ⟨i,σ3,H3,I3,st3,ag,w3⟩;rcases aq i n σ3 H3 w3 with⟨stop,qn⟩ | ⟨go,N,hN,step⟩
 ·refine zjO hp (thn (T.done X rfl rfl rfl hc i pins s3 σ3 H3 X.xe I3 (a7 ag) st3 stop) λr s4 hZ=>?_)
  obtain⟨hr,I4⟩:=hZ;subst hr;exact wpAny_execs_nil ⟨σ3,H3,I4,qn⟩
 ·refine zjO hp (thn (T.item X rfl rfl rfl hc i pins s3 σ3 H3 X.xe I3 (a7 ag) st3 go) λr s4 hZ=>?_)
  obtain⟨u,hr,h4⟩:=hZ;subst hr;refine zjO hp (thn h4 λ_ s5 hZ=>?_);obtain⟨x,H5,I5,r5,y5,a9,b0⟩:=hZ;have b9:=I5.pinned (a7 b0) (T.obj _ _ a9);refine zjO hp (thn (hg _ s5 σ3 H5 x u _ b9 r5 (step x H5 y5)) λ_ s6 hZ=>?_);obtain⟨σ6,H6,I6,q6⟩:=hZ;refine zjO hp (thn (z _ s6 σ6 H6 _ I6 q6) λf s7 q7=>?_);have again : ∀{O:St} {Y:Hp},Inv X (pins++ZQ fp s5.heap) O Y s7->N O Y->∃m,m<n/\∃i σ' H',Inv X pins σ' H' s7/\tn i s7.heap/\(∀b∈fp,H' b=none)/\W i m σ' H':=λ{O Y} I7 n7=>by
   obtain⟨m',hm,w7⟩:=hN O Y n7;refine⟨m',hm,i+1,O,Y,I7.unpinned,T.keep _ _ _ a9 λb z o e=>(I7.pin (b,o) (zh5 _ (zh5 _ (xI z e)))).1,λb z=>?_,w7⟩;obtain⟨o,e,d⟩:=T.obj _ _ a9 b z;exact(I7.pin (b,o) (zh5 _ (zh5 _ (xI z e)))).2.1
  cases f with
  | next=>obtain⟨O,Y,I7,n7⟩:=q7;exact again I7 n7
  | cont=>obtain⟨O,Y,I7,n7⟩:=q7;exact again I7 n7
  | brk=>obtain⟨O,Y,I7,q7⟩:=q7;exact⟨O,Y,I7.unpinned,q7⟩
  | ret v=>obtain⟨x7,O,Y,I7,r7,q7⟩:=q7;exact⟨x7,O,Y,I7.unpinned,r7,q7⟩
end
theorem Z8{lo:Int}{n:Nat}{g:TG}{tb:TS}{D:Ends}{σ:St}{H:Hp}(z:Nat->St->Hp->Prop)(h0:z 0 σ H)
 (O : ∀i σ H,i<n->z i σ H->g (.int (lo+i)) σ H λI H2=>tb {D with nx:=z (i+1),ct:=z (i+1),bk:=D.nx} I H2) (hd : ∀σ H,z n σ H->D.nx σ H) :
 ∃W:Nat->Nat->St->Hp->Prop,(∃m,W 0 m σ H)/\∀i m σ H,W i m σ H->
  ((Itr lo n).stop i H/\D.nx σ H)\/((Itr lo n).go i H/\∃N:St->Hp->Prop,(∀σ' H',N σ' H'->∃m',m'<m/\W (i+1) m' σ' H')/\∀x H',(Itr lo n).yld i H x H'->g x σ H' λI H2=>tb {D with nx:=N,ct:=N,bk:=D.nx} I H2):=by
 refine⟨λi m σ H=>m=n - i/\i<=n/\z i σ H,⟨n,by simp,zik _,h0⟩,?_⟩;rintro i m σ H ⟨rfl,hi,p⟩;by_cases J:i<n
 ·refine .inr ⟨J,z (i+1),λσ' H' Y=>⟨n - (i+1),by omega,rfl,J,Y⟩,λx H' y=>?_⟩
  obtain⟨e,y⟩:=y;subst e y;exact O i σ _ J p
 ·have e:i=n:=by omega
  subst e;exact .inl ⟨zhn _,hd σ H p⟩
abbrev R2:=V->V->Hp->VK->Prop
def OpR(X:Cx)(f:Value->Value->Sem Value)(r:R2):Prop:=
 ∀(pins:List (Addr×Obj)) (s:Shared) (σ:St) (H:Hp) (x y:V) (v u:Value) (Q:VK),Inv X pins σ H s->RelV x v->RelV y u->r x y H Q->
  wpAny (model X.prog X.w) X.A (f v u) (EP X pins σ Q) X.xe s
def vB(X:Cx)(f:Value)(r:List V->Hp->VK->Prop):Prop:=
 ∀(pins:List (Addr×Obj)) (s:Shared) (σ:St) (H:Hp) (xs:List V) (us:List Value) (Q:VK),Inv X pins σ H s->Vals xs us->r xs H Q->
  wpAny (model X.prog X.w) X.A (call f us) (EP X pins σ Q) X.xe s
def zg6(X:Cx)(r:V->Hp->(Bool->Hp->Prop)->Prop):Prop:=
 ∀(pins:List (Addr×Obj)) (s:Shared) (σ:St) (H:Hp) (x:V) (v:Value) (Q:Bool->Hp->Prop),Inv X pins σ H s->RelV x v->r x H Q->
  wpAny (model X.prog X.w) X.A (truthy v) (TP X pins σ Q) X.xe s
def tOp(r:R2)(ta tb:TE):TE:=λσ H Q=>ta σ H λx H1=>tb σ H1 λy H2=>r x y H2 Q
def rI(C:Int->Int->Prop)(g:Int->Int->V):R2:=λx y H Q=>∃i j,x = .int i/\y = .int j/\C i j/\Q (g i j) H
def rI0(g:Int->Int->V):R2:=λx y H Q=>∃i j,x = .int i/\y = .int j/\Q (g i j) H
section
variable{X:Cx}{a b c:Expr}{ta tb tc:TE}{pos:Pos}
theorem zfU(ha:PE X a ta)(J:PE X b tb){pins:List (Addr×Obj)}{s:Shared}{σ:St}{H:Hp}{R:V->V->Hp->Prop}(I:Inv X pins σ H s)
 (h:ta σ H λx H1=>tb σ H1 λy H2=>R x y H2) {Q:Value->Shared->Prop} {f:Value->Value->Sem Value}
 (O : ∀v u s2 x y H2,Inv X pins σ H2 s2->RelV x v->RelV y u->R x y H2->wpAny (model X.prog X.w) X.A (f v u) Q X.xe s2) :
 wpAny (model X.prog X.w) X.A (eval a X.env) (λv Y=>wpAny (model X.prog X.w) X.A (eval b X.env) (λu s₂=>wpAny (model X.prog X.w) X.A (f v u) Q X.xe s₂) X.xe Y) X.xe s:=by
 refine thn (ha pins s σ H _ I h) λv s1 z=>?_;obtain⟨x,H1,I1,r1,q1⟩:=z;refine thn (J pins s1 σ H1 _ I1 q1) λu s2 z=>?_;obtain⟨y,H2,I2,r2,q2⟩:=z;exact O v u s2 x y H2 I2 r1 r2 q2
theorem zby{z:Operator}{r:R2}(J:OpR X (binaryOp z) r)(ha:PE X a ta)(O:PE X b tb):PE X (.BinOp a z b pos) (tOp r ta tb):=by
 intro pins s σ H Q I h;exact wpAny_BinOp (zfU ha O I h λv u s2 x y H2 Y rx ry q=>J pins s2 σ H2 x y v u Q Y rx ry q)
theorem opI{f:Value->Value->Sem Value}{C:Int->Int->Prop}{g:Int->Int->Int}
 (rule : ∀(i j:Int) (t u:Tok) (s:Shared) (Q:Value->Shared->Prop) (E:Value->Shared->Prop),C i j->Q (.int (g i j) s.toks) {s with toks:=s.toks+1}->wpAny (model X.prog X.w) X.A (f (.int i t) (.int j u)) Q E s) :
 OpR X f (rI C λi j=> .int (g i j)):=by
 intro pins s σ H x y v u Q I z J h;obtain⟨i,j,rfl,rfl,O,q⟩:=h;obtain⟨t,rfl⟩:=z;obtain⟨t',rfl⟩:=J;exact rule i j t t' s _ _ O ⟨.int (g i j),H,I.tok _,⟨_,rfl⟩,q⟩
theorem zgn{f:Value->Value->Sem Value}{g:Int->Int->Int}
 (rule : ∀(i j:Int) (t u:Tok) (s:Shared) (Q:Value->Shared->Prop) (E:Value->Shared->Prop),Q (.int (g i j) s.toks) {s with toks:=s.toks+1}->wpAny (model X.prog X.w) X.A (f (.int i t) (.int j u)) Q E s) :
 OpR X f (rI0 λi j=> .int (g i j)):=by
 intro pins s σ H x y v u Q I z J h;obtain⟨i,j,rfl,rfl,q⟩:=h;obtain⟨t,rfl⟩:=z;obtain⟨t',rfl⟩:=J;exact rule i j t t' s _ _ ⟨.int (g i j),H,I.tok _,⟨_,rfl⟩,q⟩
theorem zgo{f:Value->Value->Sem Value}{g:Int->Int->Bool}
 (rule : ∀(i j:Int) (t u:Tok) (s:Shared) (Q:Value->Shared->Prop) (E:Value->Shared->Prop),Q (.bool (g i j)) s->wpAny (model X.prog X.w) X.A (f (.int i t) (.int j u)) Q E s) :
 OpR X f (rI0 λi j=> .bl (g i j)):=by
 intro pins s σ H x y v u Q I z J h;obtain⟨i,j,rfl,rfl,q⟩:=h;obtain⟨t,rfl⟩:=z;obtain⟨t',rfl⟩:=J;exact rule i j t t' s _ _ ⟨.bl (g i j),H,I,rfl,q⟩
def zgL(i j:Int):Prop:=0<j/\j<1073741824
def zgK(i j:Int):Prop:=0<=j/\j<=1000000/\i.natAbs<2 ^ 64
def CMul(i j:Int):Prop:=(-(2 ^ 64)<i/\i<2 ^ 64)\/(-(2 ^ 64)<j/\j<2 ^ 64)
theorem CMul.ok{i j:Int}(h:CMul i j):IntMulOk i j:=by
 rcases h with⟨h1,h2⟩ | ⟨h1,h2⟩
 ·exact .of_left (intBits_le_64 h1 h2)
 ·exact .of_right (intBits_le_64 h1 h2)
theorem op_add:OpR X (binaryOp .Add) (rI0 λi j=> .int (i+j)):=zgn λ_ _ _ _ _ _ _ q=>add_int q
theorem zdt:OpR X (binaryOp .Sub) (rI0 λi j=> .int (i - j)):=zgn λ_ _ _ _ _ _ _ q=>sub_int q
theorem op_mul:OpR X (binaryOp .Mult) (rI CMul λi j=> .int (i*j)):=opI λ_ _ _ _ _ _ _ z q=>mul_int q z.ok
theorem zbF:OpR X (binaryOp .FloorDiv) (rI zgL λi j=> .int (i/j)):=opI λi j _ _ _ _ _ z q=>by
 have h1:(0:Int)<j:=z.1;have h2:j<1073741824:=z.2;exact floordiv_int ⋯ (by rw [Int.fdiv_eq_ediv_of_nonneg i ⋯];exact q) (.inl (PyProof.noPylong_small ⋯))
theorem zdw:OpR X (binaryOp .Mod) (rI (λ_ j=>0<j) λi j=> .int (i%j)):=opI λi j _ _ _ _ _ z q=>by
 have h1:(0:Int)<j:=z;exact mod_int' ⋯ (by rw [Int.fmod_eq_emod_of_nonneg i ⋯];exact q)
theorem zdu:OpR X (binaryOp .Pow) (rI zgK λi j=> .int (i ^ j.toNat)):=opI λ_ _ _ _ _ _ _ z q=>pow_int_small z.1 z.2.1 z.2.2 q
end
def zgR:V->V->Bool
 | .non,.non=>true | .non,.int _=>true | .int _,.non=>true | .non,.bl _=>true | .bl _,.non=>true | .non,.str _=>true | .str _,.non=>true
 | .int _,.int _=>true | .bl _,.bl _=>true | .str _,.str _=>true | .byt _,.byt _=>true
 | .int _,.str _=>true | .str _,.int _=>true | .bl _,.str _=>true | .str _,.bl _=>true
 | _,_=>false
def rEq:R2:=λx y H Q=>zgR x y=true/\Q (.bl (decide (x=y))) H
theorem zb0{i j:Int}:decide (V.int i=V.int j)=(i==j):=by
 rw [ziU];simp
theorem zd8{i j:Bool}:decide (V.bl i=V.bl j)=(i==j):=by
 rw [ziU];simp
theorem zbZ{i j:Str}:decide (V.str i=V.str j)=(i==j):=by
 rw [ziU];simp
theorem zb1{i j:Array UInt8}:decide (V.byt i=V.byt j)=(i.toList==j.toList):=by
 rw [ziU];cases i;cases j;simp
section
variable{X:Cx}{a b c:Expr}{ta tb tc:TE}{pos:Pos}
theorem qt{pins:List (Addr×Obj)}{σ:St}{H:Hp}{s:Shared}{Q:VK}{k z:Bool}(I:Inv X pins σ H s)(q:Q (.bl k) H)(e:k=z):EP X pins σ Q (.bool z) s:=by
 subst e;exact⟨.bl k,H,I,rfl,q⟩
theorem zfr:OpR X (compareOp .Eq) rEq:=by
 intro pins s σ H x y v u Q I O z h;obtain⟨J,q⟩:=h;cases x with
 | non=>
  cases O;cases y with
  | non=>cases z;exact PySem.EqNone.eq_none_none (qt I q ⋯)
  | bl j=>cases z;exact PySem.EqNone.eq_none_bool (qt I q ⋯)
  | int j=>obtain⟨t',rfl⟩:=z;exact PySem.EqNone.eq_none_int (qt I q ⋯)
  | str j=>obtain⟨t',rfl⟩:=z;exact PySem.EqNone.eq_none_str (qt I q ⋯)
  | _=>exact absurd (show false=true from J) zhA
 | bl i=>
  cases O;cases y with
  | non=>cases z;exact PySem.EqNone.eq_bool_none (qt I q ⋯)
  | bl j=>cases z;exact eq_bool (qt I q zd8)
  | str j=>obtain⟨t',rfl⟩:=z;exact PySem.EqMixed.eq_bool_str (qt I q ⋯)
  | _=>exact absurd (show false=true from J) zhA
 | int i=>
  obtain⟨t,rfl⟩:=O;cases y with
  | non=>cases z;exact PySem.EqNone.eq_int_none (qt I q ⋯)
  | int j=>obtain⟨t',rfl⟩:=z;exact eq_int (qt I q zb0)
  | str j=>obtain⟨t',rfl⟩:=z;exact PySem.EqMixed.eq_int_str (qt I q ⋯)
  | _=>exact absurd (show false=true from J) zhA
 | str i=>
  obtain⟨t,rfl⟩:=O;cases y with
  | non=>cases z;exact PySem.EqNone.eq_str_none (qt I q ⋯)
  | bl j=>cases z;exact PySem.EqMixed.eq_str_bool (qt I q ⋯)
  | int j=>obtain⟨t',rfl⟩:=z;exact PySem.EqMixed.eq_str_int (qt I q ⋯)
  | str j=>obtain⟨t',rfl⟩:=z;exact eq_str (qt I q zbZ)
  | _=>exact absurd (show false=true from J) zhA
 | byt i=>
  obtain⟨t,rfl⟩:=O;cases y with
  | byt j=>obtain⟨t',rfl⟩:=z;exact PySem.W.eq_bytes (qt I q zb1)
  | _=>exact absurd (show false=true from J) zhA
 | _=>cases y<;>exact absurd (show false=true from J) zhA
theorem zdx:OpR X (compareOp .LtE) (rI0 λi j=> .bl (decide (i<=j))):=zgo λ_ _ _ _ _ _ _ q=>le_int q
theorem zfq:OpR X (compareOp .Gt) (rI0 λi j=> .bl (decide (j<i))):=zgo λ_ _ _ _ _ _ _ q=>gt_int q
theorem OpR.or{f:Value->Value->Sem Value}{r r':R2}(h:OpR X f r)(h':OpR X f r'):OpR X f (λx y H Q=>r x y H Q\/r' x y H Q):=by
 intro pins s σ H x y v u Q I z J q;rcases q with q | q
 ·exact h pins s σ H x y v u Q I z J q
 ·exact h' pins s σ H x y v u Q I z J q
theorem QL(b:Expr){z:CmpOp}(h:z ≠ .In:=by decide)(h2:z ≠ .NotIn:=by decide):behindInMarks z b=false:=by
 have e1:(z==CmpOp.In)=false:=by cases z<;>first | rfl | exact absurd rfl h
 have e2:(z==CmpOp.NotIn)=false:=by cases z<;>first | rfl | exact absurd rfl h2
 cases b<;>simp [behindInMarks,e1,e2]
theorem zbB{z:CmpOp}{r:R2}(J:OpR X (compareOp z) r)(ha:PE X a ta)(O:PE X b tb)(hm:behindInMarks z b=false):PE X (.Compare a [z] [b] pos) (tOp r ta tb):=by
 intro pins s σ H Q I h;exact wpAny_Compare1 (zfU ha O I h λv u s2 x y H2 Y rx ry q=>J pins s2 σ H2 x y v u Q Y rx ry q) hm
def zaX(t:TE):TT:=λσ H Q=>t σ H λx H'=>∃k,x = .bl k/\Q k H'
theorem JK{J:CmpOp}{r:R2}(O:OpR X (compareOp J) r)(ha:PE X a ta)(Y:PE X b tb)(hm:behindInMarks J b=false):PT X (.Compare a [J] [b] pos) (zaX (tOp r ta tb)):=by
 intro pins s σ H Q I h;refine wpAny_isTrue_Compare1 (thn (ha pins s σ H _ I h) λv s1 ⟨x,H1,I1,r1,q1⟩=>thn (Y pins s1 σ H1 _ I1 q1) λu s2 ⟨y,H2,I2,r2,q2⟩=>
  thn (O pins s2 σ H2 x y v u _ I2 r1 r2 q2) λc s3 ⟨z,H3,I3,r3,k,e,q3⟩=>?_) hm
 subst e;cases r3;exact ziN ⟨H3,I3,q3⟩
def zcM(r r':R2)(ta tb tc:TE):TE:=λσ H Q=>ta σ H λx H1=>tb σ H1 λy H2=>r x y H2 λz I=>∃k,z = .bl k/\
 (if k=true then tc σ I λw' J=>r' y w' J Q else Q (.bl false) I)
theorem Wc{J O:CmpOp}{r r':R2}(ho:OpR X (compareOp J) r)(a3:OpR X (compareOp O) r')(ha:PE X a ta)(hb:PE X b tb)(hc:PE X c tc)
 (hm:lastMarks [J,O] [b,c]=false:=by with_unfolding_all rfl):PT X (.Compare a [J,O] [b,c] pos) (zaX (zcM r r' ta tb tc)):=by
 intro pins s σ H Q I h;refine isTrue_chain (thn (ha pins s σ H _ I h) λv s1 ⟨x,H1,I1,r1,q1⟩=>test_link (thn (hb pins s1 σ H1 _ I1 q1) λu s2 ⟨y,H2,I2,r2,q2⟩=>
  thn (ho pins s2 σ H2 x y v u _ I2 r1 r2 q2) λd s3 ⟨z,Y,I3,r3,k,e,q3⟩=>?_)) hm
 subst e;cases r3;refine ziN ?_;cases k with
 | false=>
  obtain⟨k',e',q'⟩:=q3;cases e';exact ite_ff ⟨Y,I3,q'⟩
 | true=>
  refine ite_tt (test_last (thn (hc pins s3 σ Y _ I3 q3) λw' s4 ⟨z',H4,I4,r4,q4⟩=>thn (a3 pins s4 σ H4 y z' u w' _ I4 r2 r4 q4) λd' s5 ⟨z2,H5,I5,r5,k2,e2,q5⟩=>?_));subst e2;cases r5;exact ziN ⟨H5,I5,q5⟩
def zgF(K:PySem.W.Frag)(x:V)(H:Hp)(k:Bool):Prop:=
 match x with
 | .non=>k=false
 | .bl b=>k=b
 | .int i=>k=(i != 0)
 | .str y=>y.length<=sizeLine/\k=((y.length:Int) != 0)
 | .byt y=>y.size<=sizeLine/\k=((y.size:Int) != 0)
 | .ref p=>(∃xs,SqL K H p xs/\k = !xs.isEmpty)\/(∃xs,SqT K H p xs/\k = !xs.isEmpty)\/∃kvs,H p=some (.dK kvs)/\k = !kvs.isEmpty
 | _=>False
theorem X3{κ:Type}{kvs:List (κ×V)}{vs:List (κ×Value)}(r:KV kvs vs):(!vs.isEmpty) = !kvs.isEmpty:=by
 cases r<;>rfl
theorem wo{xs:List V}{z:List Value}(r:Vals xs z):(!z.toArray.isEmpty) = !xs.isEmpty:=by
 cases r<;>simp
theorem vh:(sizeLine:Nat)<2 ^ 63:=by rw [zj7];decide
theorem zcJ:zg6 X (λx H Q=>∃k,zgF X.K x H k/\Q k H):=by
 intro pins s σ H x v Q I J h;obtain⟨k,e,q⟩:=h;have hl:=vh;have hs:sizeLine=16777216:=zj7;cases x with
 | non=>
  cases J;have z:k=false:=e;subst z;exact truthy_none ⟨H,I,q⟩
 | bl b=>
  cases J;have z:k=b:=e;subst z;exact ziN ⟨H,I,q⟩
 | int i=>
  obtain⟨t,rfl⟩:=J;have z:k=(i != 0):=e;subst z;exact PySem.P.truthy_int ⟨H,I,q⟩
 | str y=>
  obtain⟨t,rfl⟩:=J;obtain⟨hy,z⟩:y.length<=sizeLine/\k=((y.length:Int) != 0):=e;subst z;exact PySem.P.truthy_str ⋯ ⟨H,I.tok _,q⟩
 | byt y=>
  obtain⟨t,rfl⟩:=J;obtain⟨hy,z⟩:y.size<=sizeLine/\k=((y.size:Int) != 0):=e;subst z;exact PySem.W.truthy_bytes ⋯ ⟨H,I.tok _,q⟩
 | ref p=>
  cases J;have z:(∃xs,SqL X.K H p xs/\k = !xs.isEmpty)\/(∃xs,SqT X.K H p xs/\k = !xs.isEmpty)\/∃kvs,H p=some (.dK kvs)/\k = !kvs.isEmpty:=e;rcases z with⟨xs,hx,z⟩ | ⟨xs,hx,z⟩ | ⟨kvs,hx,z⟩
  ·subst z
   obtain⟨a1,r,pl,O⟩:=I.list hx;have Y:=r.length;exact wpAny_truthy_list pl.isList (by simp only [zho];omega) ⟨H,I.tok _,by rw [wo r];exact q⟩
  ·subst z
   obtain⟨a1,r,pl,O⟩:=I.tuple hx;have Y:=r.length;exact truthy_tuple pl (by simp only [zho];omega) ⟨H,I.tok _,by rw [wo r];exact q⟩
  ·subst z
   obtain⟨O,hS,vs,r,m⟩:kvs.length<=sizeLine/\(p==sysModules)=false/\∃vs,KV kvs vs/\s.heap.DictOf (JR X.prog X.w) p vs:=I.hok p _ hx;have Y:kvs.length=vs.length:=Paired.length r;exact wpAny_truthy_dict hS m ⋯ ⟨H,I.tok _,by rw [X3 r];exact q⟩
 | _=>exact(show False from e).elim
theorem Wb(ha:PE X a ta)(he : ∀z,isTrue a X.env z=(do let v <- z;standAt a.pos;holding [v] (truthy v))) :
 PT X a (λσ H Q=>ta σ H λx H'=>∃k,zgF X.K x H' k/\Q k H'):=by
 intro pins s σ H Q I h;exact isTrue_plain (thn (ha pins s σ H _ I h) λv s1 ⟨x,H1,J,O,Y⟩=>zcJ pins s1 σ H1 x v Q J O Y) (he _)
theorem XO:OpR X (binaryOp .Add) (λx y H Q=>∃i j,x = .str i/\y = .str j/\i.length+j.length<=sizeLine/\Q (.str (i++j)) H):=by
 intro pins s σ H x y v u Q I z J h;obtain⟨i,j,rfl,rfl,O,q⟩:=h;obtain⟨t,rfl⟩:=z;obtain⟨t',rfl⟩:=J;exact add_str (λt' tk=>⟨.str (i++j),H,I.tok _,⟨_,rfl⟩,q⟩) O
theorem kh{x:V}{us:List Value}(r:Vals [x] us) : ∃u,us=[u]/\RelV x u:=by
 cases r with
 | cons z r2=>cases r2;exact⟨_,rfl,z⟩
theorem zcA{x y:V}{us:List Value}(r:Vals [x,y] us) : ∃u w',us=[u,w']/\RelV x u/\RelV y w':=by
 cases r with
 | cons z r2=>
  cases r2 with
  | cons I J=>cases J;exact⟨_,_,rfl,z,I⟩
theorem Y1(J:X.calm=true):vB X (.builtin "min") (λxs H Q=>∃i j,xs=[.int i,.int j]/\Q (.int (if j<i then j else i)) H):=by
 intro pins s σ H xs us Q I r h;obtain⟨i,j,rfl,q⟩:=h;obtain⟨u,w',rfl,⟨t,rfl⟩,⟨t',rfl⟩⟩:=zcA r;refine min_two_ints (I.ok.hd J) λh' tk k=>⟨_,H,I.kept k,?_,q⟩;by_cases z:j<i
 ·rw [if_pos z,if_pos z];exact⟨_,rfl⟩
 ·rw [if_neg z,if_neg z];exact⟨_,rfl⟩
theorem Y2:vB X (.type "int") (λxs H Q=>(∃i,xs=[.int i]/\Q (.int i) H)\/∃k,xs=[.bl k]/\Q (.int (if k then 1 else 0)) H):=by
 intro pins s σ H xs us Q I r h;rcases h with⟨i,rfl,q⟩ | ⟨k,rfl,q⟩
 ·obtain⟨u,rfl,t,rfl⟩:=kh r
  exact call_int_int ⟨.int i,H,I,⟨_,rfl⟩,q⟩
 ·obtain⟨u,rfl,z⟩:=kh r
  cases z;exact call_int_bool ⟨.int (if k then 1 else 0),H,I.tok _,⟨_,rfl⟩,q⟩
end
structure ObjM(h:Heap)(x dx C:Addr)(mA:Str->Option Value):Prop where
 obj:h.get? x=some (PySem.W.instObj C dx)
 ns:h.Ns1 dx mA
 ne:dx≠x
theorem Yt{h:Heap}{dx:Addr}{mA:Str->Option Value}(n:h.Ns1 dx mA) : ∃od,h.get? dx=some od/\∀name,zj4 name od=some (mA name):=by
 obtain⟨o,es,ep,I,hd,J,_,hm⟩:=n;refine⟨o,I,λname=>?_⟩;have e:=hm name;unfold nsFind findBy at e;rw [<- Array.find?_toList]at e;unfold zj4;rw [hd];dsimp only;split
 ·rename_i y q
  rw [q]at e;exact congrArg some e
 ·rename_i q
  rw [q]at e;have a:es.toList.any (·.refKey)=false:=by
   rw [List.any_eq_false];intro y O;obtain⟨z,t,Y⟩:=J y (Array.mem_toList_iff.mp O);simp [DictEntry.refKey,Y]
  have a' : ¬es.toList.any (·.refKey)=true:=by rw [a];exact zhA
  rw [if_neg a'];exact congrArg some e
theorem ObjM.look{h:Heap}{x dx C:Addr}{mA:Str->Option Value}(I:ObjM h x dx C mA) : ∃od,PySem.W.InstAt h x (PySem.W.instObj C dx) C (some od)/\∀name,zj4 name od=some (mA name):=
 let ⟨od,z,J⟩:=Yt I.ns
 ⟨od,⟨I.obj,rfl,rfl,z⟩,J⟩
section
variable{prog:Program}{w:World}{A:Around}{E:Value->Shared->Prop}{s:Shared}{K:PySem.W.Frag}{x dx C f:Addr}{mA:Str->Option Value}{name:Str}{v:Value}
theorem zbV{z:Bool}{Q:Value->Shared->Prop}(X:K.In s.heap)(I:ObjM s.heap x dx C mA)(O:PySem.W.plainGet K C name=true)(Y:PySem.W.hasDictIn K C=true)
 (ha:PySem.W.findIn K (.ref C) name=some none) (hv:mA name=some v) (a1:PySem.W.handedIn v=true) (h:Q v {s with toks:=s.toks+1}) :
 wpAny (model prog w) A (getAttr (.ref x) name z) Q E s:=by
 obtain⟨od,J,hl⟩:=I.look;exact PySem.W.get_value X J (zj8 O).1 (PySem.W.findObj_own Y ha rfl (by rw [hl,hv])) a1 h
theorem WQ{pl:Sem Bool}{Q:Value×List Value->Shared->Prop}(X:K.In s.heap)(I:ObjM s.heap x dx C mA)(z:PySem.W.plainGet K C name=true)
 (O:PySem.W.findIn K (.ref C) name=some (some (.ref f))) (Y:PySem.W.isFn K (.ref f)=true) (hv:mA name=none) (h:Q (.ref f,[.ref x]) s) :
 wpAny (model prog w) A (getMethod (.ref x) name pl) Q E s:=by
 obtain⟨od,J,hl⟩:=I.look;exact PySem.W.method_fn X J (zj8 z).1 (zj8 z).2 O (beq_iff_eq.mp Y) (by show(zj4 name od).map (·.isSome)=some false;rw [hl,hv];rfl) h
theorem zbc{ns:List Str}{Q:Unit->Shared->Prop}(X:K.In s.heap)(I:ObjM s.heap x dx C mA)
 (Y:PySem.W.findIn K (.ref C) "__setattr__" = some (some (.builtin "object.__setattr__"))) (hp:PySem.W.plainOver K C=true) (ht:PySem.W.takerIn K C name=some none) (hh:PySem.W.hasDictIn K C=true)
 (hw:zky mA ns) (hsz:ns.length<=sizeLine)
 (h : ∀h',ObjM h' x dx C (λy=>if y=name then some v else mA y)->zju dx s.heap h'->Q () {s with heap:=h',toks:=s.toks+2}) :
 wpAny (model prog w) A (setAttr (.ref x) name v) Q E s:=by
 obtain⟨od,J,hl⟩:=I.look;refine PySem.W.set_plain X J Y (PySem.W.osa_open (s:={s with toks:=s.toks+1}) (r:=none) X J hp ht λb=>?_);obtain⟨cd,hc,a4⟩:=PySem.W.any_some hh;have hx:s.heap.get? x=some ⟨.ref C,some dx,.plain,#[]⟩:=I.obj;refine zhb (zhi (zhb (zhb (wpAny_loadPart hx (zhb (PySem.W.Looks.here (s:={s with toks:=s.toks+1}) (PySem.W.looks_clsIn X hc) ?_))))));rw [a4];refine zhi (a:=some dx) (zhb (zhi (zhb ?_)));refine wpAny_nsSet1 (s:={s with toks:=s.toks+1}) I.ns λh' z O=>?_;obtain⟨oD,aa,ab,a5,a6,a7⟩:=z.count (zky.cons name v hw);refine zhb (wpAny_lookBehind a5 (by rw [a6];exact pastItsLine_dict (zh3 a7 (by rw [zhJ];omega))) ?_);exact zhi (h _ ⟨(O.2 _ (zic I.ne)).trans I.obj,z,I.ne⟩ O)
theorem Wz{R:Result->Shared->Prop}{vs:List Value}{z:List (Str×Value)}(X:K.In s.heap)(hm:PySem.W.makesIn K C=true)
 (hi:PySem.W.findIn K (.ref C) "__init__" = some (some (.ref f))) (I:zjF K (.ref f)=some (.type "function"))
 (h:codeAny (model prog w) (A.under (.builtin "type.__call__" ⟨.ref C::vs,z⟩)) (.call (.ref f) ⟨.ref (s.heap.objs.size+1)::vs,z⟩) (PySem.W.InitBack (s.heap.objs.size+1) R)
   {s with heap:=(s.heap.push zix).push (PySem.W.instObj C s.heap.objs.size)}) :
 codeAny (model prog w) A (.call (.ref C) ⟨vs,z⟩) R s:=by
 obtain⟨J,g,d,t,os⟩:=s;exact PySem.W.make_core (PySem.W.makes_of X hm) (PySem.W.looks_findIn X hi) (λself=>PySem.W.bind_fn X self I) (.inl rfl) h
end
def wO(f:Str)(v:V):List (Str×V)->List (Str×V)
 | []=>[(f,v)]
 | (g,x)::r=>if g=f then (g,v)::r else (g,x)::wO f v r
theorem jS(f g:Str)(v:V) : ∀fs:List (Str×V),(wO f v fs).lookup g=if g=f then some v else fs.lookup g
 | []=>by
  show zjh g [(f,v)]=_;by_cases h:g=f
  ·have z:(g==f)=true:=beq_iff_eq.mpr h
   simp only [zjh,z,if_pos h]
  ·have z:(g==f)=false:=beq_eq_false_iff_ne.mpr h
   simp only [zjh,z,if_neg h]
 | (k,x)::r=>by
  have J:=jS f g v r;rw [show wO f v ((k,x)::r)=(if k=f then (k,v)::r else (k,x)::wO f v r)from rfl];by_cases I:k=f
  ·rw [if_pos I]
   by_cases h:g=k
   ·have z:(g==k)=true:=beq_iff_eq.mpr h
    simp only [zjh,z,if_pos (h.trans I)]
   ·have z:(g==k)=false:=beq_eq_false_iff_ne.mpr h
    simp only [zjh,z,if_neg (λe:g=f=>h (e.trans I.symm))]
  ·rw [if_neg I]
   by_cases h:g=k
   ·have z:(g==k)=true:=beq_iff_eq.mpr h
    simp only [zjh,z,if_neg (λe:g=f=>I (h.symm.trans e))]
   ·have z:(g==k)=false:=beq_eq_false_iff_ne.mpr h
    simp only [zjh,z];exact J
theorem vj(f:Str)(v:V) : ∀fs:List (Str×V),f∈(wO f v fs).map (·.1)/\∀g,g∈fs.map (·.1)->g∈(wO f v fs).map (·.1)
 | []=>⟨by simp [wO],λg h=>by simp at h⟩
 | (k,x)::r=>by
  obtain⟨I,J⟩:=vj f v r;rw [show wO f v ((k,x)::r)=(if k=f then (k,v)::r else (k,x)::wO f v r)from rfl];by_cases z:k=f
  ·rw [if_pos z]
   subst z;exact⟨by simp,λg h=>by simpa using h⟩
  ·rw [if_neg z]
   refine⟨?_,λg h=>?_⟩
   ·rw [zhI]
    exact zhs _ I
   ·rw [zhI]at h ⊢
    rcases zhv.mp h with e | e
    ·exact zhv.mpr (.inl e)
    ·exact zhs _ (J g e)
theorem vi(f:Str)(v:V) : ∀fs:List (Str×V),(wO f v fs).length<=fs.length+1
 | []=>by simp [wO]
 | (k,x)::r=>by
  have I:=vi f v r;rw [show wO f v ((k,x)::r)=(if k=f then (k,v)::r else (k,x)::wO f v r)from rfl];by_cases z:k=f
  ·rw [if_pos z,zhJ,zhJ];omega
  ·rw [if_neg z,zhJ,zhJ];omega
theorem RelO.some_of{v:V}{o:Option Value}(r:RelO (some v) o) : ∃u,o=some u/\RelV v u:=by
 cases o with
 | none=>exact(show False from r).elim
 | some u=>exact⟨u,rfl,r⟩
theorem RelO.none_of{o:Option Value}(r:RelO none o):o=none:=by
 cases o with
 | none=>rfl
 | some u=>exact(show False from r).elim
theorem YG{v:V}{u:Value}(r:RelV v u):PySem.W.handedIn u=true:=by
 cases v with
 | non=>cases (show u=zh7 from r);rfl
 | bl b=>cases (show u=zkw b from r);rfl
 | int i=>obtain⟨t,e⟩:=(show ∃t,u=zki i t from r);cases e;rfl
 | str x=>obtain⟨t,e⟩:=(show ∃t,u=Value.str x t from r);cases e;rfl
 | byt b=>obtain⟨t,e⟩:=(show ∃t,u=Value.bytes b t from r);cases e;rfl
 | flt b=>obtain⟨t,e⟩:=(show ∃t,u=Value.float b t from r);cases e;rfl
 | ref a=>cases (show u=zhH a from r);rfl
 | ty n=>cases (show u=zjg n from r);rfl
section
variable{P:Program}{w:World}{H H':Hp}{h h':Heap}{a C dx:Addr}{fs fs':List (Str×V)}
theorem wW(hok:HOk P w H h)(e:H a=some (.ins C dx fs)) : ∃mA,ObjM h a dx C mA/\(∀f,RelO (fs.lookup f) (mA f))/\zky mA (fs.map (·.1))/\fs.length<=1000/\H dx=some (.own a):=by
 obtain⟨d,z,ne,I,mA,n,r,q⟩:=(show ObjOk P w H h a (.ins C dx fs)from hok a _ e);exact⟨mA,⟨I,n,ne⟩,r,q,z,d⟩
end
structure Cls(K:PySem.W.Frag)(C:Addr):Prop where
 pg:PySem.W.plainGet K C Str.empty=true
 hd:PySem.W.hasDictIn K C=true
 po:PySem.W.plainOver K C=true
 sa:PySem.W.findIn K (.ref C) "__setattr__" = some (some (.builtin "object.__setattr__"))
theorem Cls.get{K:PySem.W.Frag}{C:Addr}(c:Cls K C)(f:Str):PySem.W.plainGet K C f=true:=c.pg
def NoAttr(K:PySem.W.Frag)(C:Addr)(f:Str):Prop:=PySem.W.findIn K (.ref C) f=some none
theorem NoAttr.taker{K:PySem.W.Frag}{C:Addr}{f:Str}(n:NoAttr K C f):PySem.W.takerIn K C f=some none:=by
 unfold PySem.W.takerIn;rw [show PySem.W.findIn K (.ref C) f=some none from n];rfl
structure Meth(K:PySem.W.Frag)(C:Addr)(m:Str)(f:Addr):Prop where
 at_:PySem.W.findIn K (.ref C) m=some (some (.ref f))
 fn:PySem.W.isFn K (.ref f)=true
 kp:PySem.W.keepIn K (.ref f)=true
section
variable{X:Cx}{pins:List (Addr×Obj)}{σ:St}{H:Hp}{s:Shared}{a C dx:Addr}{fs:List (Str×V)}{f:Str}{v:V}{A:Around}{E:Value->Shared->Prop}
theorem X7{b:Bool}{Q:Value->Shared->Prop}(I:Inv X pins σ H s)(e:H a=some (.ins C dx fs))(c:Cls X.K C)(n:NoAttr X.K C f)(l:fs.lookup f=some v)
 (h : ∀u s',Inv X pins σ H s'->RelV v u->Q u s'):wpAny (model X.prog X.w) A (getAttr (.ref a) f b) Q E s:=by
 obtain⟨mA,O,r,_,_,_⟩:=wW I.hok e;obtain⟨u,J,z⟩:=RelO.some_of (v:=v) (o:=mA f) (by rw [<- l];exact r f);exact zbV I.kIn O (c.get f) c.hd n J (YG z) (h u _ (I.tok _) z)
theorem X6{m:Str}{g:Addr}{pl:Sem Bool}{Q:Value×List Value->Shared->Prop}(I:Inv X pins σ H s)(e:H a=some (.ins C dx fs))(c:Cls X.K C)(k:Meth X.K C m g)(l:fs.lookup m=none)
 (h:Q (.ref g,[.ref a]) s):wpAny (model X.prog X.w) A (getMethod (.ref a) m pl) Q E s:=by
 obtain⟨mA,O,r,_,_,_⟩:=wW I.hok e;have hn:mA m=none:=RelO.none_of (by rw [<- l];exact r m);exact WQ I.kIn O (c.get m) k.at_ k.fn hn h
theorem Xv{y:V}{u:Value}{Q:Unit->Shared->Prop}(I:Inv X pins σ H s)(e:H a=some (.ins C dx fs))(c:Cls X.K C)(n:NoAttr X.K C f)(hl:fs.length<1000)(ry:RelV y u)
 (h : ∀s',Inv X pins σ (upd H a (.ins C dx (wO f y fs))) s'->Q () s'):wpAny (model X.prog X.w) A (setAttr (.ref a) f u) Q E s:=by
 obtain⟨mA,O,r,wi,_,Y⟩:=wW I.hok e;have hz:(fs.map (·.1)).length<=sizeLine:=by rw [zhB,zj7];omega
 refine zbc I.kIn O c.sa c.po n.taker c.hd wi hz λh' J sb=>h _ ?_;have hd : ∃o,h'.get? dx=some o:=let ⟨o,_,_,e',_⟩:=J.ns;⟨o,e'⟩;refine I.write (x:=a) (e:=dx) (by rw [e];exact zh6) (.inr Y) (λb q hb z=>(sb.2 b hb).trans z) hd ?_;refine⟨by rw [zy O.ne];exact Y,?_,O.ne,J.obj,_,J.ns,λg=>?_,λg hg=>?_⟩
 ·have:=vi f y fs;omega
 ·show RelO ((wO f y fs).lookup g) (if g=f then some u else mA g)
  rw [jS];by_cases q:g=f
  ·rw [if_pos q,if_pos q];exact ry
  ·rw [if_neg q,if_neg q];exact r g
 ·by_cases q:g=f
  ·rw [q];exact(vj f y fs).1
  ·refine(vj f y fs).2 g (wi g λz=>hg ?_)
   show(if g=f then some u else mA g)=none;rw [if_neg q];exact z
theorem Inv.made(I:Inv X pins σ H s):Inv X pins σ (upd (upd H s.heap.objs.size (.own (s.heap.objs.size+1))) (s.heap.objs.size+1) (.ins C s.heap.objs.size []))
 {s with heap:=(s.heap.push zix).push (PySem.W.instObj C s.heap.objs.size)}:=by
 have e1:(s.heap.push zix).get? s.heap.objs.size=some zix:=zhw s.heap rfl;have e2:((s.heap.push zix).push (PySem.W.instObj C s.heap.objs.size)).get? (s.heap.objs.size+1)=some (PySem.W.instObj C s.heap.objs.size):=by
  have:=zhw (s.heap.push zix) (o:=PySem.W.instObj C s.heap.objs.size) rfl
  rwa [zia]at this
 have z:(s.heap.push zix).Ns s.heap.objs.size (λ_=>none):=⟨zix,#[],_,e1,rfl,(λe he=>absurd he ⋯),λ_=>rfl⟩;have J:=I.laid (a:=s.heap.objs.size) (o:= .own (s.heap.objs.size+1)) (h':=s.heap.push zix) (t':=s.toks) (λb u q=>zhc _ q) (zhn _) ⟨_,e1⟩;refine J.laid (a:=s.heap.objs.size+1) (o:= .ins C s.heap.objs.size []) (t':=s.toks) (λb u q=>zhc _ q) (Nat.le_of_eq (zia _ _)) ?_;have ne:s.heap.objs.size≠s.heap.objs.size+1:=zhG (zir _);refine⟨by rw [zy ne,zv],zik _,ne,e2,λ_=>none,(Heap.Ns1.of_empty z).at λo q=>zhc _ q,λ_=>zh6,λy O=>absurd rfl O⟩
theorem zcb{prog:Program}{w:World}{env:Env}{e:Expr}{f:Str}{pos:Pos}{s:Shared}{Q:Value->Shared->Prop}(z:attributeBase e f env (eval e env)=eval e env)
 (h:wpAny (model prog w) A (eval e env) (λo I=>wpAny (model prog w) A (getAttr o f true) Q E I) E s):wpAny (model prog w) A (eval (.Attribute e f pos) env) Q E s:=
 Attribute_any_ h (by rw [arm_eval_Attribute,z])
end
def zfb(K:PySem.W.Frag)(ta:TE)(f:Str):TE:=λσ H Q=>ta σ H λx H1=>∃a C dx fs v,x = .ref a/\H1 a=some (.ins C dx fs)/\Cls K C/\NoAttr K C f/\fs.lookup f=some v/\Q v H1
def zfi(K:PySem.W.Frag)(ta tv:TE)(f:Str):TS:=λD σ H=>tv σ H λy H1=>ta σ H1 λx H2=>∃a C dx fs,x = .ref a/\H2 a=some (.ins C dx fs)/\Cls K C/\NoAttr K C f/\fs.length<1000/\
 D.nx σ (upd H2 a (.ins C dx (wO f y fs)))
section
variable{X:Cx}{o e value:Expr}{f:Str}{pos pos' tpos:Pos}{ta tv:TE}
theorem QH(he:PE X e ta)(z:attributeBase e f X.env (eval e X.env)=eval e X.env):PE X (.Attribute e f pos) (zfb X.K ta f):=by
 intro pins s σ H Q I h;refine zcb z (thn (he pins s σ H _ I h) λu s1 J=>?_);obtain⟨x,H1,O,Y,a,C,dx,fs,v,ex,ea,c,n,l,q⟩:=J;subst ex;obtain rfl:u=zhH a:=Y;exact X7 O ea c n l λu' s2 I2 ru=>⟨v,H1,I2,ru,q⟩
theorem zaq(ha:PE X o ta)(z:PE X value tv)(J:swapsWith value (some (.Attribute o f pos')) pos.line X.env=pure false):PS X (.Assign [.Attribute o f pos'] value pos) (zfi X.K ta tv f):=by
 intro pins s σ H D I h;refine plainObj_wpAny_Assign_Attribute (thn (z pins s σ H _ I h) λu s1 ⟨y,H1,O,Y,q⟩=>thn (ha pins s1 σ H1 _ O q) λov s2 ⟨x,H2,I2,rx,a,C,dx,fs,ex,ea,c,n,l,q2⟩=>?_) J;subst ex;obtain rfl:ov=zhH a:=rx;exact Xv I2 ea c n l Y λs3 I3=>⟨σ,_,I3,q2⟩
end
section
variable{X:Cx}{pins:List (Addr×Obj)}{σ:St}{H:Hp}{s:Shared}{A:Around}{E:Value->Shared->Prop}{Q:Value->Shared->Prop}{c:Value}{b:Bool}
inductive TyOf(K:PySem.W.Frag)(H:Hp):V->Value->Prop where
 | non:TyOf K H .non (.type "NoneType")
 | bl (x:Bool):TyOf K H (.bl x) (.type "bool")
 | int (i:Int):TyOf K H (.int i) (.type "int")
 | str (x:Str):TyOf K H (.str x) (.type "str")
 | flt (x:UInt64):TyOf K H (.flt x) (.type "float")
 | lst {a:Addr} {xs:List V} (e:H a=some (.lst xs)):TyOf K H (.ref a) (.type "list")
 | frz {a:Addr} {o:Obj} {xs:List V} (e:H a=some (.frz o (.lst xs))):TyOf K H (.ref a) (.type "list")
 | tup {a:Addr} {xs:List V} (e:H a=some (.tup xs)):TyOf K H (.ref a) (.type "tuple")
 | dK {a:Addr} {kvs:List (Key×V)} (e:H a=some (.dK kvs)):TyOf K H (.ref a) (.type "dict")
 | dT {a:Addr} {kvs:List (List Key×V)} (e:H a=some (.dT kvs)):TyOf K H (.ref a) (.type "dict")
 | ins {a C dx:Addr} {fs:List (Str×V)} (e:H a=some (.ins C dx fs)) (cl:Cls K C) (ha:PySem.W.findIn K (.ref C) "__class__" = some (some (.builtin "object.__class__")))
  (hn:PySem.W.specialIn K (.builtin "object.__class__") "__get__" = some (some (.builtin "getset_descriptor.__get__"))) (htk:PySem.W.takesIn K (.builtin "object.__class__")=some true)
  (hm:PySem.W.mroIn K C (.type "object")=some true):TyOf K H (.ref a) (.ref C)
theorem YA{x:V}{u t:Value}(I:Inv X pins σ H s)(Y:RelV x u)(ty:TyOf X.K H x t)(e:ziz X.K t c=some b)(h : ∀tk,Q (.bool b) {s with toks:=tk}) :
 wpAny (model X.prog X.w) A (call (.builtin "isinstance") [u,c]) Q E s:=by
 cases ty with
 | non=>cases (show u=zh7 from Y);exact zhO PySem.W.kitx_none I.kIn zh6 e (λz=>nomatch z) h
 | bl y=>cases (show u=zkw y from Y);exact zhO PySem.W.kitx_bool I.kIn zh6 e (λz=>nomatch z) h
 | int i=>obtain⟨t,q⟩:=(show ∃t,u=zki i t from Y);cases q;exact zhO PySem.W.kitx_int I.kIn zh6 e (λz=>nomatch z) h
 | str y=>obtain⟨t,q⟩:=(show ∃t,u=Value.str y t from Y);cases q;exact zhO PySem.W.kitx_str I.kIn zh6 e (λz=>nomatch z) h
 | flt y=>obtain⟨t,q⟩:=(show ∃t,u=Value.float y t from Y);cases q;exact zhO PySem.W.kitx_float I.kIn zh6 e (λz=>nomatch z) h
 | @lst a xs ea=>
  cases (show u=zhH a from Y);obtain⟨_,_,n,_,h1⟩:=(show ObjOk X.prog X.w H s.heap a (.lst xs)from I.hok a _ ea);exact zhO zkl I.kIn ⟨_,h1,rfl⟩ e (λz=>nomatch z) h
 | @frz a ob xs ea=>
  cases (show u=zhH a from Y);obtain⟨_,_,_,n,_,h1⟩:=(show ObjOk X.prog X.w H s.heap a (.frz ob (.lst xs))from I.hok a _ ea);exact zhO zkl I.kIn ⟨_,h1,rfl⟩ e (λz=>nomatch z) h
 | @tup a xs ea=>
  cases (show u=zhH a from Y);obtain⟨_,_,_,p⟩:=(show ObjOk X.prog X.w H s.heap a (.tup xs)from I.hok a _ ea);obtain⟨o,h1,h2,_⟩:=p;exact zhO PySem.W.kitx_tuple I.kIn ⟨o,h1,(Prod.mk.inj h2).1⟩ e (λz=>nomatch z) h
 | @dK a kvs ea=>
  cases (show u=zhH a from Y);obtain⟨_,_,vs,_,p⟩:=(show ObjOk X.prog X.w H s.heap a (.dK kvs)from I.hok a _ ea);obtain⟨o,es,ep,h1,h2,_⟩:=p;exact zhO zjJ I.kIn ⟨o,h1,h2.1⟩ e (λz=>nomatch z) h
 | @dT a kvs ea=>
  cases (show u=zhH a from Y);obtain⟨_,_,xs,_,o,es,ep,h1,h2,_⟩:=(show ObjOk X.prog X.w H s.heap a (.dT kvs)from I.hok a _ ea);exact zhO zjJ I.kIn ⟨o,h1,h2.1⟩ e (λz=>nomatch z) h
 | @ins a C dx fs ea cl ha hn htk hm=>
  cases (show u=zhH a from Y);obtain⟨mA,O,_⟩:=wW I.hok ea;obtain⟨od,J,_⟩:=O.look;exact zhO (PySem.W.kitx_own (cl.get _) cl.hd ha hn htk hm) I.kIn J e (λz=>nomatch z) h
end
structure Room(k:Nat)(A:Around):Prop where
 hd:A.handled=none
 dp:A.depth+3*k+5<recursionLimit
 un:A.units+16*k+200<cLine
theorem Room.mono{j k:Nat}{A:Around}(r:Room k A)(h:j<=k):Room j A:=⟨r.hd,by have:=r.dp;omega,by have:=r.un;omega⟩
theorem Room.deeper{k:Nat}{A:Around}(r:Room (k+1) A)(env:Env):Room k (A.deeper env):=
 ⟨r.hd,by have:=r.dp;show A.depth+1+3*k+5<_;omega,by have:=r.un;show A.units+3+16*k+200<_;omega⟩
theorem XV{A:Around}{C:Addr}{us:List Value}{z:List (Str×Value)}:(A.under (.builtin "type.__call__" ⟨.ref C::us,z⟩)).depth=A.depth+1:=by
 first | rfl | simp [Around.under,Code.weight,Code.isCreation,Code.isGuard,Code.isCaller,Code.frames,Code.isFrame,guardIds]
theorem XU{A:Around}{C:Addr}{us:List Value}{z:List (Str×Value)}:(A.under (.builtin "type.__call__" ⟨.ref C::us,z⟩)).units=A.units+1:=by
 first | rfl | simp [Around.under,Code.cUnits,Code.frames,Code.isFrame]
theorem Room.make{k:Nat}{A:Around}(r:Room (k+1) A)(C:Addr)(us:List Value)(z:List (Str×Value)):Room k (A.under (.builtin "type.__call__" ⟨.ref C::us,z⟩)):=
 ⟨r.hd,by have:=r.dp;rw [XV];omega,by have:=r.un;rw [XU];omega⟩
theorem Room.depth{k:Nat}{A:Around}(r:Room k A):A.depth<recursionLimit:=by have:=r.dp;omega
def zag:TA:=λ_ H Q=>Q [] H
def yk(ta:TE)(z:TA):TA:=λσ H Q=>ta σ H λx H1=>z σ H1 λxs H2=>Q (x::xs) H2
section
variable{X:Cx}{e:Expr}{es:List Expr}{te:TE}{t:TA}{pos:Pos}
theorem jp:PA X [] zag:=λ_ _ _ _ H Q I h=>zi9 ⟨[],H,I,.nil,h⟩
theorem zF(ha:PE X e te)(z:PA X es t)(J:starEach (e::es) X.env=(false,eval e X.env)::starEach es X.env:=by rfl):PA X (e::es) (yk te t):=by
 intro pos pins s σ H Q I h;rw [J];show wpAny _ _ (spliced ((false,eval e X.env)::backTo pos (starEach es X.env))) _ _ s;refine zis (thn (ha pins s σ H _ I h) λu s1 O=>?_);obtain⟨x,H1,Y,r1,q1⟩:=O;exact thn (z pos pins s1 σ H1 _ Y q1) λus s2 ⟨xs,H2,I2,r2,q2⟩=>⟨x::xs,H2,I2,.cons r1 r2,q2⟩
def zgM(t:TA):TE:=λσ H Q=>t σ H λxs H1=>xs.length<=sizeLine/\∀p,H1 p=none->Q (.ref p) (upd H1 p (.tup xs))
def zgg(t:TA):TE:=λσ H Q=>t σ H λxs H1=>xs.length<=sizeLine/\∀p,H1 p=none->Q (.ref p) (upd H1 p (.lst xs))
theorem zas{x1}(h:PA X es t):PE X (.Tuple es x1 pos) (zgM t):=by
 intro pins s σ H Q I O;refine wpAny_Tuple_spliced (thn (h pos pins s σ H _ I O) λus s1 ⟨xs,H1,J,r,z,q⟩=>⟨by rw [<- r.length];exact z,?_⟩);have Y:H1 s1.heap.objs.size=none:=J.hok.fresh (zhn _);refine⟨.ref s1.heap.objs.size,upd H1 s1.heap.objs.size (.tup xs),J.laid (t':=s1.toks) (λb u e=>zhc _ e) (zhn _) ?_,rfl,q _ Y⟩;exact⟨z,us,r,⟨_,zhw _ rfl,rfl,_,rfl⟩⟩
theorem zau(h:PA X es t):PE X (.List es pos) (zgg t):=by
 intro pins s σ H Q I O;refine wpAny_List_spliced (thn (h pos pins s σ H _ I O) λus s1 ⟨xs,H1,J,r,z,q⟩=>⟨by rw [<- r.length];exact z,?_⟩);have Y:H1 s1.heap.objs.size=none:=J.hok.fresh (zhn _);refine⟨.ref s1.heap.objs.size,upd H1 s1.heap.objs.size (.lst xs),J.laid (t':=s1.toks) (λb u e=>zhc _ e) (zhn _) ?_,rfl,q _ Y⟩;exact⟨z,us,0,r,zhw _ rfl⟩
end
abbrev Sp:=List V->Hp->VK->XK->Prop
abbrev CXT:=List Env->Hp->Shared->XK->Value->Shared->Prop
structure Env0(P:Program)(w:World)(K:PySem.W.Frag)(mg:Str->Option Value)(base:Heap)(A:Around)(outer:List Env)(s:Shared)(H:Hp):Prop where
 frames:A.frames=some outer
 mod:Mod K mg base
 bs : ∀b o,base.get? b=some o->s.heap.get? b=some o/\H b=none
 bsz:base.objs.size<=s.heap.objs.size
 funs:s.heap.FunFrames base outer
 frf : ∀b∈frs outer,H b=none
 hok:HOk P w H s.heap
 bare:AllBare s.gens
def CE(outer:List Env)(P:Program)(w:World)(H:Hp)(s:Shared)(Q:VK)(u:Value)(s':Shared):Prop:=
 ∃v H',s'.os=s.os/\AllBare s'.gens/\Un (frs outer) [] H H' s.heap s'.heap/\HOk P w H' s'.heap/\RelV v u/\Q v H'
def CR(CX:CXT)(outer:List Env)(P:Program)(w:World)(H:Hp)(s:Shared)(Q:VK)(E:XK)(r:Result)(s':Shared):Prop:=
 match r with
 | .ok (.ret u)=>CE outer P w H s Q u s'
 | .ok _=>False
 | .error e=>CX outer H s E e s'
structure FnOk(P:Program)(w:World)(K:PySem.W.Frag)(mg:Str->Option Value)(base:Heap)(CX:CXT)(k:Nat)(f:Addr)(fd:FuncData)(ps:List Str)(sp:Sp):Prop where
 len : ∀vs H Q E,sp vs H Q E->vs.length=ps.length
 run : ∀(A:Around) (outer:List Env) (s:Shared) (H:Hp) (args:Args) (us:List Value) (vs:List V) (Q:VK) (E:XK),Room k A->Env0 P w K mg base A outer s H->BindsTo s fd args (ps.zip us)->Vals vs us->sp vs H Q E->
  codeAny (model P w) A (.call (.ref f) args) (CR CX outer P w H s Q E) s
theorem Env0.make{P:Program}{w:World}{K:PySem.W.Frag}{mg:Str->Option Value}{base:Heap}{A:Around}{outer:List Env}{s:Shared}{H:Hp}(e:Env0 P w K mg base A outer s H)(C:Addr)(us:List Value)(z:List (Str×Value)) :
 Env0 P w K mg base (A.under (.builtin "type.__call__" ⟨.ref C::us,z⟩)) outer s H:=⟨by first | exact e.frames | (simpa [Around.under,Code.envs,Code.isFrame,pushEnvs]using e.frames),e.mod,e.bs,e.bsz,e.funs,e.frf,e.hok,e.bare⟩
section
variable{X:Cx}{pins:List (Addr×Obj)}{σ:St}{H:Hp}{s s':Shared}
theorem Inv.env0(I:Inv X pins σ H s):Env0 X.prog X.w X.K X.mg X.base X.A X.stack s H:=
 ⟨I.ok.frames,I.ok.mod,I.bs,zh3 I.ok.bsz I.sz,I.stack,I.stkFree,I.hok,I.bare⟩
theorem Inv.after{Q:VK}{u:Value}(I:Inv X pins σ H s)(h:CE X.stack X.prog X.w H s Q u s'):EP X pins σ Q u s':=by
 obtain⟨v,H',os,bare,un,hok,r,q⟩:=h;obtain⟨J,g,d,t,O⟩:=s';obtain rfl:O=s.os:=os;exact⟨v,H',I.call (h':=J) (g':=g) (d':=d) (t':=t) (ch:=[]) un hok bare (λb z=>absurd z ⋯),r,q⟩
end
def VQ(sp:Sp)(dvs:List V)(E:XK)(t:TA):TE:=λσ H Q=>t σ H λvs H1=>sp (vs++dvs) H1 Q E
def zfa(C:Addr)(m:Str)(sp:Sp)(dvs:List V)(E:XK)(ta:TE)(t:TA):TE:=λσ H Q=>ta σ H λx H1=>∃a dx fs,x = .ref a/\H1 a=some (.ins C dx fs)/\fs.lookup m=none/\
 t σ H1 λvs H2=>sp (x::(vs++dvs)) H2 Q E
def VP(C:Addr)(sp:Sp)(dvs:List V)(E:XK)(t:TA):TE:=λσ H Q=>t σ H λvs H1=>∀x dx,H1 x=none->H1 dx=none->dx≠x->
 sp (.ref x::(vs++dvs)) (upd (upd H1 dx (.own x)) x (.ins C dx [])) (λv H2=>v = .non/\Q (.ref x) H2) E
def Binds(K:PySem.W.Frag)(fd:FuncData)(ps:List Str)(ds:List Value):Prop:=
 ∀(s:Shared) (us:List Value),K.In s.heap->(us++ds).length=ps.length->BindsTo s fd ⟨us,[]⟩ (ps.zip (us++ds))
theorem Binds.all{K:PySem.W.Frag}{fd:FuncData}{ps:List Str}(h : ∀us:List Value,us.length=ps.length->bindArgs fd ⟨us,[]⟩=pure (ps.zip us)):Binds K fd ps []:=λs us _ z=>by
 rw [zjE]at z ⊢;exact .of_eq (h us z)
def wu(CX:CXT)(X:Cx)(E:XK):Prop:=∀(pins:List (Addr×Obj)) (σ:St) (H:Hp) (s:Shared) (e:Value) (s':Shared),Inv X pins σ H s->CX X.stack H s E e s'->X.xe e s'
section
variable{X:Cx}{CX:CXT}{k:Nat}{f C:Addr}{fd:FuncData}{ps:List Str}{sp:Sp}{dvs:List V}{ds:List Value}{E:XK}{x m:Str}{p pos apos:Pos}{e o:Expr}{es:List Expr}{ta:TE}{t:TA}
theorem zaj{pins:List (Addr×Obj)}{σ:St}{H:Hp}{s:Shared}{Q:VK}{us:List Value}{vs:List V}(F:FnOk X.prog X.w X.K X.mg X.base CX k f fd ps sp)(J:Room k X.A)(O:Binds X.K fd ps ds)(hd:Vals dvs ds)(hx:wu CX X E)
 (I:Inv X pins σ H s) (r:Vals vs us) (h:sp (vs++dvs) H Q E):wpAny (model X.prog X.w) X.A (call (.ref f) us) (EP X pins σ Q) X.xe s:=by
 have r2:Vals (vs++dvs) (us++ds):=r.append hd;have Y:(us++ds).length=ps.length:=by rw [<- r2.length];exact F.len _ _ _ _ h
 refine wpAny_call (zkh (F.run X.A X.stack s H ⟨us,[]⟩ (us++ds) (vs++dvs) Q E J I.env0 (O s us I.kIn Y) r2 h) λr s' z=>?_);cases r with
 | error e=>exact hx pins σ H s e s' I z
 | ok fl=>
  cases fl with
  | ret u=>exact I.after z
  | next=>exact ziR z
  | brk=>exact ziR z
  | cont=>exact ziR z
theorem xt(F:FnOk X.prog X.w X.K X.mg X.base CX k f fd ps sp)(J:Room k X.A)(O:Gl X x)(hm:X.mg x=some (.ref f))(Y:PySem.W.keepIn X.K (.ref f)=true)(hb:Binds X.K fd ps ds)(hd:Vals dvs ds)(hx:wu CX X E)
 (ha:PA X (e::es) t) (a1:(x==("__debug__" : Str))=false:=by decide) (he:starEach (e::es) X.env=(false,eval e X.env)::starEach es X.env:=by rfl) (a2:(backTo pos (starEach es X.env)).any (·.1)=false:=by rfl) :
 PE X (.Call (.Name x p) (e::es) [] pos) (VQ sp dvs E t):=by
 intro pins s σ H Q I h;refine zja (Yy I O hm ?_ a1);refine zkc (h₀:=X.base) I.ok.mod.kin Y (thn (ha pos pins s σ H _ I h) λus s1 ⟨vs,H1,z,r,q⟩=>⟨z.kIn,?_⟩) he a2;exact zaj F J hb hd hx z r q
theorem zbz{pl:Sem Bool}(he:PE X o ta)(c:Cls X.K C)(hm:Meth X.K C m f)(F:FnOk X.prog X.w X.K X.mg X.base CX k f fd ps sp)(Y:Room k X.A)(hb:Binds X.K fd ps ds)(hd:Vals dvs ds)(hx:wu CX X E)(ha:PA X (e::es) t)
 (a1:starEach (e::es) X.env=(false,eval e X.env)::starEach es X.env:=by rfl) (a2:(backTo pos (starEach es X.env)).any (·.1)=false:=by rfl)
 (ht:eval (.Call (.Attribute o m apos) (e::es) [] pos) X.env=(do
   let z <- eval o X.env
   standAt apos.atName
   let (f,first) <- holding [z] (getMethod z m pl)
   callWith pos f first (backTo pos (starEach (e::es) X.env)) (backToKw pos (keywordEach [] X.env))):=by rfl) :
 PE X (.Call (.Attribute o m apos) (e::es) [] pos) (zfa C m sp dvs E ta t):=by
 intro pins s σ H Q I h;refine PySem.W.methodCall_KW (pl:=pl) (thn (he pins s σ H _ I h) λu s1 hZ=>?_) ht;obtain⟨x,H1,J,rx,a,dx,fs,ex,ea,l,q⟩:=hZ;subst ex;obtain rfl:u=zhH a:=rx;refine X6 J ea c hm l ?_;refine zkc (first:=[.ref a]) (h₀:=X.base) I.ok.mod.kin hm.kp (thn (ha pos pins s1 σ H1 _ J q) λus s2 ⟨vs,H2,O,r,q2⟩=>⟨O.kIn,?_⟩) a1 a2;exact zaj (us:= .ref a::us) (vs:= .ref a::vs) F Y hb hd hx O (.cons rfl r) q2
structure Mk(K:PySem.W.Frag)(C f:Addr):Prop where
 makes:PySem.W.makesIn K C=true
 init:PySem.W.findIn K (.ref C) "__init__" = some (some (.ref f))
 fn:PySem.W.isFn K (.ref f)=true
 kp:PySem.W.keepIn K (.ref C)=true
theorem V1{pins:List (Addr×Obj)}{σ:St}{H:Hp}{s:Shared}{Q:VK}{us:List Value}{vs:List V}(M:Mk X.K C f)(F:FnOk X.prog X.w X.K X.mg X.base CX k f fd ps sp)(Y:Room (k+1) X.A)(hb:Binds X.K fd ps ds)(hd:Vals dvs ds)
 (hx:wu CX X E) (I:Inv X pins σ H s) (r:Vals vs us)
 (h : ∀x dx,H x=none->H dx=none->dx≠x->sp (.ref x::(vs++dvs)) (upd (upd H dx (.own x)) x (.ins C dx [])) (λv H2=>v = .non/\Q (.ref x) H2) E) :
 wpAny (model X.prog X.w) X.A (call (.ref C) us) (EP X pins σ Q) X.xe s:=by
 have O:=h (s.heap.objs.size+1) s.heap.objs.size (I.hok.fresh (zkm _)) (I.hok.fresh (zhn _)) (zhG (zir _));have J:=Inv.made (C:=C) I;have r2:Vals (V.ref (s.heap.objs.size+1)::(vs++dvs)) (zhH (s.heap.objs.size+1)::(us++ds)):= .cons rfl (r.append hd);have hl:(zhH (s.heap.objs.size+1)::us++ds).length=ps.length:=by
  have e:=r2.length;rw [F.len _ _ _ _ O]at e;exact e.symm
 refine wpAny_call (Wz (f:=f) I.kIn M.makes M.init (beq_iff_eq.mp M.fn) (zkh (F.run _ X.stack _ _ ⟨zhH (s.heap.objs.size+1)::us,[]⟩ (zhH (s.heap.objs.size+1)::(us++ds)) _ _ E (Y.make C us [])
  (J.env0.make C us []) (hb _ (zhH (s.heap.objs.size+1)::us) J.kIn hl) r2 O) λr s' z=>?_))
 cases r with
 | error e=>exact hx pins σ _ _ e s' J z
 | ok fl=>
  cases fl with
  | ret u=>
   obtain⟨v,H',I3,rv,ev,q3⟩:=J.after z;subst ev;exact⟨rv,⟨V.ref (s.heap.objs.size+1),H',I3,rfl,q3⟩⟩
  | next=>exact ziR z
  | brk=>exact ziR z
  | cont=>exact ziR z
theorem Yf(M:Mk X.K C f)(F:FnOk X.prog X.w X.K X.mg X.base CX k f fd ps sp)(J:Room (k+1) X.A)(O:Gl X x)(hm:X.mg x=some (.ref C))(Y:Binds X.K fd ps ds)(hd:Vals dvs ds)(hx:wu CX X E)
 (ha:PA X (e::es) t) (a0:(x==("__debug__" : Str))=false:=by decide) (he:starEach (e::es) X.env=(false,eval e X.env)::starEach es X.env:=by rfl) (a1:(backTo pos (starEach es X.env)).any (·.1)=false:=by rfl) :
 PE X (.Call (.Name x p) (e::es) [] pos) (VP C sp dvs E t):=by
 intro pins s σ H Q I h;refine zja (Yy I O hm ?_ a0);refine zkc (h₀:=X.base) I.ok.mod.kin M.kp (thn (ha pos pins s σ H _ I h) λus s1 ⟨vs,H1,z,r,q⟩=>⟨z.kIn,?_⟩) he a1;exact V1 M F J Y hd hx z r q
end
structure FnScope(N P:List Str)(sc:Scope):Prop where
 kind:sc.kind = .function
 co:sc.isCoroutine=false
 gen:sc.isGenerator=false
 nd:N.Nodup
 pre:N.take P.length=P
 par : ∀x∈P,sc.names.lookup x=some .local\/sc.names.lookup x=some .cell
 nofree : ∀y∈sc.names,y.2 ≠ .free
theorem Jj{kindOf:Str->Option NameKind}{x:Str} : ∀{binds:List (Str×Value)} {m:Str->Option Value},(∀v,(x,v)∉binds)->bindL kindOf binds m x=m x
 | [],_,_=>rfl
 | (n,v)::r,m,h=>by
  unfold bindL;rw [Jj λw hw=>h w (zhs _ hw)];split
  ·have:x≠n:=by rintro rfl;exact h v zhq
   simp [this]
  ·rfl
theorem Jm{kindOf:Str->Option NameKind}{x:Str} : ∀{binds:List (Str×Value)} {m:Str->Option Value},(∀v,(x,v)∉binds)->bindC kindOf binds m x=m x
 | [],_,_=>rfl
 | (n,v)::r,m,h=>by
  unfold bindC;rw [Jm λw hw=>h w (zhs _ hw)];split
  ·rfl
  ·have:x≠n:=by rintro rfl;exact h v zhq
   simp [this]
theorem Jk{kindOf:Str->Option NameKind}{x:Str}{v:Value} : ∀{P:List Str} {vs:List Value} {i:Nat} {m:Str->Option Value},P.Nodup->P[i]? = some x->vs[i]? = some v->kindOf x=some .local->
 bindL kindOf (P.zip vs) m x=some v
 | [],_,_,_,_,h,_,_=>by simp at h
 | _::_,[],_,_,_,_,h,_=>by simp at h
 | p::P,w::vs,0,m,nd,h1,h2,hk=>by
  simp at h1 h2;subst h1;subst h2;show bindL kindOf ((p,w)::P.zip vs) m p=_;unfold bindL;rw [Jj λv z=>(zit.mp nd).1 (List.of_mem_zip z).1,if_pos hk];simp
 | p::P,w::vs,i+1,m,nd,h1,h2,hk=>by
  show bindL kindOf ((p,w)::P.zip vs) m x=_;unfold bindL;exact Jk (i:=i) (zit.mp nd).2 (by simpa using h1) (by simpa using h2) hk
theorem Jn{kindOf:Str->Option NameKind}{x:Str}{v:Value} : ∀{P:List Str} {vs:List Value} {i:Nat} {m:Str->Option Value},P.Nodup->P[i]? = some x->vs[i]? = some v->kindOf x≠some .local->
 bindC kindOf (P.zip vs) m x=some v
 | [],_,_,_,_,h,_,_=>by simp at h
 | _::_,[],_,_,_,_,h,_=>by simp at h
 | p::P,w::vs,0,m,nd,h1,h2,hk=>by
  simp at h1 h2;subst h1;subst h2;show bindC kindOf ((p,w)::P.zip vs) m p=_;unfold bindC;rw [Jm λv z=>(zit.mp nd).1 (List.of_mem_zip z).1,if_neg hk];simp
 | p::P,w::vs,i+1,m,nd,h1,h2,hk=>by
  show bindC kindOf ((p,w)::P.zip vs) m x=_;unfold bindC;exact Jn (i:=i) (zit.mp nd).2 (by simpa using h1) (by simpa using h2) hk
def start(N:List Str)(vs:List V):St:=vs.map some++zhm (N.length - vs.length) none
def zb3(CX:CXT)(P:Program)(w:World)(K:PySem.W.Frag)(mg:Str->Option Value)(base:Heap)(N:List Str)(qual:Str)(scope:Scope)(f:Addr)(z:Value)(A:Around)(outer:List Env)(s:Shared)(H:Hp)(E:XK):Cx where
 prog:=P
 w:=w
 K:=K
 mg:=mg
 base:=base
 A:=A.deeper (envOfC qual scope s.heap.objs.size f z)
 N:=N
 s₀:=s
 H₀:=H
 env:=envOfC qual scope s.heap.objs.size f z
 outer:=outer
 stack:=envOfC qual scope s.heap.objs.size f z::outer
 ex:=[]
 calm:=true
 fn:=λ_=>true
 pn:=[]
 xe:=λe s'=>wpAny (model P w) (A.deeper (envOfC qual scope s.heap.objs.size f z)) (leaving (envOfC qual scope s.heap.objs.size f z) e) (λ_ I=>CX outer H s E e I) (λJ I=>CX outer H s E J I) s'
theorem Xd{sc:Scope}{n:Nat}{x:Str}(h:sc.names.lookup x=some .cell) : ∃c,(cellsFrom n sc.names []).lookup x=some c:=by
 have q:=zjl sc.names n [] (.inl h);exact ziF.mp q
theorem YB{CX:CXT}{P:Program}{w:World}{K:PySem.W.Frag}{mg:Str->Option Value}{base:Heap}{N ps:List Str}{qual:Str}{scope:Scope}{f:Addr}{Y:Value}{A:Around}{outer:List Env}{s s1:Shared}{H:Hp}{E:XK}{us:List Value}{vs:List V}
 (S:FnScope N ps scope) (hd:A.handled=none) (I:Env0 P w K mg base A outer s H) (hl:vs.length=ps.length) (r:Vals vs us)
 (x:InCallC s s.heap.objs.size (bindL (envOfC qual scope s.heap.objs.size f Y).kindOf (ps.zip us) λ_=>none) (cellsFrom (s.heap.objs.size+1) scope.names []) (bindC (envOfC qual scope s.heap.objs.size f Y).kindOf (ps.zip us) λ_=>none) s1) :
 Inv (zb3 CX P w K mg base N qual scope f Y A outer s H E) [] (start N vs) H s1:=by
 have a6:ps.length<=N.length:=by have:=congrArg ziQ S.pre;rw [ziG]at this;omega
 obtain⟨h1,tk,rfl,hk⟩:=x.done;have a0 : ∀b:Addr,b∉(zb3 CX P w K mg base N qual scope f Y A outer s H E).ex:=λb z=>absurd (show b∈([]:List Addr)from z) ⋯;refine⟨⟨I.mod,S.kind,rfl,rfl,zhn _,λy z c h1 h2=>?_,λy J=>?_,λy c _ h=>?_,λ_=>hd,Around.frames_deeper I.frames,.inr ⟨rfl,rfl⟩,λb z=>absurd z (a0 b),I.bs,I.bsz,λb _ _=>a0 b,λb z=>absurd z (a0 b),I.funs,I.frf⟩,
  rfl,I.bare,Un.kept hk,⟨_,x.toInCall.ns,λi y v h1 h2 h3=>?_⟩,λy c h=>⟨_,x.cell y c h⟩,I.hok.fresh (zhn _),λy c h=>?_,λp O=>absurd (show p∈([]:List (Addr×Obj))from O) ⋯,I.hok.kept hk,?_⟩
 ·exact name_of_addr x.apart (zjf h1) (zjf h2)
 ·have J:scope.names.lookup y=some .cell\/scope.names.lookup y=some .free:=J
  rcases J with J | J
  ·exact Xd J
  ·exact absurd rfl (S.nofree _ (zjf J))
 ·exact zj9 (x.above y c (zjf h))
 ·have hi:i<vs.length:=by
   unfold start at h2;by_cases hi:i<vs.length
   ·exact hi
   ·rw [zhS (by simpa using hi)]at h2
    rw [zjo]at h2;split at h2<;>cases h2
  have ha:vs[i]? = some v:=by
   unfold start at h2;rw [zhL (by simpa using hi),zhz]at h2;cases e:vs[i]? with
   | none=>rw [e]at h2;cases h2
   | some a=>rw [e]at h2;cases h2;rfl
  obtain⟨u,hu,rv⟩:=r.get ha;have O:ps[i]? = some y:=by
   rw [<- S.pre,List.getElem?_take_of_lt ⋯];exact h1
  have a3:ps.Nodup:=by rw [<- S.pre];exact S.nd.sublist (List.take_sublist _ _)
  refine⟨u,rv,?_⟩;rcases S.par y (zhE O)with k | k
  ·exact .inl ⟨k,Jk a3 O hu k⟩
  ·obtain⟨c,e⟩:=Xd (n:=s.heap.objs.size+1) k
   refine .inr ⟨.inl k,c,e,?_⟩;have q:=x.cell y c e;rw [Jn a3 O hu (by show scope.names.lookup y≠_;rw [k];decide)]at q;exact q
 ·exact I.hok.fresh (zj9 (x.above y c (zjf h)))
 ·unfold start
  show _=N.length;rw [zhQ,zhB,List.length_replicate];omega
theorem zfI{CX:CXT}{P:Program}{w:World}{K:PySem.W.Frag}{mg:Str->Option Value}{base:Heap}{k:Nat}{f:Addr}{name qual:Str}{a1:Arguments}{body:List Stmt}{scope:Scope}{dV kV doc pm cdv ct oc:Value}{an od:Option Addr}
 {osl:Array (Option Value)} {N ps:List Str} {sp:Sp} (lk:K.lookup f=some ⟨oc,od,.func (PySem.W.fnOf name qual a1 body scope dV kV doc pm an cdv ct),osl⟩) (a6:PySem.W.codeIn K cdv qual=true) (S:FnScope N ps scope)
 (len : ∀vs H Q E,sp vs H Q E->vs.length=ps.length)
 (a7 : ∀(A:Around) (outer:List Env) (s:Shared) (H:Hp) (vs:List V) (Q:VK) (E:XK),Room k (A.deeper (envOfC qual scope s.heap.objs.size f cdv))->sp vs H Q E->
   ∃t,PSs (zb3 CX P w K mg base N qual scope f cdv A outer s H E) body t/\t {nx:=λ_ H'=>Q .non H',rt:=Q} (start N vs) H) :
 FnOk P w K mg base CX (k+1) f (PySem.W.fnOf name qual a1 body scope dV kV doc pm an cdv ct) ps sp:=by
 refine⟨len,λA outer s H args us vs Q E Y O hb r a3=>?_⟩;have hl:=len _ _ _ _ a3;have KX:K.In s.heap:=O.mod.kin.keeps λb o e=>(O.bs b o e).1;have lim:s.heap.NoLimit:=O.mod.nolimit.keeps λb o e=>(O.bs b o e).1;have aa : ∀y∈ps.zip us,scope.names.lookup y.1=some .local\/(scope.names.lookup y.1=some .cell/\((cellsFrom (s.heap.objs.size+1) scope.names []).lookup y.1).isSome=true):=λ⟨n,v⟩ hy=>by
  rcases S.par n (List.of_mem_zip hy).1 with q | q
  ·exact .inl q
  ·exact .inr ⟨q,zjl _ _ _ (.inl q)⟩
 refine codeAny_call_function Y.depth (KX _ _ lk) rfl S.co S.gen rfl (PySem.W.codeRec_of KX a6) (hb _ _ _ _ ?_);refine wpAny_newFunctionEnv_cells S.kind aa λenv he s1 x=>?_;subst he;refine⟨lim.keeps x.toInCall.keep,codeAny_func ?_⟩;obtain⟨t,ht,hq⟩:=a7 A outer s H vs Q E (Y.deeper _) a3;have I:Inv (zb3 CX P w K mg base N qual scope f cdv A outer s H E) [] (start N vs) H s1:=YB S Y.hd O hl r x;refine ziZ (ht [] s1 (start N vs) H _ I hq) (λfl s' z=>?_) λe s' z=>z;have a5 : ∀{σ':St} {H':Hp} {v:V} {u:Value},Inv (zb3 CX P w K mg base N qual scope f cdv A outer s H E) [] σ' H' s'->RelV v u->Q v H'->CE outer P w H s Q u s':=
  λ{σ' H' v u} J rv q=>⟨v,H',J.os,J.bare,J.base,J.hok,rv,q⟩
 cases fl with
 | ret u=>
  obtain⟨v,σ',H',J,rv,q⟩:=z;exact a5 J rv q
 | next=>
  obtain⟨σ',H',J,q⟩:=z;exact a5 (v:=V.non) (u:=zh7) J rfl q
 | brk=>
  obtain⟨_,_,_,q⟩:=z;exact ziR q
 | cont=>
  obtain⟨_,_,_,q⟩:=z;exact ziR q
section
variable{X:Cx}{x:Str}{p pos:Pos}{e:Expr}{es:List Expr}{t:TA}{id T:String}{r:List V->Hp->VK->Prop}
def tCB(r:List V->Hp->VK->Prop)(t:TA):TE:=λσ H Q=>t σ H λvs H1=>r vs H1 Q
theorem qP(z:vB X (.builtin id) r)(J:Gl X x)(hm:X.mg x=none)(O:bootBuiltins x=some (.builtin id))(ha:PA X (e::es) t)(hn:x ≠ "__name__":=by decide)(Y:(x==("__debug__" : Str))=false:=by decide)
 (he:starEach (e::es) X.env=(false,eval e X.env)::starEach es X.env:=by rfl) (a0:(backTo pos (starEach es X.env)).any (·.1)=false:=by rfl):PE X (.Call (.Name x p) (e::es) [] pos) (tCB r t):=by
 intro pins s σ H Q I h;refine zja (qJ I J hm O ?_ hn Y);exact zjj (thn (ha pos pins s σ H _ I h) λus s1 ⟨vs,H1,I1,r1,q1⟩=>z pins s1 σ H1 vs us Q I1 r1 q1) he a0
theorem ZT(z:vB X (.type T) r)(J:Gl X x)(hm:X.mg x=none)(O:bootBuiltins x=some (.type T))(ha:PA X (e::es) t)(hn:x ≠ "__name__":=by decide)(Y:(x==("__debug__" : Str))=false:=by decide)
 (he:starEach (e::es) X.env=(false,eval e X.env)::starEach es X.env:=by rfl) (a0:(backTo pos (starEach es X.env)).any (·.1)=false:=by rfl):PE X (.Call (.Name x p) (e::es) [] pos) (tCB r t):=by
 intro pins s σ H Q I h;refine zja (qJ I J hm O ?_ hn Y);exact zh2 (thn (ha pos pins s σ H _ I h) λus s1 ⟨vs,H1,I1,r1,q1⟩=>z pins s1 σ H1 vs us Q I1 r1 q1) he a0
end
end L2
namespace HT
open PySem PyProof.Rows
section
variable{prog:Program}{w:World}{A:Around}{E:Value->Shared->Prop}{s:Shared}
theorem cat_tup{t b:Addr}{vs z:List Value}{Q:Value->Shared->Prop}(ht:IsTup s.heap t vs.toArray)(hb:IsTup s.heap b z.toArray)(O:vs ≠ [])
 (h1:z=[]->Q (.ref t) s) (h2:z ≠ []->Q (.ref s.heap.objs.size) {s with heap:=s.heap.push {cls:= .type "tuple",data:= .seq (vs++z).toArray}})
 (hsz:vs.length+z.length<=sizeLine):wpAny (model prog w) A (binaryOp .Add (.ref t) (.ref b)) Q E s:=by
 obtain⟨⟨cls,Y,data,sl⟩,I,hc,n,hd⟩:=id ht;obtain⟨⟨a7,a1,data2,a2⟩,J,a3,n2,a4⟩:=id hb;simp only at hc hd a3 a4;subst hc hd a3 a4;have e:vs.toArray++z.toArray=(vs++z).toArray:=by simp
 by_cases hw:z=[]
 ·exact zkO ⟨_,I,rfl⟩ ⟨_,J,rfl⟩ zkP seq_tuple_add zjU zjR (zjK _ _)
   (tuple_addW1 t b vs.toArray z.toArray n n2 Y a1 sl a2 (by simpa using O) (by simp [hw])) ⟨I,J,h1 hw⟩
 ·refine zkO ⟨_,I,rfl⟩ ⟨_,J,rfl⟩ zkP seq_tuple_add zjU zjR (zjK _ _)
   (tuple_addW2 t b vs.toArray z.toArray n n2 Y a1 sl a2 (by simpa using O) (by simpa using hw) (by rw [zho,zho];exact hsz)) ⟨I,J,?_⟩
  rw [e];exact h2 hw
def sIx(n d:Nat):Option Int->Nat
 | none=>d
 | some v=>if v<0 then (v+(n:Int)).toNat else min v.toNat n
theorem zcW(n d:Nat)(hd:d<=n)(o:Option Int):sIx n d o<=n:=by
 cases o with
 | none=>exact hd
 | some v=>
  show(if v<0 then (v+(n:Int)).toNat else min v.toNat n)<=n;by_cases z:v<0
  ·rw [if_pos z];omega
  ·rw [if_neg z];exact zkL _ _
theorem YY(v:Int)(n d:Nat):(if v<0 then max (v+(n:Int)) 0 else min v (n:Int))=((sIx n d (some v):Nat):Int):=by
 show(if v<0 then max (v+(n:Int)) 0 else min v (n:Int))=(((if v<0 then (v+(n:Int)).toNat else min v.toNat n):Nat):Int);by_cases z:v<0
 ·simp only [if_pos z];omega
 ·simp only [if_neg z];omega
theorem Kg(lo hi:Option Int)(n:Nat):zjx lo hi 1 (n:Int)=(((sIx n 0 lo:Nat):Int),((sIx n n hi:Nat):Int)):=by
 have h1 : ¬((1:Int)<0):=by omega
 unfold zjx;simp only [h1,if_false];refine Prod.ext ?_ ?_
 ·cases lo with
  | none=>rfl
  | some v=>exact YY v n 0
 ·cases hi with
  | none=>rfl
  | some v=>exact YY v n n
theorem XL(i j:Nat):zi3 (i:Int) (j:Int) 1=j - i:=by
 unfold zi3;have h1:(1:Int)>0:=by omega
 simp only [h1,if_true,Int.ediv_one];split<;>omega
theorem v0{v:Value}{o:Option Int}{Q:Option Int->Shared->Prop}(p:IsPart v o)(h:Q o s):wpAny (model prog w) A (Builtin.Slice.slicePartIndex v) Q E s:=by
 cases p with
 | none=>exact slicePart_none h
 | int i t=>exact slicePart_int h
theorem sliceApplied_gen{sl:Addr}{z I:Value}{lo hi:Option Int}{n:Nat}{Q:Int×Int×Nat->Shared->Prop}(Y:s.heap.IsSliceOf sl z I .none)(pl:IsPart z lo)(pu:IsPart I hi)
 (h:Q (((sIx n 0 lo:Nat):Int),1,sIx n n hi - sIx n 0 lo) s):wpAny (model prog w) A (Builtin.Slice.sliceApplied (.ref sl) (pure (n:Int))) Q E s:=by
 obtain⟨os,J,a1,O⟩:=id Y;unfold Builtin.Slice.sliceApplied Builtin.Slice.sliceFields;refine zhb (zhb (ziE J O (x:=z) rfl (zhb (ziE J O (x:=I) rfl (zhb (ziE J O (x:= .none) rfl (zhi ?_)))))));refine zhb (slicePart_none ?_);show wpAny _ _ (if ((1:Int)==0)=true then _ else _) _ _ s;rw [if_neg ⋯];refine zhb (v0 pl (zhb (v0 pu (zhb (zhi ?_)))));show wpAny _ _ (match zjx lo hi 1 (n:Int)with | (lo,hi)=>pure (lo,(1:Int),zi3 lo hi 1)) _ _ s;rw [Kg lo hi n];show wpAny _ _ (pure (((sIx n 0 lo:Nat):Int),(1:Int),zi3 ((sIx n 0 lo:Nat):Int) ((sIx n n hi:Nat):Int) 1)) _ _ s;rw [XL];exact zhi h
theorem Wl(xs:Array Value)(i k:Nat):((zhf k).filterMap λ(m:Nat)=>xs[((i:Int)+(m:Int)*1).toNat]?).toArray=((xs.toList.drop i).take k).toArray:=by
 have e:(λ(m:Nat)=>xs[((i:Int)+(m:Int)*1).toNat]?)=λm=>xs[i+m]? :=by
  funext m;have:((i:Int)+(m:Int)*1).toNat=i+m:=by omega
  rw [this]
 rw [e];have:=pick_run xs i k;rw [List.filterMap_map]at this;have e2:((λx=>xs[x]?)∘λx=>i+x)=λm=>xs[i+m]? :=rfl;rw [e2]at this;rw [this]
theorem getItem_tuple_cut{t sl:Addr}{items:Array Value}{J O:Value}{lo hi:Option Int}{Q:Value->Shared->Prop}(z:IsTup s.heap t items)(Y:s.heap.IsSliceOf sl J O .none)(pl:IsPart J lo)(pu:IsPart O hi)
 (hw : ¬(sIx items.size 0 lo=0/\sIx items.size items.size hi=items.size))
 (h:Q (.ref s.heap.objs.size) {s with heap:=s.heap.push {cls:= .type "tuple",data:= .seq ((items.toList.drop (sIx items.size 0 lo)).take (sIx items.size items.size hi - sIx items.size 0 lo)).toArray}})
 (hsz:items.size<=sizeLine):wpAny (model prog w) A (getItem (.ref t) (.ref sl)) Q E s:=by
 have I:sizeOk (.seq ((items.toList.drop (sIx items.size 0 lo)).take (sIx items.size items.size hi - sIx items.size 0 lo)).toArray):=by
  show((items.toList.drop (sIx items.size 0 lo)).take (sIx items.size items.size hi - sIx items.size 0 lo)).toArray.size<=sizeLine;rw [zho,ziG,List.length_drop,ziK];omega
 have hj:sIx items.size items.size hi<=items.size:=zcW _ _ (zhn _) hi;obtain⟨os,a1,a2,a6⟩:=id Y;have a3:s.TypeIs (.ref sl) "slice":=⟨os,a1,a2⟩;unfold getItem
 try with_reducible refine ziv ?_
 first | refine zhb (zhi ?_) | skip
 refine zhb (wpAny_sequenceKey z.typeIs ⋯ ?_);refine zhb (ziw (name:=zii "__getitem__") z.typeIs zig
  (ziI zig z.typeIs entry_tuple_getitem ?_ (args_tuple_getitem _ _)))
 show wpAny _ _ (Builtin.Tuple.tupleItemsOf (.ref t) >>= _) _ _ s;refine zhb (zj6 z ?_);refine zhb (zjW a3 ?_);rw [if_pos ⋯];refine zhb (sliceApplied_gen Y pl pu ?_);have a4 : ¬((((sIx items.size 0 lo:Nat):Int)==0 && (1:Int)==1 && (sIx items.size items.size hi - sIx items.size 0 lo)==items.size)=true):=by
  intro q;rw [Bool.and_eq_true,Bool.and_eq_true]at q;have q1:((sIx items.size 0 lo:Nat):Int)=0:=eq_of_beq q.1.1;have q2:sIx items.size items.size hi - sIx items.size 0 lo=items.size:=eq_of_beq q.2;exact hw ⟨by omega,by omega⟩
 show wpAny _ _ (if (((sIx items.size 0 lo:Nat):Int)==0 && (1:Int)==1 && (sIx items.size items.size hi - sIx items.size 0 lo)==items.size)=true then _ else _) _ _ s;rw [if_neg a4,Wl]
 first
  | exact zhb (m:=ziy _) (zij (zhi ⟨_,rfl,zhi h⟩) I)
  | exact zhb (m:=ziy _) (zij (zhb (zhi (zhi ⟨_,rfl,zhi h⟩))) I)
  | exact zhb (zhb (m:=ziy _) (zij (zhi (zhi ⟨_,rfl,zhi h⟩)) I))
  | exact zhb (zhb (m:=ziy _) (zij (zhi ⟨_,rfl,zhi h⟩) I))
end
end HT
namespace L2
open PySem PySem.Spec PyProof.Rows
abbrev TO:=St->Hp->(Option Int->Hp->Prop)->Prop
def PO(X:Cx)(e:Option Expr)(t:TO):Prop:=
 ∀(pins:List (Addr×Obj)) (s:Shared) (σ:St) (H:Hp) (Q:Option Int->Hp->Prop),Inv X pins σ H s->t σ H Q->
  wpAny (model X.prog X.w) X.A (evalPart e X.env) (λu s'=>∃o H',Inv X pins σ H' s'/\IsPart u o/\Q o H') X.xe s
def zaY:TO:=λ_ H Q=>Q none H
def ze6(t:TE):TO:=λσ H Q=>t σ H λx H1=>∃i,x = .int i/\Q (some i) H1
section
variable{X:Cx}{e:Expr}{te:TE}{lo hi:Option Expr}{tl th:TO}{pos p2:Pos}
theorem zbt:PO X none zaY:=by
 intro pins s σ H Q I h;rw [evalPart_none];exact zhi ⟨none,H,I,.none,h⟩
theorem zbs(h:PE X e te):PO X (some e) (ze6 te):=by
 intro pins s σ H Q I hw;rw [evalPart_some];refine thn (h pins s σ H _ I hw) λu s1 z=>?_;obtain⟨x,H1,J,O,Y⟩:=z;obtain⟨i,rfl,q⟩:=Y;obtain⟨t,rfl⟩:=O;exact⟨some i,H1,J,.int i t,q⟩
def SlR(X:Cx)(r:V->Option Int->Option Int->Hp->VK->Prop):Prop:=
 ∀(pins:List (Addr×Obj)) (s:Shared) (σ:St) (H:Hp) (x:V) (v z I:Value) (lo hi:Option Int) (sl:Addr) (Q:VK),Inv X pins σ H s->RelV x v->s.heap.IsSliceOf sl z I .none->IsPart z lo->IsPart I hi->r x lo hi H Q->
  ∃T id,typeLookup (.type T) "__getitem__" = pure (some (.builtin id))/\s.TypeIs v T/\wpAny (model X.prog X.w) X.A (getItem v (.ref sl)) (EP X pins σ Q) X.xe s
def tSl(r:V->Option Int->Option Int->Hp->VK->Prop)(te:TE)(tl th:TO):TE:=λσ H Q=>te σ H λx H1=>tl σ H1 λl H2=>th σ H2 λu z=>r x l u z Q
theorem Wo{r:V->Option Int->Option Int->Hp->VK->Prop}(hr:SlR X r)(he:PE X e te)(hl:PO X lo tl)(hu:PO X hi th):PE X (.Subscript e (.Slice lo hi none p2) pos) (tSl r te tl th):=by
 intro pins s σ H Q I h;refine Subscript_ (thn (he pins s σ H _ I h) λv s1 hZ=>?_);obtain⟨x,H1,I1,r1,q1⟩:=hZ;refine wpAny_Slice (thn (hl pins s1 σ H1 _ I1 q1) λJ s2 ⟨l,H2,I2,pl,q2⟩=>thn (hu pins s2 σ H2 _ I2 q2) λO z ⟨u,Y,I3,pu,q3⟩=>?_);rw [evalPart_none];refine zhi ?_;have I4:Inv X pins σ Y {z with heap:=z.heap.push {cls:= .type "slice",data:= .fields #[J,O,.none]}}:=I3.kept (t':=z.toks) λb ob q=>zhc _ q;obtain⟨T,id,hT,ht,hg⟩:=hr pins {z with heap:=z.heap.push {cls:= .type "slice",data:= .fields #[J,O,.none]}} σ Y x v J O l u z.heap.objs.size Q I4 r1 (Heap.IsSliceOf.new ..) pl pu q3;show wpAny (model X.prog X.w) X.A (subscriptTail e (.Slice lo hi none p2) v (.ref z.heap.objs.size)) (EP X pins σ Q) X.xe {z with heap:=z.heap.push {cls:= .type "slice",data:= .fields #[J,O,.none]}};exact tail_any (ops:=[.ref z.heap.objs.size,v]) ht hT hg (by with_unfolding_all rfl)
def zb4(xs:List V)(lo hi:Option Int):List V:=(xs.drop (HT.sIx xs.length 0 lo)).take (HT.sIx xs.length xs.length hi - HT.sIx xs.length 0 lo)
theorem JZ(xs:List V)(lo hi:Option Int):(zb4 xs lo hi).length<=xs.length:=by
 unfold zb4;rw [ziG,List.length_drop];omega
def zgS(K:PySem.W.Frag):V->Option Int->Option Int->Hp->VK->Prop:=λx lo hi H Q=>∃a xs,x = .ref a/\SqT K H a xs/\
 ¬(HT.sIx xs.length 0 lo=0/\HT.sIx xs.length xs.length hi=xs.length)/\∀p,H p=none->Q (.ref p) (upd H p (.tup (zb4 xs lo hi)))
theorem zcQ:SlR X (zgS X.K):=by
 intro pins s σ H x v vl vu lo hi sl Q I Y hs pl pu h;obtain⟨a,xs,rfl,hx,hw,q⟩:=h;cases Y;obtain⟨a2,r,J,O⟩:=I.tuple hx;have z:a2.toArray.size=xs.length:=by rw [zho];exact r.length.symm
 refine⟨"tuple",_,zig.lookup,J.typeIs,?_⟩;refine HT.getItem_tuple_cut J hs pl pu (by rw [z];exact hw) ?_ (by rw [z];exact O);rw [z];refine⟨.ref s.heap.objs.size,_,I.laid (t':=s.toks) (o:= .tup (zb4 xs lo hi)) (λb ob q=>zhc _ q) (zhn _) ?_,rfl,q _ (I.hok.fresh (zhn _))⟩;exact⟨zh3 (JZ xs lo hi) O,_,(r.drop (HT.sIx xs.length 0 lo)).take (HT.sIx xs.length xs.length hi - HT.sIx xs.length 0 lo),IsTupD.new _ _⟩
theorem Vals.nil_iff{xs:List V}{us:List Value}(r:Vals xs us):us=[]↔xs=[]:=by
 cases r with
 | nil=>simp
 | cons _ _=>simp
end
def ixN(n:Nat)(i:Int):Option Nat:=if 0<=i then (if i<n then some i.toNat else none)else if -(n:Int)<=i then some (i+n).toNat else none
def atI{α:Type}(xs:List α)(i:Int):Option α:=(ixN xs.length i).bind λj=>xs[j]?
theorem JT{n:Nat}{i:Int}{j:Nat}(h:ixN n i=some j):seqIndex? i n=some j/\j<n/\ -(n:Int)<=i/\i<n:=by
 unfold ixN at h;by_cases h0:0<=i
 ·rw [if_pos h0]at h
  by_cases h1:i<n
  ·rw [if_pos h1]at h
   have e:i.toNat=j:=zhM h;exact⟨by rw [seqIndex_of h0 h1,e],by omega,by omega,h1⟩
  ·rw [if_neg h1]at h;cases h
 ·rw [if_neg h0]at h
  by_cases h1 : -(n:Int)<=i
  ·rw [if_pos h1]at h
   have e:(i+n).toNat=j:=zhM h;exact⟨by rw [seqIndex_neg ⋯ h1,e],by omega,h1,by omega⟩
  ·rw [if_neg h1]at h;cases h
theorem J4{α:Type}{xs:List α}{i:Int}{v:α}(h:atI xs i=some v) : ∃j,seqIndex? i xs.length=some j/\xs[j]? = some v/\j<xs.length/\ -(xs.length:Int)<=i/\i<xs.length:=by
 unfold atI at h;cases e:ixN xs.length i with
 | none=>rw [e]at h;cases h
 | some j=>
  rw [e]at h;obtain⟨h1,h2,z,I⟩:=JT e;exact⟨j,h1,h,h2,z,I⟩
def Ze(b:Expr):Prop:=∀o i,subscripted b false o i=operate [o,i] (getItem o i)
def IxR(X:Cx)(r:R2):Prop:=
 ∀(value z:Expr) (pins:List (Addr×Obj)) (s:Shared) (σ:St) (H:Hp) (x y:V) (v u:Value) (Q:VK),Inv X pins σ H s->RelV x v->RelV y u->r x y H Q->
  subscripted z false v u=operate [v,u] (getItem v u)->wpAny (model X.prog X.w) X.A (subscriptTail value z v u) (EP X pins σ Q) X.xe s
def MtR(X:Cx)(id:String)(r:V->List V->Hp->VK->Prop):Prop:=
 ∀(pins:List (Addr×Obj)) (s:Shared) (σ:St) (H:Hp) (x:V) (xs:List V) (v:Value) (us:List Value) (Q:VK),Inv X pins σ H s->RelV x v->Vals xs us->r x xs H Q->
  wpAny (model X.prog X.w) X.A (call (.builtin id) (v::us)) (EP X pins σ Q) X.xe s
section
variable{X:Cx}{a b:Expr}{ta tb:TE}{pos:Pos}
theorem IxR.or{r r':R2}(h:IxR X r)(h':IxR X r'):IxR X (λx y H Q=>r x y H Q\/r' x y H Q):=by
 intro value z pins s σ H x y v u Q I J O q Y;rcases q with q | q
 ·exact h value z pins s σ H x y v u Q I J O q Y
 ·exact h' value z pins s σ H x y v u Q I J O q Y
theorem zbA{r:R2}(z:IxR X r)(ha:PE X a ta)(J:PE X b tb)(O:Ze b):PE X (.Subscript a b pos) (tOp r ta tb):=by
 intro pins s σ H Q I h;exact Subscript_ (zfU ha J I h λv u s2 x y H2 Y rx ry q=>z a b pins s2 σ H2 x y v u Q Y rx ry q (O _ _))
def zgk(K:PySem.W.Frag):R2:=λx y H Q=>∃p xs i v,x = .ref p/\y = .int i/\SqL K H p xs/\atI xs i=some v/\Q v H
def zgT(K:PySem.W.Frag):R2:=λx y H Q=>∃p xs i v,x = .ref p/\y = .int i/\SqT K H p xs/\atI xs i=some v/\Q v H
def zgU:R2:=λx y H Q=>∃z i c,x = .str z/\y = .int i/\z.length<=sizeLine/\atI z.cps.toList i=some c/\Q (.str ⟨#[c]⟩) H
theorem ix_list:IxR X (zgk X.K):=by
 intro value a9 pins s σ H x y v u Q I rx ry h O;obtain⟨p,xs,i,z,rfl,rfl,hq,he,q⟩:=h;cases rx;obtain⟨t,rfl⟩:=ry;obtain⟨a4,r,pl,hz⟩:=I.list hq;obtain⟨j,h1,h2,h3,h4,h5⟩:=J4 he;obtain⟨w,Y,a7⟩:=r.get h2;have hl:=r.length;have hn:=vh;have a0:EP X pins σ Q w s:=⟨z,H,I,a7,q⟩;by_cases h0:0<=i
 ·have J:i.toNat=j:=by
   rw [seqIndex_of h0 h5]at h1;exact zhM h1
  exact item_listR pl.isList h0 ⋯ (by rw [J];simpa using Y) a0 O
 ·have J:(i+(a4.toArray.size:Int)).toNat=j:=by
   rw [seqIndex_neg ⋯ h4]at h1;rw [zho,<- hl];exact zhM h1
  exact subscriptTail_builtinR (x:=w) pl.isList.typeIs slot_list_getitem.lookup
   (wpAny_getItem_list_neg (Q:=λr s'=>r=w/\EP X pins σ Q r s') pl.isList ⋯ (by rw [zho]<;>omega) ⋯ (by rw [J];simpa using Y) ⟨rfl,a0⟩) O
theorem zdO:IxR X (zgT X.K):=by
 intro value a5 pins s σ H x y v u Q I J O h Y;obtain⟨p,xs,i,z,rfl,rfl,hq,he,q⟩:=h;cases J;obtain⟨t,rfl⟩:=O;obtain⟨a6,r,pl,hz⟩:=I.tuple hq;obtain⟨j,h1,h2,h3,h4,h5⟩:=J4 he;obtain⟨w,ew,a2⟩:=r.get h2;have hl:=r.length;have hn:=vh;have a4:EP X pins σ Q w s:=⟨z,H,I,a2,q⟩;exact subscriptTail_builtinR (x:=w) pl.typeIs slot_tuple_getitem.lookup
  (getItem_tuple (j:=j) (Q:=λr s'=>r=w/\EP X pins σ Q r s') pl ⋯ ⋯ (by rw [zho,<- hl];exact h1) (by simpa using ew) ⟨rfl,a4⟩) Y
theorem zdP:IxR X zgU:=by
 intro value a3 pins s σ H x y v u Q I J O h Y;obtain⟨z,i,c,rfl,rfl,hz,he,q⟩:=h;obtain⟨t,rfl⟩:=J;obtain⟨t',rfl⟩:=O;obtain⟨j,h1,h2,h3,h4,h5⟩:=J4 he;have hl:z.cps.toList.length=z.length:=by simp [Str.length]
 rw [hl]at h1 h4 h5;have hn:=vh;exact tail_any (typeIs_str s z t) slot_str_getitem.lookup (getItem_str (c:=c) (by
  have e1:decide (i < -(2 ^ 63:Int))=false:=decide_eq_false ⋯;have e2:decide (i>=2 ^ 63)=false:=decide_eq_false ⋯;rw [e1,e2,Bool.or_false]) (by rw [h1];simpa using h2) ⟨.str ⟨#[c]⟩,H,I.tok _,⟨_,rfl⟩,q⟩) Y
theorem XT(z:List Value)(n j:Nat)(u:Value):ziB (·.setIfInBounds j u) {cls:= .type "list",data:= .seq z.toArray n} = {cls:= .type "list",data:= .seq (z.set j u).toArray n}:=by
 simp [ziB]
theorem Inv.lst{pins:List (Addr×Obj)}{σ:St}{H:Hp}{s:Shared}{p:Addr}{xs:List V}(I:Inv X pins σ H s)(h:H p=some (.lst xs)) :
 ∃(J:List Value) (n:Nat),Vals xs J/\s.heap.get? p=some {cls:= .type "list",data:= .seq J.toArray n}/\xs.length<=sizeLine:=by
 obtain⟨z,J,n,r,e⟩:=I.hok p _ h;exact⟨J,n,r,e,z⟩
theorem Inv.lstUpd{pins:List (Addr×Obj)}{σ:St}{H:Hp}{s:Shared}{p:Addr}{xs ys:List V}{z its':List Value}{n n':Nat}{f:Obj->Obj}(I:Inv X pins σ H s)(h:H p=some (.lst xs))
 (O:s.heap.get? p=some {cls:= .type "list",data:= .seq z.toArray n}) (J:f {cls:= .type "list",data:= .seq z.toArray n} = {cls:= .type "list",data:= .seq its'.toArray n'}) (r:Vals ys its') (Y:ys.length<=sizeLine) (t:Nat) :
 Inv X pins σ (upd H p (.lst ys)) {s with heap:=s.heap.update p f,toks:=t}:=by
 have e:(s.heap.update p f).get? p=some {cls:= .type "list",data:= .seq its'.toArray n'}:=by
  rw [zj5 f O (by rw [J]<;>rfl),J]
 refine I.write (x:=p) (e:=p) (by rw [h];trivial) (.inl rfl) (λb u hb q=>(zj2 _ _ (zic hb)).trans q) ⟨_,e⟩ ?_;exact⟨Y,its',n',r,e⟩
def V6:V->V->V->Hp->(Hp->Prop)->Prop:=λo i v H Q=>∃p xs k j,o = .ref p/\i = .int k/\H p=some (.lst xs)/\ixN xs.length k=some j/\Q (upd H p (.lst (xs.set j v)))
theorem VV:zgI X V6:=by
 intro pins s σ H o i v ov iv u Q I ro ri rv h;obtain⟨p,xs,k,j,rfl,rfl,Y,hj,q⟩:=h;cases ro;obtain⟨t,rfl⟩:=ri;obtain⟨a0,n,r,z,hz⟩:=I.lst Y;obtain⟨h1,h2,h3,h4⟩:=JT hj;have J:=r.length;have hn:=vh;have I':Inv X pins σ (upd H p (.lst (xs.set j v))) {s with heap:=s.heap.update p (ziB (·.setIfInBounds j u))}:=
  I.lstUpd Y z (XT a0 n j u) (r.set rv j) (by rw [ziL];exact hz) s.toks
 by_cases h0:0<=k
 ·have O:k.toNat=j:=by
   rw [seqIndex_of h0 h4]at h1;exact zhM h1
  exact PySem.W.ki_setAt z h0 ⋯ (by rw [zho,<- J];exact h4) (by rw [O];exact⟨_,I',q⟩)
 ·have O:(k+(a0.toArray.size:Int)).toNat=j:=by
   rw [seqIndex_neg ⋯ h3]at h1;rw [zho,<- J];exact zhM h1
  exact PySem.W.ki_setBack z ⋯ (by rw [zho,<- J];exact h3) ⋯ (by rw [O];exact⟨_,I',q⟩)
theorem Ji:vB X (.builtin "len") (λxs H Q=>∃p ys,xs=[.ref p]/\(SqL X.K H p ys\/SqT X.K H p ys)/\Q (.int ys.length) H):=by
 intro pins s σ H xs us Q I r h;obtain⟨p,ys,rfl,z,q⟩:=h;obtain⟨u,rfl,O⟩:=kh r;cases O;have hn:=vh;rcases z with z | z
 ·obtain⟨Y,r',pl,hz⟩:=I.list z
  have J:=r'.length;exact Calls.call_len_list pl.isList (by simp only [zho]<;>omega) ⟨.int ys.length,H,I.tok _,⟨s.toks+1,by rw [zho,J]⟩,q⟩
 ·obtain⟨Y,r',pl,hz⟩:=I.tuple z
  have J:=r'.length;exact len_tuple pl (by simp only [zho]<;>omega) ⟨.int ys.length,H,I.tok _,⟨s.toks+1,by rw [zho,J]⟩,q⟩
theorem Jh:vB X (.builtin "len") (λxs H Q=>∃z,xs=[.str z]/\z.length<=sizeLine/\Q (.int z.length) H):=by
 intro pins s σ H xs us Q I r h;obtain⟨z,rfl,J,q⟩:=h;obtain⟨u,rfl,t,rfl⟩:=kh r;have hn:=vh;exact len_str ⋯ ⟨.int z.length,H,I.tok _,⟨_,rfl⟩,q⟩
theorem Zb:vB X (.type "tuple") (λxs H Q=>∃p ys,xs=[.ref p]/\((SqL X.K H p ys/\∀l,H l=none->Q (.ref l) (upd H l (.tup ys)))\/(SqT X.K H p ys/\Q (.ref p) H))):=by
 intro pins s σ H xs us Q I r h;obtain⟨p,ys,rfl,h⟩:=h;obtain⟨u,rfl,rx⟩:=kh r;cases rx;rcases h with⟨z,q⟩ | ⟨z,q⟩
 ·obtain⟨J,r',pl,O⟩:=I.list z
  have a2:=r'.length;refine call_tuple_list pl.isList (λh' kp=>?_) (by simp only [zho]<;>omega);have Y:Inv X pins σ H {s with heap:=h'}:=I.kept (t':=s.toks) kp;have I2:Inv X pins σ (upd H h'.objs.size (.tup ys)) {s with heap:=h'.push {cls:= .type "tuple",data:= .seq J.toArray}}:=
   Y.laid (t':=s.toks) (λb o e=>zhc _ e) (zhn _) (show ObjOk X.prog X.w _ _ _ (.tup ys)from⟨O,J,r',IsTupD.new _ _⟩)
  exact⟨.ref h'.objs.size,_,I2,rfl,q _ (Y.hok.fresh (zhn _))⟩
 ·obtain⟨J,r',pl,O⟩:=I.tuple z
  exact call_tuple_same pl ⟨.ref p,H,I,rfl,q⟩
def tyV(K:PySem.W.Frag)(T:String)(x:V)(H:Hp):Prop:=match x with
 | .str _=>T = "str"
 | .int _=>T = "int"
 | .ref p=>(T = "list"/\∃xs,SqL K H p xs)\/(T = "tuple"/\∃o,K.lookup p=some o/\o.cls = .type "tuple"/\o.dict=none)\/
  (T = "dict"/\((∃kvs,H p=some (.dK kvs))\/∃kvs,H p=some (.dT kvs)))\/(T = "set"/\∃S n,H p=some (.set S n))
 | _=>False
theorem zcI{pins:List (Addr×Obj)}{σ:St}{H:Hp}{s:Shared}{T:String}{x:V}{v:Value}(I:Inv X pins σ H s)(r:RelV x v)(ty:tyV X.K T x H) :
 s.TypeIs v T/\∀a,v = .ref a->∃O,s.heap.get? a=some O/\O.dict=none:=by
 cases x with
 | str z=>
  obtain⟨t,rfl⟩:=r;cases (show T = "str" from ty);exact⟨typeIs_str s z t,λ_ e=>nomatch e⟩
 | int i=>
  obtain⟨t,rfl⟩:=r;cases (show T = "int" from ty);exact⟨typeIs_int s i t,λ_ e=>nomatch e⟩
 | ref p=>
  cases r;rcases ty with⟨rfl,xs,Y⟩ | ⟨rfl,o,J,hc,hd⟩ | ⟨rfl,J⟩ | ⟨rfl,S,n,J⟩
  ·obtain⟨a1,_,pl,_⟩:=I.list Y
   refine⟨pl.isList.typeIs,λa e=>?_⟩;cases e;obtain⟨o,n,e,c,hd,_⟩:=pl;exact⟨o,e,hd⟩
  ·refine⟨⟨o,I.kIn p o J,hc⟩,λa e=>?_⟩
   cases e;exact⟨o,I.kIn _ o J,hd⟩
  ·have z : ∃o,s.heap.get? p=some o/\o.ExactDict:=by
    rcases J with⟨kvs,J⟩ | ⟨kvs,J⟩
    ·obtain⟨_,_,_,_,o,_,_,e,ex,_⟩:=I.hok p _ J
     exact⟨o,e,ex⟩
    ·obtain⟨_,_,_,_,o,_,_,e,ex,_⟩:=I.hok p _ J
     exact⟨o,e,ex⟩
   obtain⟨o,e,ex⟩:=z;refine⟨⟨o,e,ex.1⟩,λa e2=>?_⟩;cases e2;exact⟨o,e,ex.2.1⟩
  ·obtain⟨o,_,_,_,e,ex,_⟩:=I.hok p _ J
   refine⟨⟨o,e,ex.1⟩,λa e2=>?_⟩;cases e2;exact⟨o,e,ex.2.1⟩
 | _=>exact ziR ty
def tBM(K:PySem.W.Frag)(T:String)(r:V->List V->Hp->VK->Prop)(to:TE)(t:TA):TE:=λσ H Q=>to σ H λx H1=>tyV K T x H1/\t σ H1 λxs H2=>r x xs H2 Q
variable{o e:Expr}{es:List Expr}{to:TE}{t:TA}{name:Str}{apos cpos:Pos}{T id:String}{r:V->List V->Hp->VK->Prop}
theorem Wp(Y:PlainAttrs T)(slot:Slot T name id)(a0:typeOf (.builtin id)=pure (.type "method_descriptor"))(hm:MtR X id r)(ho:PE X o to)(ha:PA X (e::es) t)
 (a2:attributeBase o name X.env (eval o X.env)=eval o X.env:=by rfl)
 (a3:((backTo cpos (starEach (e::es) X.env)).all (λx=> !x.1) && (backToKw cpos (keywordEach [] X.env)).all (λx=>x.1.isSome)
   && decide ((e::es).length+([]:List Keyword).length+(if ([]:List Keyword).isEmpty then 0 else 1)<30))=true:=by rfl)
 (a4:(apos.endLine==cpos.line)=true:=by rfl) (hs:starEach (e::es) X.env=(false,eval e X.env)::starEach es X.env:=by rfl) (a6:(backTo cpos (starEach es X.env)).any (·.1)=false:=by rfl) :
 PE X (.Call (.Attribute o name apos) (e::es) [] cpos) (tBM X.K T r to t):=by
 intro pins s σ H Q I h;refine wpAny_Call_method_late a2 a3 a4 rfl (thn (ho pins s σ H _ I h) λv s1 hZ=>?_);obtain⟨x,H1,z,J,ty,q1⟩:=hZ;obtain⟨h1,h2⟩:=zcI z J ty;refine⟨T,id,Y,slot,a0,h1,h2,?_⟩;have O:=ha cpos pins s1 σ H1 _ z q1;rw [hs]at O ⊢;refine Calls.callWith_builtin (by show(false || (backTo cpos (starEach es X.env)).any (·.1))=false;rw [a6]<;>rfl) (Calls.evalArgs_plain ?_);exact thn O λus s2 ⟨vs,H2,I2,r2,q2⟩=>hm pins s2 σ H2 x vs v us Q I2 J r2 q2
end
def MtM(X:Cx)(id:String)(r:V->List V->Hp->VK->Prop):Prop:=
 ∀(pins:List (Addr×Obj)) (s:Shared) (σ:St) (H:Hp) (x:V) (xs:List V) (v:Value) (us:List Value) (Q:VK),Inv X pins σ H s->RelV x v->Vals xs us->r x xs H Q->
  wpAny (model X.prog X.w) X.A (call (.builtin id) (v::us)) (EP X pins σ Q) X.xe s
theorem Vals.one : ∀{x:V} {us:List Value},Vals [x] us->∃u,us=[u]/\RelV x u
 | _,_,.cons r .nil=>⟨_,rfl,r⟩
theorem Vals.dropLast{xs:List V}{us:List Value}(h:Vals xs us):Vals xs.dropLast us.dropLast:=by
 induction h with
 | nil=>exact .nil
 | cons r t z=>
  cases t with
  | nil=>exact .nil
  | cons q t'=>exact .cons r z
theorem Vals.rep{xs:List V}{us:List Value}(h:Vals xs us) : ∀k:Nat,Vals (zhm k xs).flatten (zhm k us).flatten
 | 0=> .nil
 | k+1=>by
  rw [ziA,ziA,ziT,ziT];exact Vals.append h (Vals.rep h k)
theorem Ja(z:List Value) : ∀(k:Nat) (acc:List Value),
 List.foldl (λx1 I=>x1++I) acc.toArray (zhm k z.toArray)=(acc++(zhm k z).flatten).toArray
 | 0,acc=>by simp
 | k+1,acc=>by
  have e:acc.toArray++z.toArray=(acc++z).toArray:=by simp
  have e2:(acc++z)++(zhm k z).flatten=acc++(zhm (k+1) z).flatten:=by
   rw [ziA,ziT,zkA]
  rw [<- e2,<- Ja z k (acc++z),<- e,ziA,List.foldl_cons]
section
variable{X:Cx}{pins:List (Addr×Obj)}{σ:St}{H:Hp}{s:Shared}{l b:Addr}{xs ys zs:List V}
theorem Inv.lset{z its':List Value}{n:Nat}{f:Array Value->Array Value}{t':Nat}(I:Inv X pins σ H s)(J:H l=some (.lst xs))
 (e:s.heap.get? l=some {cls:= .type "list",data:= .seq z.toArray n}) (O:f z.toArray=its'.toArray) (Y:Vals ys its') (hz:ys.length<=sizeLine) :
 Inv X pins σ (upd H l (.lst ys)) {s with heap:=s.heap.update l (ziB f),toks:=t'}:=by
 have q:=PySem.IsL.update e f;rw [O]at q;refine I.write (x:=l) (e:=l) (by rw [J];exact trivial) (.inl rfl) (λb' u hb hu=>(zj2 s.heap (ziB f) (zic hb)).trans hu) ⟨_,q⟩ ?_;exact⟨hz,its',_,Y,q⟩
theorem Inv.lnew{z:List Value}{t':Nat}(I:Inv X pins σ H s)(J:Vals ys z)(O:ys.length<=sizeLine) :
 Inv X pins σ (upd H s.heap.objs.size (.lst ys)) {s with heap:=s.heap.push {cls:= .type "list",data:= .seq z.toArray},toks:=t'}:=
 I.laid (λ_ _ q=>zhc _ q) (zhn _) ⟨O,z,0,J,zhw _ rfl⟩
theorem Inv.fresh(I:Inv X pins σ H s):H s.heap.objs.size=none:=I.hok.fresh (zhn _)
theorem Inv.lstM(I:Inv X pins σ H s)(O:H l=some (.lst xs)):xs.length<=sizeLine/\∃(J:List Value) (n:Nat),Vals xs J/\xs.length=J.length/\s.heap.get? l=some {cls:= .type "list",data:= .seq J.toArray n}:=by
 obtain⟨z,J,n,r,e⟩:=I.hok l _ O;exact⟨z,J,n,r,r.length,e⟩
theorem Wv{n:Nat}(h:n<=sizeLine):zjA n=false:=by
 unfold zjA;exact decide_eq_false ⋯
end
section
variable{X:Cx}
def JE:V->List V->Hp->VK->Prop:=λx vs H Q=>∃l xs y,x = .ref l/\vs=[y]/\H l=some (.lst xs)/\xs.length<sizeLine/\Q .non (upd H l (.lst (xs++[y])))
theorem ZY:MtM X "list.append" JE:=by
 intro pins s σ H x vs v us Q I Y rv h;obtain⟨l,xs,y,rfl,rfl,J,hz,q⟩:=h;cases Y;obtain⟨u,rfl,ru⟩:=rv.one;obtain⟨z,O,n,r,hl,e⟩:=I.lstM J;refine zjL F.slot_list_append ⟨_,e,rfl⟩ F.entry_list_append (F.args_list_append_2 _ _) (PySem.list_append l O.toArray n u (by rw [zho];omega)) ⟨e,?_⟩;refine⟨.non,_,I.lset (its':=O++[u]) J e ⋯ (r.append (.cons ru .nil)) ?_,rfl,q⟩;rw [zhQ,ziO];omega
def zbh:V->List V->Hp->VK->Prop:=λx vs H Q=>∃l b xs zs,x = .ref l/\vs=[.ref b]/\H l=some (.lst xs)/\H b=some (.lst zs)/\xs.length+zs.length<=sizeLine/\Q .non (upd H l (.lst (xs++zs)))
theorem Yp:MtM X "list.extend" zbh:=by
 intro pins s σ H x vs v us Q I rx rv h;obtain⟨l,b,xs,zs,rfl,rfl,Y,hB,hz,q⟩:=h;cases rx;obtain⟨u,rfl,ru⟩:=rv.one;cases ru;obtain⟨z,J,n,r,hl,e⟩:=I.lstM Y;obtain⟨z2,O,n2,r2,a7,e2⟩:=I.lstM hB;have hsz:J.toArray.size+O.toArray.size<=sizeLine:=by rw [zho,zho];omega
 have a4 : ¬(!J.toArray.isEmpty && zjA (J.toArray.size+O.toArray.size))=true:=by
  rw [Wv hsz,Bool.and_false];exact zhA
 refine zjL F.slot_list_extend ⟨_,e,rfl⟩ F.entry_list_extend (F.args_list_extend_2 _ _)
  (AutoSeq1.list_extend_list_list_0 l J.toArray n b O.toArray n2 a4 (by rw [zho];omega) ⋯) ⟨e,e2,?_⟩
 refine⟨.non,_,I.lset (its':=J++O) Y e ⋯ (r.append r2) ?_,rfl,q⟩;rw [zhQ];omega
theorem Yw{α:Type}(xs:List α)(k:Nat):(zhm k xs).flatten.length=k*xs.length:=by
 induction k with
 | zero=>simp
 | succ k z=>rw [ziA,ziT,zhQ,z,Nat.succ_mul,Nat.add_comm]
end
end L2
namespace Att
open PySem PySem.W PySem.Calls PyProof.Rows
theorem vk{P:Params}{h:Heap} : ∀(ns:List Int) (vs:List Value),WellAll P h vs (ns.map WData.int)->IntsAre vs ns:=by
 intro ns
 induction ns with
 | nil=>
  intro vs w;rw [List.map_nil]at w;cases w;exact .nil
 | cons n ns z=>
  intro vs w;rw [zhI]at w;cases w with
  | cons a b=>
   cases a;exact .cons _ _ (z _ b)
theorem KH{l:OpenLaw}{n:Nat}(hn:l.most=some n){P:Params}{h:Heap}{args:List WData}{J:List Value}
 (O:l.row.toRowW.claim.pre args=true) (a0:WellAll P h J args) :
 ∃a vs ns,J=[zhH a]/\args=[WData.list (ns.map WData.int)]/\h.get? a=some {cls:= .type "list",data:= .seq vs.toArray}/\IntsAre vs ns/\ns.length<=n:=by
 have a1:WShape.hasAll [] args [.list .int]=true:=(pre_splitW O).1;have Y:l.pre.holds [] {args:=args}=true:=(pre_splitW O).2;obtain⟨d,r,rfl,h1,h2⟩:=hasAllW_cons a1;obtain rfl:=hasAllW_nil h2;obtain⟨xs,rfl,h3⟩:=hasW_list h1;obtain⟨ns,rfl⟩:=items_int h3;have a3:ns.length<=n:=by
  unfold OpenLaw.pre at Y;have z:(WTm.not (.lt (.lit (.int (n:Int))) (.len (.arg 0)))).holds [] {args:=[.list (ns.map .int)]}=true:=by
   have z:=(holds_andW Y).1;rw [hn]at z;exact z
  have I:=condW_of z (w_not (w_lt w_lit (w_len_list (w_arg rfl))));rw [zhB]at I;refine Nat.le_of_not_lt λq=>?_;have q':(n:Int)<((ns.length:Nat):Int):=by omega
  first
   | (rw [decide_eq_true q']at I;exact absurd I ⋯)
   | (simp at I;omega)
 cases a0 with
 | cons w1 w2=>
  cases w2;cases w1 with
  | list ho a6=>exact⟨_,_,ns,rfl,rfl,ho,vk ns _ a6,a3⟩
theorem K6(l:OpenLaw)(args:List WData):l.row.toRowW.claim.post args (.bool true) args=true:=
 postW_of (r:=l.row.toRowW) (X:=(true==true))
  (show WShape.has [] (.bool true) .bool=true by first | rfl | decide | simp [WShape.has,WShape.arms,WShape.armsAll])
  (show(WTm.eq .res (.lit (.bool true))).value [] {args:=args,res:=some (.bool true),after:=args}=some (.bool (true==true))from w_eq_bool (w_res rfl) w_lit) rfl
theorem attach_call{l:OpenLaw}{n:Nat}{q:Program}{J:List Str}{O:(Str->Option Value)->Heap->Prop}{YP:World->Heap->Prop}{d:DefRec}
 (hn:l.most=some n) (a2:d.params.defaults=[])
 (call : ∀(w:World) (s₀ z:Shared) (mg mb:Str->Option Value) (fa:Addr) (o:Obj) (pm I doc:Value) (a:Addr) (vs:List Value) (ns:List Int),
   Ground q J [] O w s₀ mg mb z.heap->YP w z.heap->
   z.heap.get? fa=some o->o.data = .func (docDef d.name d.params d.body d.scope pm I doc)->z.heap.CodeRec I d.name->mg d.name=some (.ref fa)->
   z.heap.get? a=some {cls:= .type "list",data:= .seq vs.toArray}->IntsAre vs ns->ns.length<=n->z.gens = #[]->
   codeAny (model l.prog w) callerA (.call (.ref fa) ⟨[.ref a],[]⟩) (λr s'=>r = .ok (.ret (.bool true))/\OldK z.heap s'.heap/\s'.os=z.os/\AllBare s'.gens) z) :
 WalkO q J O YP l.row.toRowW d [] (λf vs=>PySem.call f vs):=by
 intro w s₀ z mg mb G Y fa o pm I doc dV kV ho hd a5 hD a6 hg args ah as a8 aj ak a9 am;obtain rfl:dV = .none:=Dflts.none hD a2;obtain rfl:kV = .none:=Dflts.noKw hD;obtain⟨a,vs,ns,rfl,rfl,aa,ab,ac⟩:=KH hn a8 a9;refine enter_call (zkh (call w s₀ z mg mb fa o pm I doc a vs ns G Y ho (fd_plain hd) a5 a6 aa ab ac hg) λr s' hq=>?_);obtain⟨rfl,h2,h3,h4⟩:=hq;exact⟨.inl ⟨.bool true,.bool true,[],rfl,λ_=>rfl,.bool true,K6 l _,λ_=>⟨List.Pairwise.nil,λ_ hm=>(nomatch hm)⟩⟩,h2,h3,h4⟩
end Att
namespace L2
open PySem PySem.Spec PyProof.Rows
theorem kg : ∀{vs:List Value} {ns:List Int},IntsAre vs ns->Vals (ns.map V.int) vs
 | _,_,.nil=> .nil
 | _,_,.cons n t h=> .cons ⟨t,rfl⟩ (kg h)
def zeX(H:Hp):Prop:=∀b,H b=none\/∃o xs,H b=some (.frz o (.lst xs))
theorem WG{P:Program}{w:World}{K:PySem.W.Frag}{mg mb:Str->Option Value}{CX:CXT}{k:Nat}{fa a:Addr}{fd:FuncData}{x:Str}{sp:Sp}{I:Shared}{vs:List Value}{ns:List Int}
 (KX:K.In I.heap) (a3:I.heap.Ns mainGlobals mg) (J:I.heap.Ns builtinsNs mb) (ab : ∀x:Str,x ≠ "__name__"->mb x=bootBuiltins x) (ac:I.heap.NoLimit) (hg:I.gens = #[])
 (ha:I.heap.get? a=some {cls:= .type "list",data:= .seq vs.toArray}) (hi:IntsAre vs ns) (hl:ns.length<=sizeLine) (hr:Room k callerA)
 (F : ∀base:Heap,K.In base->base.Ns mainGlobals mg->FnOk P w K mg base CX k fa fd [x] sp) (ag : ∀(s:Shared) (u:Value),BindsTo s fd ⟨[u],[]⟩ [(x,u)])
 (ah : ∀H:Hp,zeX H->SqL K H a (ns.map V.int)->sp [.ref a] H (λv _=>v = .bl true) λ_ _ _=>False)
 (ai : ∀H e s',CX [] H I (λ_ _ _=>False) e s'->False) :
 codeAny (model P w) callerA (.call (.ref fa) ⟨[.ref a],[]⟩) (λr s'=>r = .ok (.ret (.bool true))/\OldK I.heap s'.heap/\s'.os=I.os/\AllBare s'.gens) I:=by
 have rv:=kg hi;have aj:=hi.length;have a6 : ∀H:Hp,zeX H->SqL K H a (ns.map V.int)->HOk P w H I.heap->(∀b,H b≠none->b=a)->(H a≠none->K.lookup a=none)->
  codeAny (model P w) callerA (.call (.ref fa) ⟨[.ref a],[]⟩) (λr s'=>r = .ok (.ret (.bool true))/\OldK I.heap s'.heap/\s'.os=I.os/\AllBare s'.gens) I:=by
  intro H hO hS hok hA hK;have a9 : ∀{b:Addr} {o:Obj},I.heap.get? b=some o->H b=none->(WP I.heap H).get? b=some o:=λe n=>WO e n;have an : ∀{b:Addr} {o:Obj} {es:Array DictEntry} {O:Nat},I.heap.get? b=some o->o.data = .dict es O->H b=none:=λ{b o es O} e d=>by
   cases q:H b with
   | none=>rfl
   | some u=>
    have e':b=a:=hA b (by rw [q];simp);subst e';rw [ha]at e;cases e;have d':Data.seq vs.toArray _=Data.dict es O:=d;cases d'
  have a0 : ∀{b:Addr} {m:Str->Option Value},I.heap.Ns b m->(WP I.heap H).Ns b m:=λ{b m} ⟨o,es,O,e,d,r⟩=>⟨o,es,O,a9 e (an e d),d,r⟩;have aa:K.In (WP I.heap H):=λb o e=>a9 (KX b o e) (by
   cases q:H b with
   | none=>rfl
   | some u=>
    have e':b=a:=hA b (by rw [q];simp);subst e';rw [hK (by rw [q];simp)]at e;cases e)
  have hM:Mod K mg (WP I.heap H):=⟨aa,a0 a3,⟨mb,a0 J,ab⟩,let ⟨mc,h1,h2⟩:=ac;⟨mc,a0 h1,h2⟩⟩;have e0:Env0 P w K mg (WP I.heap H) callerA [] I H:=⟨rfl,hM,λb o e=>zbG e,Nat.le_of_eq (YE _ _),trivial,λb J=>absurd (show b∈([]:List Addr)from J) ⋯,hok,.of_eq hg⟩;refine zkh ((F _ aa (a0 a3)).run callerA [] I H ⟨[.ref a],[]⟩ [.ref a] [.ref a] _ _ hr e0 (ag I (.ref a)) (.cons rfl .nil) (ah H hO hS)) λr s' h=>?_;cases r with
  | error e=>exact(ai H e s' h).elim
  | ok fl=>
   cases fl with
   | next=>exact ziR h
   | brk=>exact ziR h
   | cont=>exact ziR h
   | ret u=>
    obtain⟨v,H',os,bare,un,as,r',q⟩:=h;have q':v = .bl true:=q;subst q';obtain rfl:u=zkw true:=r';refine⟨rfl,OldK.of_keep λb o e=>?_,os,bare⟩;cases q:H b with
    | none=>exact un.keep b o e q (by intro z;exact absurd (show b∈([]:List Addr)from z) ⋯) ⋯
    | some u=>
     rcases hO b with z | ⟨ob,xs,z⟩
     ·rw [q]at z;cases z
     ·have z2:=un.frzs b ob _ z
      obtain⟨e1,_⟩:=hok b _ z;obtain⟨e2,_⟩:=as b _ z2;rw [e]at e1;cases e1;exact e2
 cases hk:K.lookup a with
 | some o=>
  have e:=KX a o hk;rw [ha]at e;cases e;refine a6 (λ_=>none) (λ_=> .inl rfl) (.inr ⟨_,vs.toArray,_,hk,rfl,rfl,rfl,by rw [zho,aj];exact hl,by simpa using rv⟩) (λb u z=>by have Y:(none:Option HO)=some u:=z;cases Y) (λb z=>absurd rfl z) λz=>absurd rfl z
 | none=>
  refine a6 (λb=>if b=a then some (.frz {cls:= .type "list",data:= .seq vs.toArray} (.lst (ns.map V.int)))else none) (λb=>?_) (.inl (.inr ⟨{cls:= .type "list",data:= .seq vs.toArray},if_pos rfl⟩)) (λb u z=>?_) (λb z=>?_) λ_=>hk
  ·by_cases J:b=a
   ·exact .inr ⟨_,_,if_pos J⟩
   ·exact .inl (if_neg J)
  ·by_cases J:b=a
   ·have Y:=(if_pos J).symm.trans z
    cases Y;subst J;exact⟨ha,by rw [zhB];exact hl,vs,_,rv,ha⟩
   ·have Y:=(if_neg J).symm.trans z
    cases Y
  ·by_cases J:b=a
   ·exact J
   ·exact absurd (if_neg J) z
abbrev KOf{K:PySem.W.Frag}{h:Heap}(_:K.In h):PySem.W.Frag:=K
theorem zaS{l:PySem.W.OpenLaw}{n k:Nat}{q:Program}{O:List Str}{XP:(Str->Option Value)->Heap->Prop}{z:World->Heap->Prop}{d:DefRec}{K:Params->PySem.W.Frag}{CX:World->CXT}{sp:World->Sp}{x:Str}
 (hn:l.most=some n) (a1:n<=sizeLine) (a2:d.params.defaults=[]) (hr:Room k callerA)
 (hY : ∀(w:World) (h:Heap),z w h->(K w.params).In h)
 (F : ∀(w:World) (mg:Str->Option Value) (fa:Addr) (h:Heap),(K w.params).In h->h.Ns mainGlobals mg->mg d.name=some (.ref fa)->
   ∃fd:FuncData,(∀(s:Shared) (u:Value),BindsTo s fd ⟨[u],[]⟩ [(x,u)])/\
    ∀base:Heap,(K w.params).In base->base.Ns mainGlobals mg->FnOk l.prog w (K w.params) mg base (CX w) k fa fd [x] (sp w))
 (a5 : ∀(w:World) (H:Hp) (a:Addr) (ns:List Int),ns.length<=n->zeX H->SqL (K w.params) H a (ns.map V.int)->sp w [.ref a] H (λv _=>v = .bl true) λ_ _ _=>False)
 (a6 : ∀(w:World) (H:Hp) (s:Shared) (e:Value) (s':Shared),CX w [] H s (λ_ _ _=>False) e s'->False) :
 PySem.W.WalkO q O XP z l.row.toRowW d [] (λf vs=>PySem.call f vs):=by
 refine Att.attach_call hn a2 λw s₀ s₁ mg mb fa o pm cd doc a vs ns G Y ho hd aj a8 a9 aa I hg=>?_;have J:=hY w _ Y;obtain⟨fd,hb,hF⟩:=F w mg fa _ J G.T.g a8;exact WG J G.T.g G.T.b G.T.builtins G.T.nolimit hg a9 aa (zh3 I a1) hr hF hb (λH hO hS=>a5 w H a ns I hO hS) λH e s'=>a6 w H s₁ e s'
theorem walk_ofK{l:PySem.W.OpenLaw}{n k:Nat}{q:Program}{I:List Str}{J:(Str->Option Value)->Heap->Prop}{z:World->Heap->Prop}{d:DefRec}{K:Params->PySem.W.Frag}{CX:CXT}{sp:PySem.W.Frag->Sp}{x:Str}
 (hn:l.most=some n) (O:n<=sizeLine) (Y:d.params.defaults=[]) (hr:Room k callerA)
 (hY : ∀(w:World) (h:Heap),z w h->(K w.params).In h)
 (F : ∀(w:World) (mg:Str->Option Value) (fa:Addr) (h:Heap),(K w.params).In h->h.Ns mainGlobals mg->mg d.name=some (.ref fa)->
   ∃fd:FuncData,(∀(s:Shared) (u:Value),BindsTo s fd ⟨[u],[]⟩ [(x,u)])/\
    ∀base:Heap,(K w.params).In base->base.Ns mainGlobals mg->FnOk l.prog w (K w.params) mg base CX k fa fd [x] (sp (K w.params)))
 (a2 : ∀(K:PySem.W.Frag) (H:Hp) (a:Addr) (ns:List Int),ns.length<=n->zeX H->SqL K H a (ns.map V.int)->sp K [.ref a] H (λv _=>v = .bl true) λ_ _ _=>False)
 (a3 : ∀(H:Hp) (s:Shared) (e:Value) (s':Shared),CX [] H s (λ_ _ _=>False) e s'->False) :
 PySem.W.WalkO q I J z l.row.toRowW d [] (λf vs=>PySem.call f vs):=
 zaS (K:=K) (CX:=λ_=>CX) (sp:=λw=>sp (K w.params)) hn O Y hr hY F (λw H a ns h1 h2 h3=>a2 (K w.params) H a ns h1 h2 h3) λ_ H s e s'=>a3 H s e s'
def defArgs(s:Stmt):Arguments:=match s with
 | .FunctionDef _ a _ _ _ _ _ _ _ _=>a
 | _=>{posonlyargs:=[],args:=[],vararg:=none,kwonlyargs:=[],kw_defaults:=[],kwarg:=none,defaults:=[]}
def defBody(s:Stmt):List Stmt:=match s with
 | .FunctionDef _ _ b _ _ _ _ _ _ _=>b
 | _=>[]
def defScope(s:Stmt):Scope:=match s with
 | .FunctionDef _ _ _ _ _ _ sc _ _ _=>sc
 | _=>{kind:= .function,names:=[],isGenerator:=false,isCoroutine:=false}
abbrev CX0:CXT:=λ_ _ _ _ _ _=>False
abbrev E0:XK:=λ_ _ _=>False
theorem y7{X:Cx}:wu CX0 X E0:=λ_ _ _ _ _ _ _ h=>h.elim
structure Fun(K:PySem.W.Frag)(x qual:Str)(st:Stmt)(f:Addr)(fd:FuncData):Prop where
 ex : ∃(oc:Value) (od:Option Addr) (kV doc pm:Value) (an:Option Addr) (cdv ct:Value) (osl:Array (Option Value)),
  fd=PySem.W.fnOf x qual (defArgs st) (defBody st) (defScope st) .none kV doc pm an cdv ct/\K.lookup f=some ⟨oc,od,.func fd,osl⟩/\PySem.W.codeIn K cdv qual=true
 kp:PySem.W.keepIn K (.ref f)=true
section
variable{P:Program}{w:World}{K:PySem.W.Frag}{mg:Str->Option Value}{base:Heap}
theorem Fun.ok{x qual:Str}{st:Stmt}{f:Addr}{fd:FuncData}{N ps:List Str}{k:Nat}{sp:Sp}(F:Fun K x qual st f fd)(S:FnScope N ps (defScope st))(len : ∀vs H Q E,sp vs H Q E->vs.length=ps.length)
 (z : ∀(cdv:Value) (A:Around) (outer:List Env) (s:Shared) (H:Hp) (vs:List V) (Q:VK) (E:XK),Room k (A.deeper (envOfC qual (defScope st) s.heap.objs.size f cdv))->sp vs H Q E->
   ∃t,PSs (zb3 CX0 P w K mg base N qual (defScope st) f cdv A outer s H E).nox (defBody st) t/\t {nx:=λ_ H'=>Q .non H',rt:=Q} (start N vs) H):FnOk P w K mg base CX0 (k+1) f fd ps sp:=by
 obtain⟨oc,od,kV,doc,pm,an,cdv,ct,osl,rfl,lk,I⟩:=F.ex;refine zfI lk I S len λA outer s H vs Q E J O=>?_;obtain⟨t,h,q⟩:=z cdv A outer s H vs Q E J O;exact⟨t,h.nox,q⟩
theorem Fun.binds{x qual:Str}{st:Stmt}{f:Addr}{fd:FuncData}{ps:List Str}(F:Fun K x qual st f fd)
 (h : ∀(kV doc pm:Value) (an:Option Addr) (cdv ct:Value) (us:List Value),us.length=ps.length->bindArgs (PySem.W.fnOf x qual (defArgs st) (defBody st) (defScope st) .none kV doc pm an cdv ct) ⟨us,[]⟩=pure (ps.zip us)):Binds K fd ps []:=by
 obtain⟨oc,od,kV,doc,pm,an,cdv,ct,osl,rfl,lk,z⟩:=F.ex;exact .all (h kV doc pm an cdv ct)
theorem Q0{x qual:Str}{st:Stmt}{f:Addr}{oc:Value}{od an:Option Addr}{osl:Array (Option Value)}{kV doc pm cdv ct:Value}(l:K.lookup f=some ⟨oc,od,.func (PySem.W.fnOf x qual (defArgs st) (defBody st) (defScope st) .none kV doc pm an cdv ct),osl⟩)
 (c:PySem.W.codeIn K cdv qual=true) (k:PySem.W.keepIn K (.ref f)=true):Fun K x qual st f (PySem.W.fnOf x qual (defArgs st) (defBody st) (defScope st) .none kV doc pm an cdv ct):=⟨⟨oc,od,kV,doc,pm,an,cdv,ct,osl,rfl,l,c⟩,k⟩
end
def Same(H H':Hp):Prop:=∀b o,H b=some o->H' b=some o
theorem Same.refl(H:Hp):Same H H:=λ_ _ h=>h
theorem Same.trans{H H1 H2:Hp}(a:Same H H1)(b:Same H1 H2):Same H H2:=λc o h=>b c o (a c o h)
theorem Same.free{H H':Hp}(e:Same H H'){l:Addr}(h:H' l=Option.none):H l=Option.none:=by
 cases q:H l with
 | none=>rfl
 | some o=>
  rw [e l o q]at h;cases h
theorem Same.seq{K:PySem.W.Frag}{H H':Hp}{a:Addr}{xs:List V}(e:Same H H')(h:SqL K H a xs):SqL K H' a xs:=by
 rcases h with(h | ⟨o,h⟩) | h
 ·exact .inl (.inl (e _ _ h))
 ·exact .inl (.inr ⟨o,e _ _ h⟩)
 ·exact .inr h
def Zj(cells:List (Str×Addr)):List (Str×NameKind)->List (Str×Addr)->List (Str×Addr)
 | [],acc=>acc
 | (n,k)::r,acc=>Zj cells r (if k==NameKind.free then (match cells.lookup n with | some c=>(n,c)::acc | none=>acc)else acc)
theorem xw{env:Env}(f:Str×NameKind->List (Str×Addr)->Sem (ForInStep (List (Str×Addr))))
 (I : ∀name kind J,f (name,kind) J=if kind==NameKind.free then (do let a <- cellOf env name;pure (.yield ((name,a)::J)))else pure (.yield J)) :
 ∀(names:List (Str×NameKind)) (acc:List (Str×Addr)),(∀n,(n,NameKind.free)∈names->∃c,env.cells.lookup n=some c)->
  forIn names acc f=(pure (Zj env.cells names acc):Sem _)
 | [],acc,_=>by rw [List.forIn_nil];rfl
 | (n,k)::r,acc,h=>by
  rw [List.forIn_cons,I];have O : ∀n,(n,NameKind.free)∈r->∃c,env.cells.lookup n=some c:=λm hm=>h m (zhs _ hm);unfold Zj;by_cases z:(k==NameKind.free)=true
  ·rw [if_pos z,if_pos z]
   have a0:k=NameKind.free:=by simpa using z
   subst a0;obtain⟨c,Y⟩:=h n zhq;have e:cellOf env n=pure c:=by unfold cellOf;rw [Y]
   rw [e,Y];exact xw f I r _ O
  ·rw [if_neg z,if_neg z]
   exact xw f I r acc O
theorem w6{scope:Scope}{env:Env}(h : ∀n,(n,NameKind.free)∈scope.names->∃c,env.cells.lookup n=some c) :
 closureFor scope env=pure (Zj env.cells scope.names []):=by
 simp only [closureFor];rw [xw (env:=env) _ (λname kind z=>by cases hk:kind==NameKind.free<;>simp [hk]) scope.names [] h];rfl
theorem qz{M:Model}{A:Around}{E:Value->Shared->Prop}{s:Shared}{scope:Scope}{globals:Addr}{cl:List (Str×Addr)}{qual:Str}{env:Env}{Q:Env->Shared->Prop}
 (z:Q {scope:=scope,locals:=s.heap.objs.size,globals:=globals,cells:=cellsFrom (s.heap.objs.size+1) scope.names cl,qual:=qual,func:=none,code:=env.code,frame:=env.frame,builtins:=env.builtins}
   {s with heap:=pushCells (s.heap.push {cls:= .type "dict",data:= .dict #[]}) scope.names}) :
 wpAny M A (newFunctionEnv scope globals cl [] qual none .none (some env)) Q E s:=by
 simp only [newFunctionEnv,Option.isSome_some,if_true];refine zhb (wpAny_alloc ?_);refine zhb (wpAny_layCells _ (λname kind cells=>by cases hkc:kind==ziS<;>simp [hkc]) _ _ _ _ ?_);rw [show({s with heap:=s.heap.push {cls:= .type "dict",data:= .dict #[]}}:Shared).heap.objs.size=s.heap.objs.size+1 from zia ..];exact zhb (zhi (zhi z))
theorem QO{cells:List (Str×Addr)}{n:Str}{c:Addr} : ∀{names:List (Str×NameKind)} {acc:List (Str×Addr)},(n,c)∈Zj cells names acc->(n,c)∈acc\/((n,NameKind.free)∈names/\cells.lookup n=some c)
 | [],acc,h=> .inl h
 | (m,k)::r,acc,h=>by
  unfold Zj at h;rcases QO h with g | ⟨h1,h2⟩
  ·clear h
   by_cases z:(k==NameKind.free)=true
   ·rw [if_pos z]at g
    have I:k=NameKind.free:=by simpa using z
    subst I;cases e:cells.lookup m with
    | none=>rw [e]at g;exact .inl g
    | some c'=>
     rw [e]at g;rcases zhv.mp g with g | g
     ·cases g;exact .inr ⟨zhq,e⟩
     ·exact .inl g
   ·rw [if_neg z]at g;exact .inl g
  ·exact .inr ⟨zhs _ h1,h2⟩
theorem ve{cells:List (Str×Addr)}{n:Str} : ∀{names:List (Str×NameKind)} {acc:List (Str×Addr)},((acc.lookup n).isSome=true\/((n,NameKind.free)∈names/\(cells.lookup n).isSome=true))->((Zj cells names acc).lookup n).isSome=true
 | [],acc,h=>by
  rcases h with h | ⟨h,_⟩
  ·exact h
  ·cases h
 | (m,k)::r,acc,h=>by
  unfold Zj;apply ve;by_cases z:(k==NameKind.free)=true
  ·rw [if_pos z]
   have J:k=NameKind.free:=by simpa using z
   subst J;cases e:cells.lookup m with
   | none=>
    rcases h with h | ⟨h1,h2⟩
    ·exact .inl h
    ·rcases zhv.mp h1 with h1 | h1
     ·cases h1;rw [e]at h2;cases h2
     ·exact .inr ⟨h1,h2⟩
   | some c'=>
    dsimp only;by_cases I:n=m
    ·subst I;left;simp
    ·rcases h with h | ⟨h1,h2⟩
     ·left;rw [zh4];split<;>simp_all
     ·rcases zhv.mp h1 with h1 | h1
      ·cases h1;exact absurd rfl I
      ·exact .inr ⟨h1,h2⟩
  ·rw [if_neg z]
   rcases h with h | ⟨h1,h2⟩
   ·exact .inl h
   ·rcases zhv.mp h1 with h1 | h1
    ·cases h1;exact absurd rfl z
    ·exact .inr ⟨h1,h2⟩
theorem qi{n:Str}{c:Addr} : ∀{names:List (Str×NameKind)} {k:Nat} {acc:List (Str×Addr)},(n,c)∈cellsFrom k names acc->(n,c)∈acc\/(k<=c/\(n,ziS)∈names)
 | [],_,_,h=> .inl h
 | (m,kd)::r,k,acc,h=>by
  unfold cellsFrom at h;split at h
  ·rename_i z
   have I:kd=ziS:=by simpa using z
   subst I;rcases qi h with h | ⟨h1,h2⟩
   ·rcases zhv.mp h with h | h
    ·cases h;exact .inr ⟨zhn _,zhq⟩
    ·exact .inl h
   ·exact .inr ⟨by omega,zhs _ h2⟩
  ·rcases qi h with h | ⟨h1,h2⟩
   ·exact .inl h
   ·exact .inr ⟨h1,zhs _ h2⟩
theorem qS : ∀{names:List (Str×NameKind)} {k:Nat} {acc:List (Str×Addr)},(∀p∈acc,∀q∈acc,p.2=q.2->p.1=q.1)->(∀p∈acc,p.2<k)->
 ∀p∈cellsFrom k names acc,∀q∈cellsFrom k names acc,p.2=q.2->p.1=q.1
 | [],_,_,h,_=>h
 | (m,kd)::r,k,acc,h,hl=>by
  unfold cellsFrom;split
  ·refine qS (λp z q I e=>?_) (λp z=>?_)
   ·rcases zhv.mp z with rfl | z<;>rcases zhv.mp I with rfl | I
    ·rfl
    ·have J:k=q.2:=e
     exact absurd (J ▸ hl q I) (zif _)
    ·have J:p.2=k:=e
     exact absurd (J ▸ hl p z) (zif _)
    ·exact h p z q I e
   ·rcases zhv.mp z with rfl | z
    ·exact zir _
    ·exact zhY (hl p z)
  ·exact qS h hl
theorem vq : ∀{names:List (Str×NameKind)} {h:Heap} {acc:List (Str×Addr)} {n:Str} {c:Addr},(n,c)∈cellsFrom h.objs.size names acc->(n,c)∈acc\/(pushCells h names).IsCell c none
 | [],_,_,_,_,hm=> .inl hm
 | (m,kd)::r,h,acc,n,c,hm=>by
  unfold cellsFrom at hm;unfold pushCells;split at hm
  ·rename_i z
   rw [if_pos z];have e:h.objs.size+1=(h.push {cls:= .type "cell",data:= .cell none}).objs.size:=(zia ..).symm;rw [e]at hm;rcases vq hm with hm | hm
   ·rcases zhv.mp hm with hm | hm
    ·cases hm
     have I:(h.push {cls:= .type "cell",data:= .cell none}).IsCell h.objs.size none:=⟨{cls:= .type "cell",data:= .cell none},zhw _ rfl,rfl⟩;exact .inr (I.keeps λb o q=>zjQ _ _ b o q)
    ·exact .inl hm
   ·exact .inr hm
  ·rename_i z
   rw [if_neg z];exact vq hm
theorem xJ{α:Type}{l:List (Str×α)}(nd:(l.map (·.1)).Nodup) : ∀{n:Str} {a:α},(n,a)∈l->l.lookup n=some a:=by
 induction l with
 | nil=>intro n a h;cases h
 | cons p r z=>
  intro n a h;obtain⟨m,b⟩:=p;rw [zhI,zit]at nd;rw [zh4];rcases zhv.mp h with h | h
  ·cases h;simp
  ·have I:(n==m)=false:=by
    have:n≠m:=λe=>nd.1 (by rw [<- e];exact ziJ.mpr ⟨(n,a),h,rfl⟩);simpa using this
   rw [I];exact z nd.2 h
theorem xS(scope:Scope)(env:Env)(x:Str):(relabel scope env).names.lookup x =
 (scope.names.lookup x).map λk=>if (k==NameKind.free && env.scope.kind == .function && env.kindOf x==some .cell)then ziS else k:=by
 unfold relabel;dsimp only;generalize scope.names=l
 induction l with
 | nil=>rfl
 | cons p r I=>
  obtain⟨n,k⟩:=p;rw [zhI];cases hx:x==n with
  | true=>
   have e:x=n:=by simpa using hx
   subst e;rw [zh4,zh4];dsimp only;by_cases z:(k==NameKind.free && env.scope.kind == .function && env.kindOf x==some .cell)=true
   ·rw [if_pos z,beq_self_eq_true];dsimp only [zj3];rw [if_pos z]
   ·rw [if_neg z,beq_self_eq_true];dsimp only [zj3];rw [if_neg z]
  | false=>
   have : ∀J,zjh x ((n,J)::(r.map λx=>match x with | (n,k)=>if (k==NameKind.free && env.scope.kind == .function && env.kindOf n==some .cell)=true then (n,ziS)else (n,k)))=zjh x (r.map λx=>match x with | (n,k)=>if (k==NameKind.free && env.scope.kind == .function && env.kindOf n==some .cell)=true then (n,ziS)else (n,k)):=λJ=>by
    rw [zh4,hx]
   rw [zh4 (k:=n),hx];dsimp only;split
   ·rw [this];exact I
   ·rw [this];exact I
def kG(scope:Scope)(env:Env)(L:Addr):Env:=
 {scope:=relabel scope env,locals:=L,globals:=env.globals,cells:=cellsFrom (L+1) scope.names (Zj env.cells scope.names []),qual:=env.qual,func:=none,code:=env.code,frame:=env.frame,builtins:=env.builtins}
def zT(X:Cx)(scope:Scope)(N':List Str)(fp:List Addr)(s2:Shared)(H2:Hp):Cx:=
 {X with N:=N',s₀:=s2,H₀:=H2,env:=kG scope X.env (s2.heap.objs.size+1),outer:=X.stack,stack:=X.stack,ex:=fp,fn:=λx=>scope.names.lookup x==some .cell,pn:=[],xe:=λ_ _=>False}
structure CompOk(X:Cx)(scope:Scope)(fr:List (Str×Nat)):Prop where
 kind:scope.kind = .function
 nd:(scope.names.map (·.1)).Nodup
 free : ∀p∈scope.names,p.2=NameKind.free->X.env.kindOf p.1=some .cell\/X.env.kindOf p.1=some .free
 fr : ∀p∈fr,scope.names.lookup p.1=some .free/\X.N[p.2]? = some p.1
def pull(own:List Str)(fr:List (Str×Nat))(σ:St):St:=own.map (λ_=>none)++fr.map λp=>(σ[p.2]?).join
abbrev JS:Obj:={cls:= .type "list",data:= .seq #[]}
abbrev zaF:Obj:={cls:= .type "dict",data:= .dict #[]}
theorem WM{X:Cx}{pins:List (Addr×Obj)}{σ:St}{H2:Hp}{s2:Shared}{scope:Scope}{own:List Str}{fr:List (Str×Nat)}{fp:List Addr}(I:Inv X pins σ H2 s2)(ok:CompOk X scope fr)
 (a3 : ∀b∈fp,FpOk X pins H2 b) (ag : ∀b∈fp,∃o,s2.heap.get? b=some o) :
 Inv (zT X scope (own++fr.map (·.1)) fp s2 H2) [] (pull own fr σ) (upd H2 s2.heap.objs.size (.lst [])) {s2 with heap:=pushCells ((s2.heap.push JS).push zaF) scope.names}:=by
 have z1:(s2.heap.push JS).objs.size=s2.heap.objs.size+1:=zia ..;have z2:((s2.heap.push JS).push zaF).objs.size=s2.heap.objs.size+2:=by rw [zia,z1]
 have Y : ∀n c,(n,c)∈Zj X.env.cells scope.names []->(n,NameKind.free)∈scope.names/\X.env.cells.lookup n=some c:=λn c h=>(QO h).resolve_left ⋯;have a9 : ∀n c,X.env.cells.lookup n=some c->c<s2.heap.objs.size:=λn c h=>by obtain⟨v,q⟩:=I.cell n c h;exact q.lt
 have ah : ∀p∈Zj X.env.cells scope.names [],p.2<s2.heap.objs.size+1+1:=λp O=>by
  exact zhY (zhY (a9 p.1 p.2 (Y p.1 p.2 O).2))
 have hC:(kG scope X.env (s2.heap.objs.size+1)).cells=cellsFrom (s2.heap.objs.size+2) scope.names (Zj X.env.cells scope.names []):=rfl;have cells : ∀x c,(kG scope X.env (s2.heap.objs.size+1)).cells.lookup x=some c->((x,NameKind.free)∈scope.names/\X.env.cells.lookup x=some c)\/(s2.heap.objs.size+2<=c/\(x,ziS)∈scope.names):=λx c h=>by
  rcases qi (mem_of_lookup h)with h | h
  ·exact .inl (Y x c h)
  ·exact .inr h
 have aa : ∀x,(x,NameKind.free)∈scope.names->∃c,X.env.cells.lookup x=some c/\(kG scope X.env (s2.heap.objs.size+1)).cells.lookup x=some c:=λx hx=>by
  obtain⟨c,hc⟩:=I.ok.has x (ok.free (x,.free) hx rfl);have h1:((Zj X.env.cells scope.names []).lookup x).isSome=true:=ve (.inr ⟨hx,by rw [hc];rfl⟩);have h2:=zjl scope.names (s2.heap.objs.size+2) (Zj X.env.cells scope.names []) (.inr h1);obtain⟨c',ab⟩:=ziF.mp h2;refine⟨c,hc,?_⟩;rcases cells x c' ab with⟨_,q⟩ | ⟨_,q⟩
  ·rw [hc]at q;cases q;exact ab
  ·exact absurd ((xJ ok.nd q).symm.trans (xJ ok.nd hx)) ⋯
 have keep : ∀b o,s2.heap.get? b=some o->(pushCells ((s2.heap.push JS).push zaF) scope.names).get? b=some o:=λb o e=>
  zjQ _ _ b o (zhc _ (zhc _ e))
 have ac : ∀b∈fp,b<s2.heap.objs.size:=λb J=>by obtain⟨o,e⟩:=ag b J;exact zhu e
 have fresh:H2 s2.heap.objs.size=none:=I.hok.fresh (zhn _);have ae : ∀c,s2.heap.objs.size<c->(upd H2 s2.heap.objs.size (.lst [])) c=none:=λc hc=>by
  rw [zy (ziW hc)];exact I.hok.fresh (zj9 hc)
 obtain⟨m0,aj⟩ : ∃m,(pushCells ((s2.heap.push JS).push zaF) scope.names).Ns (s2.heap.objs.size+1) m:=by
  have q:=(Heap.Ns.new (s2.heap.push JS) (.type "dict")).keeps (λb o e=>zjQ scope.names _ b o e);rw [z1]at q;exact⟨_,q⟩
 refine⟨⟨I.ok.mod,ok.kind,I.ok.glob,I.ok.blt,zkm _,λx y c h1 h2=>?_,λx hx=>?_,λx c hf h=>?_,I.ok.hd,I.ok.frames,.inl rfl,λb J=>⟨?_,λx c h z=>?_⟩,λb o e=>I.bs b o e,?_,λb o e J=>?_,λb J hs=>?_,I.stack,I.stkFree⟩,
  rfl,I.bare,Un.laid keep (zhn _) fresh,⟨m0,aj,λi x v e1 e2 e3=>?_⟩,λx c h=>?_,?_,λx c h=>?_,λp O=>?_,?_,?_⟩
 ·have q:=qS (names:=scope.names) (k:=s2.heap.objs.size+2) (acc:=Zj X.env.cells scope.names []) (λp O q hq e=>I.ok.inj p.1 q.1 p.2 (Y _ _ O).2 (by rw [e];exact(Y _ _ hq).2)) ah
  exact q (x,c) (mem_of_lookup h1) (y,c) (mem_of_lookup h2) rfl
 ·have a1:(relabel scope X.env).names.lookup x=some .cell\/(relabel scope X.env).names.lookup x=some .free:=hx
  have:scope.names.lookup x=some .cell\/scope.names.lookup x=some .free:=by
   rw [xS]at a1;cases e:scope.names.lookup x with
   | none=>rw [e]at a1;simp at a1
   | some k=>
    rw [e]at a1;cases k<;>simp at a1 ⊢
  rcases this with h | h
  ·exact ziF.mp (zjl scope.names _ _ (.inl h))
  ·obtain⟨c,_,h2⟩:=aa x (mem_of_lookup h);exact⟨c,h2⟩
 ·have ao:(scope.names.lookup x==some .cell)=true:=hf
  have ap:scope.names.lookup x=some .cell:=by simpa using ao
  rcases cells x c h with⟨q,_⟩ | ⟨q,_⟩
  ·exact absurd ((xJ ok.nd q).symm.trans ap) ⋯
  ·exact zh3 (zh8 _ 2) q
 ·exact zhG (zhY (ac b J))
 ·rcases cells x c h with⟨_,q⟩ | ⟨q,_⟩
  ·exact(a3 b J).2.2.2.2.1 x c q z
  ·exact absurd (zhx (ac b J) (zh3 (zh8 _ 2) (z ▸ q))) (zif _)
 ·exact zh3 I.ok.bsz I.sz
 ·rcases (a3 b J).2.2.2.1 with q | q
  ·exact I.ok.noex b o e q
  ·exact absurd (zhx (zhu e) (zh3 I.ok.bsz q)) (zif _)
 ·rcases zhv.mp (I.stkSub b hs)with q | q
  ·exact(a3 b J).2.1 q
  ·exact(a3 b J).2.2.1 q
 ·have hi:i<(own++fr.map (·.1)).length:=(zhg.mp e1).1
  by_cases a6:i<own.length
  ·unfold pull at e2
   rw [zhL (by simpa using a6)]at e2;simp [zhz,a6]at e2
  ·have hj : ∃p,fr[i - own.length]? = some p/\p.1=x/\(σ[p.2]?).join=some v:=by
    unfold pull at e2;have a2:(own++fr.map (·.1))[i]? = some x:=e1;rw [zhS ⋯,zhz]at a2;rw [zhS (by simpa using a6),zhz,zhB]at e2;cases q:fr[i - own.length]? with
    | none=>rw [q]at a2;cases a2
    | some p=>
     rw [q]at a2 e2;exact⟨p,rfl,by simpa using a2,by simpa using e2⟩
   obtain⟨p,O,ar,a4⟩:=hj;obtain⟨g1,g2⟩:=ok.fr p (zhE O);rw [ar]at g1 g2;have hσ:σ[p.2]? = some (some v):=by
    cases q:σ[p.2]? with
    | none=>rw [q]at a4;cases a4
    | some o=>rw [q]at a4;simpa using a4
   have af:=ok.free (x,.free) (mem_of_lookup g1) rfl;obtain⟨m,hn,hl⟩:=I.loc;obtain⟨u,ru,lk⟩:=hl p.2 x v g2 hσ (by rcases af with k | k;exact .inr (.inl k);exact .inr (.inr k));refine⟨u,ru,.inr ?_⟩;obtain⟨c,aw,ax⟩:=aa x (mem_of_lookup g1);have ay:s2.heap.IsCell c (some u):=by
    rcases lk with⟨k,_⟩ | ⟨_,c',e,z⟩
    ·rcases af with k' | k'<;>rw [k]at k'<;>cases k'
    ·rw [aw]at e;cases e;exact z
   refine⟨?_,c,ax,ay.keeps keep⟩;show(relabel scope X.env).names.lookup x=some .cell\/(relabel scope X.env).names.lookup x=some .free;rw [xS,g1];dsimp only [zj3];split
   ·exact .inl rfl
   ·exact .inr rfl
 ·rcases qi (mem_of_lookup h)with q | q
  ·obtain⟨v,w'⟩:=I.cell x c (Y x c q).2
   exact⟨v,w'.keeps keep⟩
  ·have q2:=mem_of_lookup h
   have q3:(x,c)∈cellsFrom ((s2.heap.push JS).push zaF).objs.size scope.names (Zj X.env.cells scope.names []):=by rw [z2];exact q2
   rcases vq q3 with q4 | q4
   ·obtain⟨v,w'⟩:=I.cell x c (Y x c q4).2
    exact⟨v,w'.keeps keep⟩
   ·exact⟨none,q4⟩
 ·exact ae _ (zir _)
 ·rcases cells x c h with⟨_,q⟩ | ⟨q,_⟩
  ·rw [zy (zhG (a9 x c q))];exact I.freeC x c q
  ·exact ae c (zhx (zhY (zir _)) q)
 ·exact absurd (show p∈([]:List (Addr×Obj))from O) ⋯
 ·refine I.hok.laid keep (zhn _) ⟨zik _,[],0,.nil,?_⟩
  exact zjQ _ _ _ _ (zhc _ (zhw _ rfl))
 ·show(pull own fr σ).length=(own++fr.map (·.1)).length
  simp [pull]
theorem xO{prog:Program}{w:World}{A:Around}{R:Result->Shared->Prop}{s:Shared}{elt J iter:Expr}{ifs:List Expr}{scope:Scope}{pos:Pos}{it acc:Value}{env:Env}(I:Nat->Shared->Prop)
 (a4 : ∀n s,I n s->wpAny (model prog w) A (pyNext it) (λr z=>match r with
   | none=>R (.ok .next) z
   | some v=>wpAny (model prog w) A (letOwnedTupleGo J it v) (λ_ z=>wpAny (model prog w) A (assign J env v) (λ_ Y=>
    wpAny (model prog w) A (forIn ifs true λc r=>if r=true then do let ok <- isTrue c env (eval c env);pure (zjV ok)else pure (zjV r)) (λok O=>
     if ok=true then wpAny (model prog w) A (eval elt env) (λx s₄=>
      wpAny (model prog w) A (call (.builtin "list.append") [acc,x]) (λ_ s₅=>∃m,m<n/\I m s₅) (λ_ _=>False) s₄) (λ_ _=>False) O
     else ∃m,m<n/\I m O) (λ_ _=>False) Y) (λ_ _=>False) z) (λ_ _=>False) z) (λ_ _=>False) s)
 (n:Nat) (h:I n s) :
 codeAny (model prog w) A (.compLoop (.ListComp elt [⟨J,iter,ifs,0⟩] scope pos) 0 it acc env) R s:=by
 refine codeAny_loop rfl I (λn s hI=>?_) n h;show wpAny _ A ((compTurn (.ListComp elt [⟨J,iter,ifs,0⟩] scope pos) 0 it acc env).onRaise (λx=>do noteFrame x env;theTreesLotGoes x)) _ _ s;refine wpAny_noted ?_;rw [compTurn_list];refine zhb (wpAny_standAt (zhb (ziZ (a4 n s hI) (λr z h₁=>?_) λ_ _ h'=>h'.elim)));cases r with
 | none=>exact zhi h₁
 | some v=>
  refine zhb (ziZ h₁ (λ_ aa a6=>?_) λ_ _ h'=>h'.elim);refine zhb (ziZ a6 (λ_ Y h₂=>zhb (ziZ h₂ (λok O h₃=>?_) λ_ _ h'=>h'.elim)) λ_ _ h'=>h'.elim);cases ok with
  | false=>exact zhi ⟨rfl,h₃⟩
  | true=>
   exact zhb (zhb (ziZ h₃ (λx s₄ h₄=>zhb (ziZ h₄ (λ_ s₅ h₅=>zhi (zhi ⟨rfl,h₅⟩)) λ_ _ h'=>h'.elim)) λ_ _ h'=>h'.elim))
def zcv(X:Cx)(ifs:List Expr)(t:TT):Prop:=
 ∀(pins:List (Addr×Obj)) (s:Shared) (σ:St) (H:Hp) (Q:Bool->Hp->Prop),Inv X pins σ H s->t σ H Q->
  wpAny (model X.prog X.w) X.A (forIn ifs true λc r=>if r=true then do let ok <- isTrue c X.env (eval c X.env);pure (zjV ok)else pure (zjV r)) (TP X pins σ Q) X.xe s
def ze8:TT:=λ_ H Q=>Q true H
theorem wQ{X:Cx}:zcv X [] ze8:=λ_ _ _ H _ I h=>wpAny_tests_nil ⟨H,I,h⟩
theorem QG{X:Cx}{c:Expr}{t:TT}(h:PT X c t):zcv X [c] t:=λpins s σ H Q I z=>wpAny_tests_one (h pins s σ H Q I z)
def CW(J:It)(g:TG)(tt:TT)(te:TE)(D:Addr)(Q:VK)(W:Nat->Nat->List V->St->Hp->Prop):Prop:=
 ∀i m ys σ H,W i m ys σ H->H D=some (.lst ys)/\((J.stop i H/\Q (.ref D) H)\/(J.go i H/\ys.length<sizeLine/\∀x H',J.yld i H x H'->g x σ H' λz H2=>tt z H2 λb I=>
  if b=true then te z I λv O=>O D=some (.lst ys)/\∃m',m'<m/\W (i+1) m' (ys++[v]) z (upd O D (.lst (ys++[v])))else ∃m',m'<m/\W (i+1) m' ys z I))
def zaa(X:Cx)(pins:List (Addr×Obj))(H:Hp)(L:Addr):Prop:=
 H L=none/\L≠X.env.locals/\X.s₀.heap.objs.size<=L/\(∀x c,X.env.cells.lookup x=some c->c≠L)/\∀p∈X.pn++pins,p.1≠L
theorem W0{X:Cx}{pins:List (Addr×Obj)}{σ:St}{H2:Hp}{s2:Shared}{scope:Scope}{own:List Str}{fr:List (Str×Nat)}{fp:List Addr}{it:Addr}{tn:Nat->Heap->Prop}{J:It}{elt tg iter:Expr}{ifs:List Expr}{pos:Pos}{g:TG}{tt:TT}{te:TE}{Q:VK}{E:Value->Shared->Prop}
 (hc:X.calm=true) (I:Inv X pins σ H2 s2) (ok:CompOk X scope fr) (T:Turn X.prog X.w X.K tg J fp it tn) (st:tn 0 s2.heap) (a0 : ∀b∈fp,FpOk X pins H2 b)
 (hg:PG (zT X scope (own++fr.map (·.1)) fp s2 H2) tg g) (ht:zcv (zT X scope (own++fr.map (·.1)) fp s2 H2) ifs tt) (he:PE (zT X scope (own++fr.map (·.1)) fp s2 H2) elt te)
 (hW : ∀D,H2 D=none->∃W:Nat->Nat->List V->St->Hp->Prop,(∃m,W 0 m [] (pull own fr σ) (upd H2 D (.lst [])))/\CW J g tt te D Q W) :
 wpAny (model X.prog X.w) X.A (newList []) (λacc s₃=>wpAny (model X.prog X.w) X.A (newFunctionEnv scope X.env.globals (Zj X.env.cells scope.names []) [] X.env.qual none .none (some X.env)) (λab s₄=>
  codeAny (model X.prog X.w) X.A (.compStart (.ListComp elt [⟨tg,iter,ifs,0⟩] scope pos) 0 (.ref it) acc {ab with scope:=relabel scope X.env})
   (λr s'=>(∃f,r = .ok f)/\∃D H',acc = .ref D/\Inv X pins σ H' s'/\Q (.ref D) H'/\(∃m,s'.heap.Ns ab.locals m)/\zaa X pins H' ab.locals) s₄) E s₃) E s2:=by
 have am : ∀b∈fp,∃o,s2.heap.get? b=some o:=λb O=>by obtain⟨o,e,_⟩:=T.obj 0 _ st b O;exact⟨o,e⟩
 have I0:=WM (own:=own) I ok a0 am;obtain⟨W,⟨m0,w0⟩,cw⟩:=hW _ I.fresh;refine zij (qz ?_);have z1:(s2.heap.push JS).objs.size=s2.heap.objs.size+1:=zia ..;show codeAny _ _ (.compStart _ 0 (.ref it) (.ref s2.heap.objs.size) {scope:=relabel scope X.env,locals:=(s2.heap.push JS).objs.size,globals:=X.env.globals,cells:=cellsFrom ((s2.heap.push JS).objs.size+1) scope.names (Zj X.env.cells scope.names []),qual:=X.env.qual,func:=none,code:=X.env.code,frame:=X.env.frame,builtins:=X.env.builtins})
  (λr s'=>(∃f,r = .ok f)/\∃D H',zhH s2.heap.objs.size = .ref D/\Inv X pins σ H' s'/\Q (.ref D) H'/\(∃m,s'.heap.Ns (s2.heap.push JS).objs.size m)/\zaa X pins H' (s2.heap.push JS).objs.size) {s2 with heap:=pushCells ((s2.heap.push JS).push zaF) scope.names}
 rw [z1];have an:tn 0 (pushCells ((s2.heap.push JS).push zaF) scope.names):=T.keep 0 _ _ st λb _ o e=>zjQ _ _ b o (zhc _ (zhc _ e));have bf : ∀b∈fp,b<s2.heap.objs.size:=λb O=>by obtain⟨o,e⟩:=am b O;exact zhu e
 have ac : ∀{H':Hp},(∀b∈fp,H' b=none)->∀b∈fp,FpOk (zT X scope (own++fr.map (·.1)) fp s2 H2) [] H' b:=λhn b O=>
  ⟨hn b O,(I0.ok.exf b O).1,I0.ok.exfs b O,.inl O,(I0.ok.exf b O).2,λp hp=>absurd (show p∈([]:List (Addr×Obj))from hp) ⋯⟩
 have ao:codeAny (model X.prog X.w) X.A (.compLoop (.ListComp elt [⟨tg,iter,ifs,0⟩] scope pos) 0 (.ref it) (.ref s2.heap.objs.size) (kG scope X.env (s2.heap.objs.size+1)))
  (λr s'=>(∃f,r = .ok f)/\∃D H',zhH s2.heap.objs.size = .ref D/\Inv X pins σ H' s'/\Q (.ref D) H'/\(∃m,s'.heap.Ns (s2.heap.objs.size+1) m)/\zaa X pins H' (s2.heap.objs.size+1)) {s2 with heap:=pushCells ((s2.heap.push JS).push zaF) scope.names}:=by
  refine xO (λn s'=>∃i ys σ' H',Inv (zT X scope (own++fr.map (·.1)) fp s2 H2) [] σ' H' s'/\tn i s'.heap/\(∀b∈fp,H' b=none)/\W i n ys σ' H') ?_ m0
   ⟨0,[],_,_,I0,an,λb O=>by rw [zy (zhG (bf b O))];exact(a0 b O).1,w0⟩
  rintro n s3 ⟨i,ys,σ3,H3,I3,st3,ar,w3⟩;obtain⟨hD,bg⟩:=cw i n ys σ3 H3 w3;rcases bg with⟨stop,qn⟩ | ⟨go,hz,step⟩
  ·refine thn (T.done (zT X scope (own++fr.map (·.1)) fp s2 H2) rfl rfl rfl hc i [] s3 σ3 H3 _ I3 (ac ar) st3 stop) λr s4 Y=>?_
   obtain⟨hr,I4⟩:=Y;subst hr;refine⟨⟨_,rfl⟩,_,H3,rfl,I.call' (ch:=fp) I4.os I4.base I4.hok I4.bare (λb O=>⟨(a0 b O).2.2.2.1,(a0 b O).2.1,(a0 b O).2.2.2.2.1,(a0 b O).2.2.2.2.2⟩),qn,?_,I4.free,?_,?_,?_,?_⟩
   ·obtain⟨m,hn,_⟩:=I4.loc
    exact⟨m,hn⟩
   ·exact ziW (zhY I.lt)
   ·exact zkD I.sz
   ·intro x c e z
    obtain⟨v,q⟩:=I.cell x c e;exact absurd (zhY q.lt) (by rw [z];exact zif _)
   ·intro p hp z
    exact absurd (zhY (zhu (I.pin p hp).1)) (by rw [z];exact zif _)
  ·refine thn (T.item (zT X scope (own++fr.map (·.1)) fp s2 H2) rfl rfl rfl hc i [] s3 σ3 H3 _ I3 (ac ar) st3 go) λr s4 Y=>?_
   obtain⟨u,hr,h4⟩:=Y;subst hr;refine thn h4 λ_ s5 Y=>?_;obtain⟨x,H5,I5,r5,y5,ag,bo⟩:=Y;have bp:=I5.pinned (ac bo) (T.obj _ _ ag);refine thn (hg _ s5 σ3 H5 x u _ bp r5 (step x H5 y5)) λ_ s6 Y=>?_;obtain⟨σ6,H6,I6,q6⟩:=Y;refine thn (ht _ s6 σ6 H6 _ I6 q6) λb s7 Y=>?_;obtain⟨H7,I7,q7⟩:=Y;have after : ∀{σ8:St} {H8:Hp} {s8:Shared},Inv (zT X scope (own++fr.map (·.1)) fp s2 H2) ([]++ZQ fp s5.heap) σ8 H8 s8->tn (i+1) s8.heap/\∀b∈fp,H8 b=none:=λ{σ8 H8 s8} I8=>by
    refine⟨T.keep _ _ _ ag λb O o e=>(I8.pin (b,o) (zh5 _ (zh5 _ (xI O e)))).1,λb O=>?_⟩;obtain⟨o,e,d⟩:=T.obj _ _ ag b O;exact(I8.pin (b,o) (zh5 _ (zh5 _ (xI O e)))).2.1
   cases b with
   | false=>
    rw [if_neg zhA]at q7 ⊢;obtain⟨m',hm,w7⟩:=q7;exact⟨m',hm,i+1,ys,σ6,H7,I7.unpinned,(after I7).1,(after I7).2,w7⟩
   | true=>
    rw [if_pos rfl]at q7 ⊢;refine thn (he _ s7 σ6 H7 _ I7 q7) λv8 s8 Y=>?_;obtain⟨x8,H8,I8,r8,ax,m',hm,w8⟩:=Y;obtain⟨z8,ay,n8,rv,c6,e8⟩:=I8.lstM ax;refine zjL F.slot_list_append ⟨_,e8,rfl⟩ F.entry_list_append (F.args_list_append_2 _ _) (PySem.list_append _ ay.toArray n8 v8 (by rw [zho];omega)) ⟨e8,?_⟩;have I9:=I8.lset (its':=ay++[v8]) (f:=(·.push v8)) (t':=s8.toks) ax e8 ⋯ (rv.append (.cons r8 .nil)) (by rw [zhQ,ziO];omega);exact⟨m',hm,i+1,ys++[x8],σ6,_,I9.unpinned,(after I9).1,(after I9).2,w8⟩
 exact codeAny_compStart_list ao (T.self _ 0 _ _ _ an ao)
def Kv(wi:TI)(own:List Str)(fr:List (Str×Nat))(g:TG)(tt:TT)(te:TE):TE:=λσ H Q=>wi σ H λJ H1=>∀D,H1 D=none->
 ∃W:Nat->Nat->List V->St->Hp->Prop,(∃m,W 0 m [] (pull own fr σ) (upd H1 D (.lst [])))/\CW J g tt te D Q W
section
variable{X:Cx}{scope:Scope}{own:List Str}{fr:List (Str×Nat)}{elt tg iter:Expr}{ifs:List Expr}{pos:Pos}{wi:TI}{g:TG}{tt:TT}{te:TE}
theorem Xc{use:Option (Value->Sem Unit)}{R:Value->Shared->Prop}{pins:List (Addr×Obj)}{s:Shared}{σ:St}{H:Hp}{Q:VK}
 (z:X.calm=true) (ok:CompOk X scope fr) (hi:PI X tg iter wi) (O : ∀fp s2 H2,PG (zT X scope (own++fr.map (·.1)) fp s2 H2) tg g)
 (Y : ∀fp s2 H2,zcv (zT X scope (own++fr.map (·.1)) fp s2 H2) ifs tt) (he : ∀fp s2 H2,PE (zT X scope (own++fr.map (·.1)) fp s2 H2) elt te)
 (I:Inv X pins σ H s) (h:Kv wi own fr g tt te σ H Q)
 (hR : ∀D H' s' L,Inv X pins σ H' s'->Q (.ref D) H'->(∃m,s'.heap.Ns L m)->zaa X pins H' L->
   compPost (model X.prog X.w) X.A X.xe use R (.ref D) L (.ok .next) s')
 (hs : ∀x,foldedSetIterable iter X.env x=pure x:=by intro _;rfl) :
 wpAny (model X.prog X.w) X.A (comprehension (.ListComp elt [⟨tg,iter,ifs,0⟩] scope pos) scope X.env (firstIterPos [⟨tg,iter,ifs,0⟩] pos) (newList []) false (eval iter X.env) use) R X.xe s:=by
 refine wpAny_comprehension_free rfl hs (w6 λn hn=>I.ok.has n (ok.free (n,.free) hn rfl)) ok.kind (λx hx e=>by rw [<- e];exact xJ ok.nd (show(x.1,x.2)∈scope.names from hx)) ?_;refine thn (hi pins s σ H _ I h) λv s1 h1=>thn h1 λaf s2 h2=>?_;obtain⟨it,fp,tn,J,H2,e,I2,T,a3,f2,hW⟩:=h2;subst e;refine thn (W0 (own:=own) (Q:=Q) (E:=X.xe) z I2 ok T a3 f2 (O fp s2 H2) (Y fp s2 H2) (he fp s2 H2) hW) λacc s3 h3=>thn h3 λa7 s4 h4=>zkh h4 λr s' h5=>?_;obtain⟨⟨f,hr⟩,D,H',ea,I',q,hn,y⟩:=h5;subst hr;subst ea;have q2:=hR D H' s' a7.locals I' q hn y;cases use<;>exact q2
theorem wS(z:X.calm=true)(ok:CompOk X scope fr)(hi:PI X tg iter wi)(J : ∀fp s2 H2,PG (zT X scope (own++fr.map (·.1)) fp s2 H2) tg g)
 (O : ∀fp s2 H2,zcv (zT X scope (own++fr.map (·.1)) fp s2 H2) ifs tt) (he : ∀fp s2 H2,PE (zT X scope (own++fr.map (·.1)) fp s2 H2) elt te)
 (Y : ∀x,foldedSetIterable iter X.env x=pure x:=by intro _;rfl) :
 PE X (.ListComp elt [⟨tg,iter,ifs,0⟩] scope pos) (Kv wi own fr g tt te):=by
 intro pins s σ H Q I h;rw [eval_ListComp];refine Xc (use:=none) z ok hi J O he I h (λD H' s' L I' q hn y=>?_) Y;obtain⟨m,hm⟩:=hn;obtain⟨y1,y2,y3,y4,y5⟩:=y;refine⟨m,hm,λh' sb=>⟨.ref D,H',I'.turned (t':=s'.toks) (it:=L) (λb o hb e=>sb.extBut b o hb e) y1 y2 (.inr y3) y4 y5,rfl,q⟩⟩
theorem wb{y:Str}{z O:Pos}{i:Nat}(Y:X.N.Nodup)(a0:X.N[i]? = some y)(hy:Loc X.env.scope y)(hf:X.fn y=true\/X.env.scope.names.lookup y=some .local)
 (hc:X.calm=true) (ok:CompOk X scope fr) (hi:PI X tg iter wi) (hg : ∀fp s2 H2,PG (zT X scope (own++fr.map (·.1)) fp s2 H2) tg g)
 (ht : ∀fp s2 H2,zcv (zT X scope (own++fr.map (·.1)) fp s2 H2) ifs tt) (he : ∀fp s2 H2,PE (zT X scope (own++fr.map (·.1)) fp s2 H2) elt te)
 (hs : ∀x,foldedSetIterable iter X.env x=pure x:=by intro _;rfl) :
 PS X (.Assign [.Name y z] (.ListComp elt [⟨tg,iter,ifs,0⟩] scope pos) O) (Zi (Kv wi own fr g tt te) (xj i)):=by
 have J : ∃b:Bool,swapsWith (.ListComp elt [⟨tg,iter,ifs,0⟩] scope pos) (some (.Name y z)) O.line X.env=pure b:=⟨_,rfl⟩;obtain⟨b,J⟩:=J;cases b with
 | false=>
  have e1:swapsWithSole [.Name y z] (.ListComp elt [⟨tg,iter,ifs,0⟩] scope pos) O.line X.env=swapsWith (.ListComp elt [⟨tg,iter,ifs,0⟩] scope pos) (some (.Name y z)) O.line X.env:=rfl;exact wc (wS hc ok hi hg ht he hs) (Ye Y a0 hy hf) (by rw [e1];exact J)
 | true=>
  intro pins s σ H D I h;rw [exec_Assign_Name_used _ _ _ _ J];refine zhb (wpAny_standAt (zhb ?_));show wpAny _ X.A (do let _ <- comprehension (.ListComp elt [⟨tg,iter,ifs,0⟩] scope pos) scope X.env _ (newList []) false (eval iter X.env) (some (assign (.Name y z) X.env))) _ _ s;refine zhb (thn (Xc (R:=λ_ s'=>SP X pins D .next s') (use:=some (assign (.Name y z) X.env)) hc ok hi hg ht he I h (λDa H' s' L I' q hn yg=>?_) hs) λ_ s' q=>zhi (zhi q));obtain⟨y1,y2,y3,y4,y5⟩:=yg;obtain⟨m,hm⟩:=hn;show wpAny _ _ (assign (.Name y z) X.env (.ref Da)) _ _ _;refine wpAny_assign_Name (Zr I' Y a0 hy (v:= .ref Da) rfl (λag ah ai=>?_) hf);obtain⟨a,sb,ha⟩:=ai;have ak:L≠a:=by
   rcases ha with e | e
   ·rw [e];exact y2
   ·exact zic (y4 _ _ e)
  refine⟨m,hm.sameBut sb ak,λh' am=>⟨_,_,ah.turned (t':=ag.toks) (it:=L) (λb o J e=>am.extBut b o J e) y1 y2 (.inr y3) y4 y5,q⟩⟩
end
inductive Sk where
 | L | T
 deriving DecidableEq
end L2
namespace DL
open PySem L2
inductive D where
 | non | bl (b:Bool) | int (i:Int) | str (x:Str) | tup (xs:List D) | lst (xs:List D)
 | exc (c:Str) (n:Option Int)
 | dic (ks vs:List D)
 | dct (ks:List (List Int)) (vs:List D)
inductive Cell where
 | no | val (d:D) | own (ds:List D) | nest (rows:List (List D))
abbrev Ctx:=List Cell
abbrev CO (a : Type) := Ctx -> Option a
def lim:Nat:=2500
def jL:D->Option (Sk×List D)
 | .tup ds=>some (.T,ds)
 | .lst ds=>some (.L,ds)
 | _=>none
def zH(f:CO D):CO (Sk×List D):=λγ=>(f γ).bind jL
def qu(f:CO (List D)):CO D:=λγ=>(f γ).map D.lst
def jZ(f:CO (List D)):CO (Sk×List D):=λγ=>(f γ).map λds=>(Sk.L,ds)
def J3:Option Cell->Option D
 | some (.val d)=>some d
 | _=>none
def kc:Option Cell->Option (Sk×List D)
 | some (.val d)=>jL d
 | some (.own ds)=>some (.L,ds)
 | _=>none
def ze(i:Nat):CO D:=λγ=>J3 γ[i]?
def zk(i:Nat):CO (Sk×List D):=λγ=>kc γ[i]?
def zo(d:D):CO D:=λ_=>some d
def zq(F:D->D->Option D)(fa fb:CO D):CO D:=λγ=>(fa γ).bind λx=>(fb γ).bind λy=>F x y
def asB:D->Option Bool
 | .bl b=>some b
 | _=>none
def asI:D->Option Int
 | .int i=>some i
 | _=>none
def sB(f:CO D):CO Bool:=λγ=>(f γ).bind asB
def yU(f g:CO Bool):CO Bool:=λγ=>(f γ).bind λb=>if b=true then g γ else some false
def Xw(f g:CO Bool):CO Bool:=λγ=>(f γ).bind λb=>if b=true then some true else g γ
def qa(f:CO Bool):CO Bool:=λγ=>(f γ).map λb=> !b
def zco(f g:CO D):CO D:=λγ=>((f γ).bind asB).bind λb=>if b=true then g γ else some (.bl false)
def zcV(f:CO D):CO D:=λγ=>((f γ).bind asB).map λb=> .bl (!b)
def zcn(c:CO Bool)(f g:CO D):CO D:=λγ=>(c γ).bind λb=>if b=true then f γ else g γ
def zz:CO (List D):=λ_=>some []
def zc(f:CO D)(g:CO (List D)):CO (List D):=λγ=>(f γ).bind λx=>(g γ).map λr=>x::r
def jC(f:CO (List D)):CO D:=λγ=>(f γ).bind λds=>if ds.length<=lim then some (.tup ds)else none
def x6(f:CO (List D)):CO (List D):=λγ=>(f γ).bind λds=>if ds.length<=lim then some ds else none
inductive Res where
 | val (d:D) | own (ds:List D)
inductive Fl where
 | next (γ:Ctx) | brk (γ:Ctx) | cont (γ:Ctx) | ret (r:Res)
def qF:CO Fl:=λγ=>some (.next γ)
def zZ(F G:CO Fl):CO Fl:=λγ=>(F γ).bind λz=>match z with
 | .next γ'=>G γ'
 | f=>some f
def qo(f:CO D):CO Fl:=λγ=>(f γ).map λd=> .ret (.val d)
def Zy(f:CO (List D)):CO Fl:=λγ=>(f γ).map λd=> .ret (.own d)
def Za:Option Cell->Option Fl
 | some (.val d)=>some (.ret (.val d))
 | some (.own ds)=>some (.ret (.own ds))
 | _=>none
def yN(i:Nat):CO Fl:=λγ=>Za γ[i]?
def VZ:CO Fl:=λγ=>some (.cont γ)
def Zz:CO Fl:=λ_=>none
def sIf(k:CO Bool)(F G:CO Fl):CO Fl:=λγ=>(k γ).bind λb=>if b=true then F γ else G γ
def jv(i:Nat)(f:CO D):CO Fl:=λγ=>(f γ).map λd=> .next (γ.set i (.val d))
def xN(i:Nat)(f:CO (List D)):CO Fl:=λγ=>(f γ).map λds=> .next (γ.set i (.own ds))
def qV:Option Cell->Option (List D)
 | some (.own ds)=>some ds
 | _=>none
def xo(i:Nat)(f:CO D):CO Fl:=λγ=>(qV γ[i]?).bind λds=>(f γ).bind λd=>if ds.length<lim then some (.next (γ.set i (.own (ds++[d]))))else none
def jx(n:Nat)(ds:List D):Ctx:=ds.map Cell.val++zhm (n - ds.length) Cell.no
def jy(n:Nat)(F:CO Fl)(ds:List D):Option Res:=(F (jx n ds)).bind λz=>match z with
 | .ret r=>some r
 | .next _=>some (.val .non)
 | _=>none
def V2:Res->D
 | .val d=>d
 | .own ds=> .lst ds
def zE(F:List D->Option Res)(g:CO (List D)):CO D:=λγ=>(g γ).bind λds=>(F ds).map V2
def zcp:Res->Option (List D)
 | .own ds=>some ds
 | _=>none
def jX(F:List D->Option Res)(g:CO (List D)):CO (List D):=λγ=>(g γ).bind λds=>(F ds).bind zcp
def qy(lo:Int)(n:Nat):List D:=(zhf n).map λ(i:Nat)=>D.int (lo+(i:Int))
def Jv(ds es:List D):List D:=(ds.zip es).map λp=>D.tup [p.1,p.2]
def zG(f:CO (Sk×List D)):CO (List D):=λγ=>(f γ).map (·.2)
def inR(i:Int):Bool:=decide (i.natAbs<2 ^ 62)
def zY(f:CO D):CO (List D):=λγ=>((f γ).bind asI).bind λn=>if inR n=true then some (qy 0 n.toNat)else none
def qA(f g:CO D):CO (List D):=λγ=>((f γ).bind asI).bind λm=>((g γ).bind asI).bind λn=>if inR m=true/\inR n=true then some (qy m (n - m).toNat)else none
def VW(f g:CO D):CO (List D):=λγ=>((f γ).bind jL).bind λm=>((g γ).bind jL).map λn=>Jv m.2 n.2
inductive Tg where
 | nm (i:Nat) | tp (is:List Nat)
def jW:List Nat->List D->Ctx->Ctx
 | i::is,d::ds,γ=>jW is ds (γ.set i (.val d))
 | _,_,γ=>γ
def jN:Tg->D->CO Ctx
 | .nm i,d,γ=>some (γ.set i (.val d))
 | .tp is,.tup ds,γ=>if ds.length=is.length then some (jW is ds γ)else none
 | _,_,_=>none
def xl(T:Tg)(F:CO Fl):List D->CO Fl
 | [],γ=>some (.next γ)
 | d::ds,γ=>(jN T d γ).bind λγ1=>(F γ1).bind λI=>match I with
  | .next z=>xl T F ds z
  | .cont z=>xl T F ds z
  | .brk z=>some (.next z)
  | .ret r=>some (.ret r)
def vK(src:CO (List D))(T:Tg)(F:CO Fl):CO Fl:=λγ=>(src γ).bind λds=>xl T F ds γ
def qh:Cell->Cell
 | .own _=> .no
 | .nest _=> .no
 | c=>c
def jn(n:Nat)(fr:List Nat)(γ:Ctx):Ctx:=zhm n Cell.no++fr.map λj=>qh (γ[j]?.getD .no)
def z7(T:Tg)(k:CO Bool)(f:CO D)(γ:Ctx):List D->Option (List D)
 | []=>some []
 | d::ds=>(jN T d γ).bind λγ1=>(k γ1).bind λb=>if b=true then (f γ1).bind λe=>(z7 T k f γ ds).map λr=>e::r else z7 T k f γ ds
def zJ(src:CO (List D))(T:Tg)(n:Nat)(fr:List Nat)(k:CO Bool)(f:CO D):CO (List D):=λγ=>(src γ).bind λds=>if ds.length<=lim then z7 T k f (jn n fr γ) ds else none
def jF:CO Bool:=λ_=>some true
def Tg.idx:Tg->List Nat
 | .nm i=>[i]
 | .tp is=>is
def dI(g:Int->Int->D):D->D->Option D
 | .int i,.int j=>some (g i j)
 | _,_=>none
def dIc(c:Int->Int->Bool)(g:Int->Int->D):D->D->Option D
 | .int i,.int j=>if c i j=true then some (g i j)else none
 | _,_=>none
def ye:D->D->Option D:=dI λi j=> .int (i - j)
def vE(i j:Int):Bool:=decide (i.natAbs<2 ^ 64) || decide (j.natAbs<2 ^ 64)
def Y6(_ j:Int):Bool:=decide (0<j) && decide (j.natAbs<1073741824)
def yf:D->D->Option D:=dIc Y6 λi j=> .int (i/j)
def Vt(_ j:Int):Bool:=decide (0<j)
def qm:D->D->Option D:=dIc Vt λi j=> .int (i%j)
def zee(i j:Int):Bool:=decide (0<=j) && decide (j.natAbs<=1000000) && decide (i.natAbs<2 ^ 64)
def zb2:D->D->Option D:=dIc zee λi j=> .int (i ^ j.toNat)
def dLt:D->D->Option D:=dI λi j=> .bl (decide (i<j))
def dLe:D->D->Option D:=dI λi j=> .bl (decide (i<=j))
def dGt:D->D->Option D:=dI λi j=> .bl (decide (j<i))
def dGe:D->D->Option D:=dI λi j=> .bl (decide (j<=i))
def jH:D->D->Option D
 | .int i,.int j=>some (.int (i+j))
 | .tup xs,.tup ys=>if xs.length+ys.length<=lim then some (.tup (xs++ys))else none
 | _,_=>none
def qw:D->D->Option D
 | .int i,.int j=>if vE i j=true then some (.int (i*j))else none
 | .tup xs,.int j=>if xs.length*j.toNat<=lim/\inR j=true then some (.tup (zhm j.toNat xs).flatten)else none
 | _,_=>none
def Xy(f g:CO (Sk×List D)):CO (List D):=λγ=>(f γ).bind λa=>(g γ).bind λb=>
 match a.1,b.1 with
 | .L,.L=>if a.2.length+b.2.length<=lim then some (a.2++b.2)else none
 | _,_=>none
def ixD(n:Nat)(i:Int):Option Nat:=if 0<=i/\i<n then some i.toNat else if i<0/\0<=i+n then some (i+n).toNat else none
def sIx(f:CO (Sk×List D))(g:CO D):CO D:=λγ=>(f γ).bind λa=>((g γ).bind asI).bind λi=>(ixD a.2.length i).bind λk=>a.2[k]?
def J0(n dflt:Nat):Option Int->Nat
 | none=>dflt
 | some i=>if i<0 then (i+n).toNat else min i.toNat n
def Xb(xs:List D)(lo hi:Option Int):List D:=(xs.drop (J0 xs.length 0 lo)).take (J0 xs.length xs.length hi - J0 xs.length 0 lo)
def Ki:CO (Option Int):=λ_=>some none
def sBd(f:CO D):CO (Option Int):=λγ=>((f γ).bind asI).map some
def Qt(f:CO D)(l h:CO (Option Int)):CO D:=λγ=>(f γ).bind λd=>(l γ).bind λlo=>(h γ).bind λhi=>match d with
 | .tup xs=>some (.tup (Xb xs lo hi))
 | _=>none
def yP(f:CO (Sk×List D)):CO D:=λγ=>(f γ).map λa=> .int a.2.length
inductive Ty where
 | int | bool | str | tuple | list
 deriving DecidableEq
@[simp] def zdT:D->Bool
 | .int _=>true
 | .bl _=>true
 | _=>false
@[simp] def zfC:D->Bool
 | .bl _=>true
 | _=>false
@[simp] def zdR:D->Bool
 | .str _=>true
 | _=>false
@[simp] def zdQ:D->Bool
 | .tup _=>true
 | _=>false
@[simp] def zdS:D->Bool
 | .lst _=>true
 | _=>false
def zaB:Ty->D->Bool
 | .int=>zdT
 | .bool=>zfC
 | .str=>zdR
 | .tuple=>zdQ
 | .list=>zdS
def sIs(T:Ty)(f:CO D):CO D:=λγ=>(f γ).map λd=> .bl (zaB T d)
@[simp] def eqN:D->Bool
 | .non=>true
 | _=>false
@[simp] def eqB(a:Bool):D->Bool
 | .bl b=>a==b
 | .int b=>(if a then 1 else 0)==b
 | _=>false
@[simp] def eqI(a:Int):D->Bool
 | .bl b=>a==(if b then 1 else 0)
 | .int b=>a==b
 | _=>false
@[simp] def eqS(a:Str):D->Bool
 | .str b=>a==b
 | _=>false
@[simp] def eqX(a:Str)(i:Option Int):D->Bool
 | .exc b j=>a==b && i==j
 | _=>false
mutual
def eqD:D->D->Bool
 | .non,y=>eqN y
 | .bl a,y=>eqB a y
 | .int a,y=>eqI a y
 | .str a,y=>eqS a y
 | .tup xs,y=>match y with
  | .tup ys=>eqDs xs ys
  | _=>false
 | .lst xs,y=>match y with
  | .lst ys=>eqDs xs ys
  | _=>false
 | .exc a i,y=>eqX a i y
 | .dic a b,y=>match y with
  | .dic c d=>eqDs a c && eqDs b d
  | _=>false
 | .dct a b,y=>match y with
  | .dct c d=>a==c && eqDs b d
  | _=>false
def eqDs:List D->List D->Bool
 | [],[]=>true
 | x::xs,y::ys=>eqD x y && eqDs xs ys
 | _,_=>false
end
mutual
def deep:D->Nat
 | .tup xs=>deeps xs+1
 | .lst xs=>deeps xs+1
 | _=>0
def deeps:List D->Nat
 | []=>0
 | x::xs=>max (deep x) (deeps xs)
end
mutual
def okS:D->Bool
 | .str x=>x.cps.all (· < 0x110000)
 | .exc _ _=>false
 | .dic _ _=>false
 | .dct _ _=>false
 | .tup xs=>okSs xs
 | .lst xs=>okSs xs
 | _=>true
def okSs:List D->Bool
 | []=>true
 | x::xs=>okS x && okSs xs
end
def okD(d:D):Bool:=decide (deep d<=20) && okS d
def dEq(x y:D):Option D:=if okD x=true/\okD y=true then some (.bl (eqD x y))else none
def dNe(x y:D):Option D:=if okD x=true/\okD y=true then some (.bl (!eqD x y))else none
def zU(f:CO (Sk×List D)):CO D:=λγ=>(f γ).map λa=> .tup a.2
def Vq:List D->Option Int
 | []=>some 0
 | .int i::r=>(Vq r).map λs=>i+s
 | _::_=>none
def zcT(f:CO (Sk×List D)):CO D:=λγ=>(f γ).bind λa=>(Vq a.2).map D.int
def ze3:D->Option Bool
 | .non=>some false
 | .bl b=>some b
 | .int i=>some (i != 0)
 | _=>none
def wE:List D->Option (List Bool)
 | []=>some []
 | d::r=>(ze3 d).bind λb=>(wE r).map λs=>b::s
def zeu(f:CO (Sk×List D)):CO D:=λγ=>(f γ).bind λa=>(wE a.2).map λs=> .bl (s.all id)
def zet(f:CO (Sk×List D)):CO D:=λγ=>(f γ).bind λa=>(wE a.2).map λs=> .bl (s.any id)
def VY(f:CO D):CO D:=λγ=>(f γ).bind λd=>match d with
 | .int i=>some (.int i)
 | .bl b=>some (.int (if b then 1 else 0))
 | _=>none
def VX(f:CO (Sk×List D)):CO Bool:=λγ=>(f γ).map λa=> !a.2.isEmpty
def yc(F G:D->D->Option D)(fa fb fc:CO D):CO D:=λγ=>(fa γ).bind λx=>(fb γ).bind λy=>((F x y).bind asB).bind λb=>if b=true then (fc γ).bind λz=>G y z else some (.bl false)
def KL(T:Tg)(f:CO D):CO Fl:=λγ=>(f γ).bind λd=>(jN T d γ).map .next
end DL
namespace L2
open PySem PySem.Spec PyProof.Rows
def ItAt(k:Sk)(h:Heap)(i l:Addr)(n:Nat):Prop:=match k with
 | .L=>h.IsListIter i l n
 | .T=>h.IsTupleIter i l n
def SqAt(k:Sk)(h:Heap)(l:Addr)(xs:Array Value):Prop:=match k with
 | .L=>h.IsList l xs
 | .T=>h.IsTuple l xs
def itO(k:Sk)(l:Addr):Obj:=match k with
 | .L=>{cls:= .type "list_iterator",data:= .fields #[.ref l,.int 0 0]}
 | .T=>{cls:= .type "tuple_iterator",data:= .fields #[.ref l,.int 0 0]}
theorem ItAt.at{k:Sk}{h h':Heap}{i l:Addr}{n:Nat}(x:ItAt k h i l n)(e : ∀o,h.get? i=some o->h'.get? i=some o):ItAt k h' i l n:=by
 cases k<;>exact let ⟨o,z,r⟩:=x;⟨o,e _ z,r⟩
theorem SqAt.at{k:Sk}{h h':Heap}{l:Addr}{xs:Array Value}(x:SqAt k h l xs)(e : ∀o,h.get? l=some o->h'.get? l=some o):SqAt k h' l xs:=by
 cases k<;>exact let ⟨o,z,r⟩:=x;⟨o,e _ z,r⟩
theorem ItAt.obj{k:Sk}{h:Heap}{i l:Addr}{n:Nat}(x:ItAt k h i l n) : ∃o,h.get? i=some o/\∀v,o.data ≠ .cell v:=by
 cases k<;>exact let ⟨o,I,_,d⟩:=x;⟨o,I,λv z=>by rw [d]at z;cases z⟩
theorem SqAt.lt{k:Sk}{h:Heap}{l:Addr}{xs:Array Value}(x:SqAt k h l xs):l<h.objs.size:=by
 cases k<;>exact let ⟨o,z,_⟩:=x;zhu z
theorem QW(k:Sk)(h:Heap)(l:Addr):ItAt k (h.push (itO k l)) h.objs.size l 0:=by
 cases k<;>exact⟨_,zhw _ rfl,rfl,rfl⟩
section
variable{prog:Program}{w:World}{A:Around}{E:Value->Shared->Prop}{s:Shared}
theorem QV{k:Sk}{l:Addr}{xs:Array Value}{Q:Value->Shared->Prop}(z:SqAt k s.heap l xs)(I:Q (.ref s.heap.objs.size) {s with heap:=s.heap.push (itO k l)}):wpAny (model prog w) A (pyIter (.ref l)) Q E s:=by
 cases k
 ·exact zkN z I
 ·exact wpAny_pyIter_tuple z I
theorem y9{k:Sk}{it l:Addr}{i:Nat}{items:Array Value}{x:Value}{Q:Value->Shared->Prop}(J:ItAt k s.heap it l i)(O:SqAt k s.heap l items)(hx:items[i]? = some x)
 (Y : ∀h',ItAt k h' it l (i+1)->zju it s.heap h'->Q x {s with heap:=h'}):wpAny (model prog w) A (zhV (.ref it)) Q E s:=by
 cases k with
 | L=>exact wpAny_nextOf_list_item J O hx Y
 | T=>
  have I:s.heap.IsTupleIter it l i:=J;obtain⟨o,z,hc,hd⟩:=id I;obtain⟨ol,a1,_,nl,a2⟩:=(show s.heap.IsTuple l items from O);unfold zhV;refine zhb (ziw (name:=zii "__next__") I.typeIs zjP (ziI zjP I.typeIs entry_tupleiter_next ?_ (args_tupleiter_next _)));refine zhb (m:=field (.ref it) 0) (ziE z hd (x:= .ref l) rfl ?_);show wpAny _ _ (if (zhH l==zh7)=true then _ else _) _ _ s;rw [if_neg (show ¬((zhH l==zh7)=true)from zhA)];refine zhb (m:=field (.ref it) 1) (ziE z hd (x:= .int i 0) rfl ?_);refine zhb (m:=seqItems? (.ref l)) (ziV a1 a2 ?_);simp only [zib,hx];refine zhb (wpAny_setField z hd ⋯ (zhi ⟨x,rfl,zhi (Y _ ?_ (zju.update ..))⟩));show Heap.IsTupleIter _ it l (i+1);exact⟨_,zj5 _ z (Obj.isFreed_of_fields (zkx hd _)),(Obj.cls_mapFields ..).trans hc,by rw [zkx hd];simp [rawInt]⟩
theorem QN{k:Sk}{it l:Addr}{i:Nat}{items:Array Value}{Q:Value->Shared->Prop}(z:A.handled=none)(O:ItAt k s.heap it l i)(Y:SqAt k s.heap l items)(hx:items[i]? = none)
 (hE : ∀h' e,Heap.ExtBut it s.heap h'->(∃o,h'.get? e=some o/\o.cls = .type "StopIteration")->E (.ref e) {s with heap:=h'}):wpAny (model prog w) A (zhV (.ref it)) Q E s:=by
 cases k with
 | L=>exact wpAny_nextOf_list_end z O Y hx hE
 | T=>
  have I:s.heap.IsTupleIter it l i:=O;obtain⟨o,J,hc,hd⟩:=id I;obtain⟨ol,a1,_,nl,a2⟩:=(show s.heap.IsTuple l items from Y);unfold zhV;refine zhb (ziw (name:=zii "__next__") I.typeIs zjP (ziI zjP I.typeIs entry_tupleiter_next ?_ (args_tupleiter_next _)));refine zhb (m:=field (.ref it) 0) (ziE J hd (x:= .ref l) rfl ?_);show wpAny _ _ (if (zhH l==zh7)=true then _ else _) _ _ s;rw [if_neg (show ¬((zhH l==zh7)=true)from zhA)];refine zhb (m:=field (.ref it) 1) (ziE J hd (x:= .int i 0) rfl ?_);refine zhb (m:=seqItems? (.ref l)) (ziV a1 a2 ?_);simp only [zib,hx];refine zhb (zkq (zhb (wpAny_setField J hd ⋯ ?_)));refine zhb (m:=newExc (.type "StopIteration") []) ?_;simp only [newExc,newTuple];refine zhb (zij ?_ (by size_fits));refine zhb (m:=firstArgMember _ _) (wpAny_of_eq (a:=zh7) (by first | rfl | (simp only [firstArgMember];rfl)) ?_);refine zij ?_ (by size_fits);simp only [raiseNew];refine zhb (wpAny_handled ?_)
  first | rw [show A.in1.handled=none from z] | rw [z]
  exact zhb (zhi (wpAny_throw (hE _ _ (((zju.update ..).extBut.push _).push _) ⟨_,zhw _ rfl,rfl⟩)))
theorem Kj{k1 k2:Sk}{z TI TO J O l1 l2:Addr}{n1 n2:Nat}{xs ys:Array Value}{x y a b:Value}{Q:Value->Shared->Prop}(D:ZipApart z TI TO J O l1 l2)
 (hz:IsZip s.heap z TI TO .none) (au:IsPair s.heap TI (.ref J) (.ref O)) (av:IsPair s.heap TO a b)
 (h1:ItAt k1 s.heap J l1 n1) (h2:ItAt k2 s.heap O l2 n2) (aw:SqAt k1 s.heap l1 xs) (ax:SqAt k2 s.heap l2 ys) (hx:xs[n1]? = some x) (hy:ys[n2]? = some y)
 (hQ : ∀h',IsZip h' z TI TO (rawInt s.heap.objs.size)->IsPair h' TO x y->ItAt k1 h' J l1 (n1+1)->ItAt k2 h' O l2 (n2+1)->IsPair h' s.heap.objs.size x y->h'.objs.size=s.heap.objs.size+1->
   (∀c o,c≠z->c≠TO->c≠J->c≠O->s.heap.get? c=some o->h'.get? c=some o)->Q (.ref s.heap.objs.size) {s with heap:=h'}) :
 wpAny (model prog w) A (Builtin.«zip.__next__» ⟨[.ref z],[]⟩) (λb0 s'=>∃v,b0 = .done (.ret v)/\Q v s') E s:=by
 refine zhb (m:=field (.ref z) 2) (ziE hz rfl (x:= .bool false) rfl ?_);refine zhb (m:=field (.ref z) 3) (ziE hz rfl (x:= .ref TI) rfl ?_);refine zhb (ziV au rfl ?_);refine zhb (m:=ziC (.ref z)) ?_;unfold ziC;refine zhb (ziE hz rfl (x:= .none) rfl (zhi ?_));simp only [if_true];refine zhb (zkq (zhb (ziE hz rfl (x:= .ref TO) rfl ?_)));refine zhb (zjs hz ⋯ λg1 af Y=>?_);replace af:IsZip g1 z TI TO .ellipsis:=af;refine zhb ?_;simp only [List.zipIdx_cons,List.zipIdx_nil,List.forIn_cons,List.forIn_nil];refine zhb (zhb (zkJ ?_));refine zhb (m:=zhV (.ref J)) (y9 (h1.at λo e=>Y.extBut _ _ D.i1z e) (aw.at λo e=>Y.extBut _ _ D.l1z e) hx λg2 ba a1=>zhi ?_);have an:IsPair g2 TO a b:=a1.extBut _ _ D.TOi1 (Y.extBut _ _ D.TOz av);refine zhb (ziV an rfl (zhb (zku an λg3 ag a2=>?_)));replace ag:IsPair g3 TO x b:=ag;refine zhb (wpAny_letGo (zhi (zhb (zhb (zkJ ?_)))));refine zhb (m:=zhV (.ref O)) (y9 (h2.at λo e=>a2.extBut _ _ D.TOi2.symm (a1.extBut _ _ D.i12.symm (Y.extBut _ _ D.i2z e))) (ax.at λo e=>a2.extBut _ _ D.l2TO (a1.extBut _ _ D.l2i1 (Y.extBut _ _ D.l2z e))) hy λg4 bd a5=>zhi ?_);have ao:IsPair g4 TO x b:=a5.extBut _ _ D.TOi2 ag;refine zhb (ziV ao rfl (zhb (zku ao λI aa a6=>?_)));replace aa:IsPair I TO x y:=aa;refine zhb (wpAny_letGo (zhi (zhi (zhb (ziV aa rfl (zhb (wpAny_newTuple ?_)))))));have hsz:I.objs.size=s.heap.objs.size:=by rw [a6.1,a5.1,a2.1,a1.1,Y.1]
 have ap:IsZip I z TI TO .ellipsis:=a6.extBut _ _ D.TOz.symm (a5.extBut _ _ D.i2z.symm (a2.extBut _ _ D.TOz.symm (a1.extBut _ _ D.i1z.symm af)));have be : ∀c o,c≠z->c≠TO->c≠J->c≠O->s.heap.get? c=some o->I.get? c=some o:=λc o c1 c2 c3 c4 e=>a6.extBut _ _ c2 (a5.extBut _ _ c4 (a2.extBut _ _ c2 (a1.extBut _ _ c3 (Y.extBut _ _ c1 e))));have bf:ItAt k1 I J l1 (n1+1):=ba.at λo e=>a6.extBut _ _ D.TOi1.symm (a5.extBut _ _ D.i12 (a2.extBut _ _ D.TOi1.symm e));have bg:ItAt k2 I O l2 (n2+1):=bd.at λo e=>a6.extBut _ _ D.TOi2.symm e;have aq:z<I.objs.size:=zhu ap;refine zhb (m:=zjH (.ref z) (.ref I.objs.size)) ?_;unfold zjH;have bh:IsZip (I.push {cls:= .type "tuple",data:= .seq #[x,y]}) z TI TO .ellipsis:=zhc _ ap;refine zhb (zjs bh ⋯ λg7 aj ak=>?_);replace aj:IsZip g7 z TI TO (rawInt I.objs.size):=aj;refine zjs aj ⋯ λg8 ac am=>?_;replace ac:IsZip g8 z TI TO (rawInt I.objs.size):=ac;have up : ∀c o,c≠z->I.get? c=some o->g8.get? c=some o:=λc o c1 e=>am.extBut _ _ c1 (ak.extBut _ _ c1 (zhc _ e));have ar:IsPair g8 I.objs.size x y:=am.extBut _ _ (ziW aq) (ak.extBut _ _ (ziW aq) (zhw _ rfl));have as:g8.objs.size=I.objs.size+1:=by rw [am.1,ak.1,zia]
 rw [hsz]at ac ar as;refine zhi ⟨_,rfl,?_⟩;show Q (.ref I.objs.size) _;rw [hsz];exact hQ g8 ac (up _ _ D.TOz aa) (bf.at λo e=>up _ o D.i1z e) (bg.at λo e=>up _ o D.i2z e) ar as λc o c1 c2 c3 c4 e=>up c o c1 (be c o c1 c2 c3 c4 e)
theorem Vy{k1 k2:Sk}{z TI TO O i2 l1 l2:Addr}{n1 n2:Nat}{xs ys:Array Value}{a b:Value}{Q:Fin->Shared->Prop}(hh:A.handled=none)(D:ZipApart z TI TO O i2 l1 l2)
 (hz:IsZip s.heap z TI TO .none) (am:IsPair s.heap TI (.ref O) (.ref i2)) (an:IsPair s.heap TO a b)
 (h1:ItAt k1 s.heap O l1 n1) (h2:ItAt k2 s.heap i2 l2 n2) (af:SqAt k1 s.heap l1 xs) (ao:SqAt k2 s.heap l2 ys) (ap:xs[n1]? = none\/ys[n2]? = none)
 (hE : ∀h' e,(∀c o,c≠z->c≠TO->c≠O->c≠i2->s.heap.get? c=some o->h'.get? c=some o)->(∃o,h'.get? e=some o/\o.cls = .type "StopIteration")->E (.ref e) {s with heap:=h'}) :
 wpAny (model prog w) A (Builtin.«zip.__next__» ⟨[.ref z],[]⟩) Q E s:=by
 refine zhb (m:=field (.ref z) 2) (ziE hz rfl (x:= .bool false) rfl ?_);refine zhb (m:=field (.ref z) 3) (ziE hz rfl (x:= .ref TI) rfl ?_);refine zhb (ziV am rfl ?_);refine zhb (m:=ziC (.ref z)) ?_;unfold ziC;refine zhb (ziE hz rfl (x:= .none) rfl (zhi ?_));simp only [if_true];refine zhb (zkq (zhb (ziE hz rfl (x:= .ref TO) rfl ?_)));refine zhb (zjs hz ⋯ λg1 a7 I=>?_);replace a7:IsZip g1 z TI TO .ellipsis:=a7;refine zhb ?_;simp only [List.zipIdx_cons,List.zipIdx_nil,List.forIn_cons,List.forIn_nil];refine zhb (zhb (zkJ ?_));have ag : ∀{g e:_} {oe:Obj},IsZip g z TI TO .ellipsis->(∀c o,c≠z->c≠TO->c≠O->c≠i2->s.heap.get? c=some o->g.get? c=some o)->g.get? e=some oe->oe.cls = .type "StopIteration"->
  wpAny (model prog w) A (setField (.ref z) 0 .none) (λ_ s'=>E (.ref e) s') E {s with heap:=g}:=λ{g e oe} ah hk Y a3=>by
  have au:e≠z:=λq=>by subst q;rw [ah]at Y;cases Y;simp at a3
  exact zjs ah ⋯ λg3 _ a0=>hE g3 e (λc o c1 c2 c3 c4 q=>a0.extBut _ _ c1 (hk c o c1 c2 c3 c4 q)) ⟨oe,a0.extBut _ _ au Y,a3⟩
 cases hx:xs[n1]? with
 | none=>
  refine zhb (m:=zhV (.ref O)) (QN hh (h1.at λo e=>I.extBut _ _ D.i1z e) (af.at λo e=>I.extBut _ _ D.l1z e) hx λg2 e J he=>?_);obtain⟨oe,Y,a3⟩:=he;exact ag (J _ _ D.i1z.symm a7) (λc o c1 _ c3 _ q=>J _ _ c3 (I.extBut _ _ c1 q)) Y a3
 | some x=>
  have hy:ys[n2]? = none:=by rcases ap with h | h;rw [hx]at h;cases h;exact h
  refine zhb (m:=zhV (.ref O)) (y9 (h1.at λo e=>I.extBut _ _ D.i1z e) (af.at λo e=>I.extBut _ _ D.l1z e) hx λg2 aw J=>zhi ?_);have aj:IsPair g2 TO a b:=J.extBut _ _ D.TOi1 (I.extBut _ _ D.TOz an);refine zhb (ziV aj rfl (zhb (zku aj λg3 ax a0=>?_)));refine zhb (wpAny_letGo (zhi (zhb (zhb (zkJ ?_)))));refine zhb (m:=zhV (.ref i2)) (QN hh (h2.at λo e=>a0.extBut _ _ D.TOi2.symm (J.extBut _ _ D.i12.symm (I.extBut _ _ D.i2z e))) (ao.at λo e=>a0.extBut _ _ D.l2TO (J.extBut _ _ D.l2i1 (I.extBut _ _ D.l2z e))) hy λg4 e ak he=>?_);obtain⟨oe,Y,a3⟩:=he;exact ag (ak _ _ D.i2z.symm (a0.extBut _ _ D.TOz.symm (J.extBut _ _ D.i1z.symm a7))) (λc o c1 c2 c3 c4 q=>ak _ _ c4 (a0.extBut _ _ c2 (J.extBut _ _ c3 (I.extBut _ _ c1 q)))) Y a3
end
def kY(a b:Value):Obj:={cls:= .type "tuple",data:= .seq #[a,b]}
def zeY(TI TO:Addr):Obj:={cls:= .type "zip",data:= .fields #[.none,.bool false,.bool false,.ref TI,.ref TO]}
def vF(z I:Sk)(h:Heap)(J l2:Addr):Heap:=
 zih (zih (zih (zih (zih h (itO z J)) (itO I l2)) (kY (.ref h.objs.size) (.ref (h.objs.size+1)))) (kY .none .none)) (zeY (h.objs.size+2) (h.objs.size+3))
theorem Vx(I J:Sk)(z l2:Addr)(xs ys:Array Value) :
 Meets (Builtin.«zip.__new__» ⟨[.type "zip",.ref z,.ref l2],[]⟩) (λ_ R s=>SqAt I s.heap z xs/\SqAt J s.heap l2 ys/\
  R (.ok (.ret (.ref (s.heap.objs.size+4)))) {s with heap:=vF I J s.heap z l2}):=
 .of_wp λprog w A R s h=>by
  obtain⟨O,g,d,tk,os⟩:=s;obtain⟨Y,a0,h⟩:=h;have a3:=sub_zip;have a1:SqAt I (Shared.heap ⟨O,g,d,tk,os⟩) z xs:=Y;have a2:SqAt J (Shared.heap ⟨O.push (itO I z),g,d,tk,os⟩) l2 ys:=a0.at λo e=>zhc _ e
  wp_walk using QV a1,QV a2
  refine⟨_,rfl,?_⟩;simp only [vF,kY,zeY,zia]at h ⊢;exact h
section
variable{X:Cx}{pins:List (Addr×Obj)}{σ:St}{H:Hp}{s:Shared}{h':Heap}
theorem Inv.turnLaid{t':Nat}{fp:List Addr}{a:Addr}{o:HO}(I:Inv X pins σ H s)(k : ∀b u,b∉fp->s.heap.get? b=some u->h'.get? b=some u)(Y : ∀b∈fp,FpOk X pins H b)
 (hp:s.heap.objs.size<=a) (new:ObjOk X.prog X.w (upd H a o) h' a o):Inv X pins σ (upd H a o) {s with heap:=h',toks:=t'}:=by
 have ha:H a=none:=I.hok.fresh hp;have a2 : ∀b u,H b=some u->b∉fp:=λb u e z=>by rw [(Y b z).1]at e;cases e
 have a3 : ∀b u,s.heap.get? b=some u->b≠a:=λb u e=>zhG (zhx (zhu e) hp);refine I.step (g':=s.gens) (d':=s.drawn) (ch:=fp) (λb J=>⟨(Y b J).2.2.2.1,(Y b J).2.1,(Y b J).2.2.2.2.1,(Y b J).2.2.2.2.2⟩) (λb u _ _ O e _=>k b u O e) (λb u _ _ O e _=>⟨u.slots,k b u O e⟩)
  (λb u _ e n=>by rw [zy (a3 b u e)];exact n) (λb u O e=>⟨u,k b u O e⟩) (λb xs e=>by rw [zy (jq e ha)];exact e) (λb ob xs e=>by rw [zy (jq e ha)];exact e)
  (λb ps e=>⟨#[],by rw [zy (jq e ha),e];simp⟩) (λm hm=>?_) (λb u e=>?_) I.bare
 ·obtain⟨ob,es,ep,ho,r⟩:=hm
  refine⟨ob,es,ep,k _ ob (λz=>(Y _ z).2.1 rfl) ho,r⟩
 ·by_cases J:b=a
  ·subst J;rw [zv]at e;cases e;exact new
  ·rw [zy J]at e
   refine(I.hok b u e).stay (λc v O q=>k c v ?_ q) (λc q=>by rw [zy (jq q ha)];exact q) λc xs q=>by rw [zy (jq q ha)];exact q
   rcases O with z | z
   ·rw [z];exact a2 b u e
   ·exact a2 c _ z
theorem Inv.turnedL{t':Nat}{fp:List Addr}(I:Inv X pins σ H s)(k : ∀b u,b∉fp->s.heap.get? b=some u->h'.get? b=some u)(O : ∀b∈fp,FpOk X pins H b):Inv X pins σ H {s with heap:=h',toks:=t'}:=by
 have a1 : ∀b u,H b=some u->b∉fp:=λb u e z=>by rw [(O b z).1]at e;cases e
 refine I.step (g':=s.gens) (d':=s.drawn) (ch:=fp) (λb Y=>⟨(O b Y).2.2.2.1,(O b Y).2.1,(O b Y).2.2.2.2.1,(O b Y).2.2.2.2.2⟩) (λb u _ _ J e _=>k b u J e) (λb u _ _ J e _=>⟨u.slots,k b u J e⟩)
  (λb u _ e n=>n) (λb u J e=>⟨u,k b u J e⟩) (λb xs e=>e) (λb ob xs e=>e)
  (λb ps e=>⟨#[],by rw [e];simp⟩) (λm hm=>?_) (λb u e=>?_) I.bare
 ·obtain⟨ob,es,ep,ho,r⟩:=hm
  refine⟨ob,es,ep,k _ ob (λz=>(O _ z).2.1 rfl) ho,r⟩
 ·refine(I.hok b u e).stay (λc v J q=>k c v ?_ q) (λc q=>q) λc xs q=>q
  rcases J with z | z
  ·rw [z];exact a1 b u e
  ·exact a1 c _ z
end
def SqK(k:Sk)(K:PySem.W.Frag)(H:Hp)(a:Addr)(xs:List V):Prop:=match k with
 | .L=>SqL K H a xs
 | .T=>SqT K H a xs
theorem Inv.sq{X:Cx}{pins:List (Addr×Obj)}{σ:St}{H:Hp}{s:Shared}{k:Sk}{a:Addr}{xs:List V}(I:Inv X pins σ H s)(h:SqK k X.K H a xs) :
 ∃J:List Value,Vals xs J/\SqAt k s.heap a J.toArray/\xs.length<=sizeLine:=by
 cases k with
 | L=>obtain⟨J,r,p,z⟩:=I.list h;exact⟨J,r,p.isList,z⟩
 | T=>obtain⟨J,r,p,z⟩:=I.tuple h;exact⟨J,r,p,z⟩
theorem Inv.sq_inj{X:Cx}{pins:List (Addr×Obj)}{σ:St}{H:Hp}{s:Shared}{k:Sk}{a:Addr}{xs ys:List V}(I:Inv X pins σ H s)(h:SqK k X.K H a xs)(h':SqK k X.K H a ys):xs=ys:=by
 cases k with
 | L=>exact I.list_inj h h'
 | T=>exact I.tuple_inj h h'
def Itz(z I:Sk)(K:PySem.W.Frag)(a b:Addr):It:=
 ⟨λi H=>∃xs ys,SqK z K H a xs/\SqK I K H b ys/\i<xs.length/\i<ys.length,
  λi H x H'=>∃p u v,x = .ref p/\H p=none/\H'=upd H p (.tup [u,v])/\(∀xs,SqK z K H a xs->xs[i]? = some u)/\(∀ys,SqK I K H b ys->ys[i]? = some v),
  λi H=>∃xs ys,SqK z K H a xs/\SqK I K H b ys/\(xs.length<=i\/ys.length<=i)⟩
theorem VM{P:Program}{w:World}{K:PySem.W.Frag}{elts:List Expr}{x1:Nat}{tpos:Pos}(k1 k2:Sk){z TI TO i1 i2 a b:Addr}(D:ZipApart z TI TO i1 i2 a b) :
 Turn P w K (.Tuple elts x1 tpos) (Itz k1 k2 K a b) [z,TI,TO,i1,i2] z (λi h=>IsZip h z TI TO .none/\IsPair h TI (.ref i1) (.ref i2)/\(∃c d,IsPair h TO c d)/\ItAt k1 h i1 a i/\ItAt k2 h i2 b i) where
 mem:=by simp
 obj:=λi h ⟨O,a0,⟨c,d,aa⟩,h1,h2⟩ y hy=>by
  simp only [zhv,zhU,or_false]at hy;rcases hy with rfl | rfl | rfl | rfl | rfl
  ·exact⟨_,O,λv q=>by cases q⟩
  ·exact⟨_,a0,λv q=>by cases q⟩
  ·exact⟨_,aa,λv q=>by cases q⟩
  ·exact h1.obj
  ·exact h2.obj
 keep:=λi h h' ⟨O,a0,⟨c,d,aa⟩,h1,h2⟩ k=>
  ⟨k z ⋯ _ O,k TI ⋯ _ a0,⟨c,d,k TO ⋯ _ aa⟩,h1.at λo e=>k i1 ⋯ o e,h2.at λo e=>k i2 ⋯ o e⟩
 item:=by
  rintro X hP hw hK hc i pins s σ H E I hf ⟨O,a0,⟨c,d,aa⟩,h1,h2⟩ ⟨xs,ys,ag,ah,au,av⟩;subst hP hw hK;obtain⟨aw,ak,p1,z1⟩:=I.sq ag;obtain⟨ax,an,p2,z2⟩:=I.sq ah;have hx:xs[i]? = some xs[i]:=zhe au;have hy:ys[i]? = some ys[i]:=zhe av;obtain⟨u1,ay,az⟩:=ak.get hx;obtain⟨u2,b0,b9⟩:=an.get hy;have hT:s.TypeIs (.ref z) "zip":=⟨_,O,rfl⟩;unfold pyNext;refine zhb (zkK (ziw (name:=zii "__next__") hT zkf (ziI zkf hT F.entry_zip_next
   (Kj D O a0 aa h1 h2 p1 p2 (x:=u1) (y:=u2) (by simpa using ay) (by simpa using b0) λg a1 a2 a3 a4 a5 a6 a7=>zhi ⟨_,rfl,?_⟩) (F.args_zip_next_1 _))))
  refine wpAny_letOwnedTupleGo_zip a1 λg2 bf ab=>?_;have lt : ∀{c o},s.heap.get? c=some o->s.heap.objs.size≠c:=λe=>ziW (zhu e);have bg:IsPair g2 s.heap.objs.size u1 u2:=ab.extBut _ _ (lt O) a5;have kk : ∀Y u,Y ∉ [z,TI,TO,i1,i2]->s.heap.get? Y=some u->g2.get? Y=some u:=λY u J e=>by
   simp only [zhv,zhU,or_false,not_or]at J;exact ab.extBut _ _ J.1 (a7 Y u J.1 J.2.2.1 J.2.2.2.1 J.2.2.2.2 e)
  have I1:Inv X pins σ (upd H s.heap.objs.size (.tup [xs[i],ys[i]])) {s with heap:=g2,toks:=s.toks}:=
   I.turnLaid (fp:=[z,TI,TO,i1,i2]) kk hf (zhn _) ⟨by show 2<=sizeLine;decide,[u1,u2],.cons az (.cons b9 .nil),⟨_,bg,rfl,_,rfl⟩⟩
  have bj:H s.heap.objs.size=none:=I.fresh;refine⟨.ref s.heap.objs.size,_,I1,rfl,⟨_,_,_,rfl,bj,rfl,λbq ao=>by rw [I.sq_inj ao ag];exact hx,λbr ao=>by rw [I.sq_inj ao ah];exact hy⟩,?_,λY J=>?_⟩
  ·exact⟨bf,ab.extBut _ _ D.TIz (a7 _ _ D.TIz D.TITO D.TIi1 D.TIi2 a0),⟨_,_,ab.extBut _ _ D.TOz a2⟩,a3.at λo e=>ab.extBut _ _ D.i1z e,a4.at λo e=>ab.extBut _ _ D.i2z e⟩
  ·have bl:Y≠s.heap.objs.size:=by
    simp only [zhv,zhU,or_false]at J;rcases J with rfl | rfl | rfl | rfl | rfl
    ·exact(lt O).symm
    ·exact(lt a0).symm
    ·exact(lt aa).symm
    ·obtain⟨o,e,_⟩:=h1.obj;exact(lt e).symm
    ·obtain⟨o,e,_⟩:=h2.obj;exact(lt e).symm
   rw [zy bl];exact(hf Y J).1
 done:=by
  rintro X hP hw hK hc i pins s σ H E I hf ⟨O,a0,⟨c,d,aa⟩,h1,h2⟩ ⟨xs,ys,ag,ah,hi⟩;subst hP hw hK;obtain⟨aw,ak,p1,z1⟩:=I.sq ag;obtain⟨ax,an,p2,z2⟩:=I.sq ah;have hT:s.TypeIs (.ref z) "zip":=⟨_,O,rfl⟩;have l1:=ak.length;have l2:=an.length;unfold pyNext;refine zhb (zkK (ziw (name:=zii "__next__") hT zkf (ziI zkf hT F.entry_zip_next
   (Vy (show X.A.handled=none from I.ok.hd hc) D O a0 aa h1 h2 p1 p2 (by rcases hi with q | q;left;simp;omega;right;simp;omega) λg e hk he=>?_) (F.args_zip_next_1 _))))
  obtain⟨o,ho,bo⟩:=he;refine zhb (wpAny_isInstance (T:="StopIteration") (b:=true) ⟨o,ho,bo⟩ isSubtype_stop (zhi ⟨rfl,?_⟩));refine I.turnedL (t':=s.toks) (fp:=[z,TI,TO,i1,i2]) (λY u J e=>?_) hf;simp only [zhv,zhU,or_false,not_or]at J;exact hk Y u J.1 J.2.2.1 J.2.2.2.1 J.2.2.2.2 e
 self:=λ_ _ _ _ _ st h=>wpAny_pyIter_zip st.1 h
def zgW(K:PySem.W.Frag)(ta:TA):TI:=λσ H R=>ta σ H λvs H1=>∃z I a b,vs=[.ref a,.ref b]/\(∃xs,SqK z K H1 a xs)/\(∃ys,SqK I K H1 b ys)/\R (Itz z I K a b) H1
theorem zdj{X:Cx}{e1 e2:Expr}{ta:TA}{p pos:Pos}{elts:List Expr}{x1:Nat}{tpos:Pos}(hg:Gl X "zip")(hm:X.mg "zip" = none)(ha:PA X [e1,e2] ta)
 (hv:bootBuiltins "zip" = some (.type "zip")) (hs:starEach [e1,e2] X.env=[(false,eval e1 X.env),(false,eval e2 X.env)]:=by rfl) (a2:starEach [e2] X.env=[(false,eval e2 X.env)]:=by rfl) :
 PI X (.Tuple elts x1 tpos) (.Call (.Name "zip" p) [e1,e2] [] pos) (zgW X.K ta):=by
 intro pins s σ H R I h;refine Call_ (qJ I hg hm hv (zh2 (thn (ha pos pins s σ H _ I h) λus s1 hZ=>?_) (by rw [hs,a2]) (by rw [a2];rfl)));obtain⟨vs,H1,O,r1,q1⟩:=hZ;obtain⟨z,J,a,b,e,⟨xs,ag⟩,⟨ys,ah⟩,q⟩:=q1;subst e;obtain⟨w1,w2,eu,aj,ak⟩:=zcA r1;subst eu;cases aj;cases ak;obtain⟨am,av,p1,z1⟩:=O.sq ag;obtain⟨an,aw,p2,z2⟩:=O.sq ah;have la:=p1.lt;have lb:=p2.lt;refine callType_new F.called_zip ⋯ (F.typeCall_zip_2 _ _) (F.newCall_zip_2 _ _) (λobj=>F.args_object_init_3 obj _ _) F.entry_zip_new (Vx z J a b am.toArray an.toArray) ⟨p1,p2,?_⟩;have keep : ∀c o,s1.heap.get? c=some o->(vF z J s1.heap a b).get? c=some o:=λc o e=>
  zhc _ (zhc _ (zhc _ (zhc _ (zhc _ e))))
 have y1:(zih s1.heap (itO z a)).objs.size=s1.heap.objs.size+1:=zia ..;have y2:(zih (zih s1.heap (itO z a)) (itO J b)).objs.size=s1.heap.objs.size+2:=by rw [zia,y1]
 have y3:(zih (zih (zih s1.heap (itO z a)) (itO J b)) (kY (.ref s1.heap.objs.size) (.ref (s1.heap.objs.size+1)))).objs.size=s1.heap.objs.size+3:=by rw [zia,y2]
 have y4:(zih (zih (zih (zih s1.heap (itO z a)) (itO J b)) (kY (.ref s1.heap.objs.size) (.ref (s1.heap.objs.size+1)))) (kY .none .none)).objs.size=s1.heap.objs.size+4:=by rw [zia,y3]
 have g0:ItAt z (vF z J s1.heap a b) s1.heap.objs.size a 0:=(QW z s1.heap a).at λo e=>zhc _ (zhc _ (zhc _ (zhc _ e)));have g1:ItAt J (vF z J s1.heap a b) (s1.heap.objs.size+1) b 0:=by
  have q:=QW J (zih s1.heap (itO z a)) b;rw [y1]at q;exact q.at λo e=>zhc _ (zhc _ (zhc _ e))
 have g2:IsPair (vF z J s1.heap a b) (s1.heap.objs.size+2) (.ref s1.heap.objs.size) (.ref (s1.heap.objs.size+1)):=by
  have q:_=some (kY (.ref s1.heap.objs.size) (.ref (s1.heap.objs.size+1))):=zhw (zih (zih s1.heap (itO z a)) (itO J b)) (o:=kY (.ref s1.heap.objs.size) (.ref (s1.heap.objs.size+1))) rfl;rw [y2]at q;exact zhc _ (zhc _ q)
 have g3:IsPair (vF z J s1.heap a b) (s1.heap.objs.size+3) .none .none:=by
  have q:_=some (kY .none .none):=zhw (zih (zih (zih s1.heap (itO z a)) (itO J b)) (kY (.ref s1.heap.objs.size) (.ref (s1.heap.objs.size+1)))) (o:=kY .none .none) rfl;rw [y3]at q;exact zhc _ q
 have g4:IsZip (vF z J s1.heap a b) (s1.heap.objs.size+4) (s1.heap.objs.size+2) (s1.heap.objs.size+3) .none:=by
  have q:=zhw (zih (zih (zih (zih s1.heap (itO z a)) (itO J b)) (kY (.ref s1.heap.objs.size) (.ref (s1.heap.objs.size+1)))) (kY .none .none)) (o:=zeY (s1.heap.objs.size+2) (s1.heap.objs.size+3)) rfl;rw [y4]at q;exact q
 refine⟨⟨_,g4,rfl⟩,wpAny_pyIter_zip (s:={s1 with heap:=vF z J s1.heap a b}) g4 ?_⟩;have I2:Inv X pins σ H1 {s1 with heap:=vF z J s1.heap a b,toks:=s1.toks}:=O.kept keep;have nn : ∀m:Nat,s1.heap.objs.size≠s1.heap.objs.size+m+1:=λm=>by omega
 have Y : ∀m:Nat,a≠s1.heap.objs.size+m:=λm=>zhG (zhx la (zh8 _ m));have a0 : ∀m:Nat,b≠s1.heap.objs.size+m:=λm=>zhG (zhx lb (zh8 _ m));have ne : ∀m n:Nat,m≠n->(s1.heap.objs.size+m:Nat)≠s1.heap.objs.size+n:=λm n h=>by omega
 have D:ZipApart (s1.heap.objs.size+4) (s1.heap.objs.size+2) (s1.heap.objs.size+3) s1.heap.objs.size (s1.heap.objs.size+1) a b:=
  ⟨ne 2 4 ⋯,ne 3 4 ⋯,ne 0 4 ⋯,ne 1 4 ⋯,ne 2 3 ⋯,ne 2 0 ⋯,ne 2 1 ⋯,ne 3 0 ⋯,ne 3 1 ⋯,ne 0 1 ⋯,
   Y 4,Y 3,Y 0,Y 1,a0 4,a0 3,a0 0,a0 1⟩
 refine⟨_,[s1.heap.objs.size+4,s1.heap.objs.size+2,s1.heap.objs.size+3,s1.heap.objs.size,s1.heap.objs.size+1],_,_,H1,rfl,I2,VM z J D,⟨g4,g2,⟨_,_,g3⟩,g0,g1⟩,λc hc=>?_,q⟩;have a8:s1.heap.objs.size<=c:=by
  simp only [zhv,zhU,or_false]at hc;rcases hc with rfl | rfl | rfl | rfl | rfl
  ·exact zh8 _ _
  ·exact zh8 _ _
  ·exact zh8 _ _
  ·exact zhn _
  ·exact zh8 _ _
 exact O.fpOk a8 (O.hok.fresh a8)
def Itk(k:Sk)(K:PySem.W.Frag)(a:Addr):It:=match k with
 | .L=>Itl K a
 | .T=>Itt K a
def zgX(K:PySem.W.Frag)(tl:TE):TI:=λσ H R=>tl σ H λx H1=>∃a k,x = .ref a/\(∃xs,SqK k K H1 a xs)/\R (Itk k K a) H1
theorem Yb{X:Cx}{tg l:Expr}{tl:TE}(O:PE X l tl):PI X tg l (zgX X.K tl):=by
 intro pins s σ H R I h;refine thn (O pins s σ H _ I h) λv s1 Y=>?_;obtain⟨x,H1,z,r1,q1⟩:=Y;obtain⟨a,k,e,⟨xs,hq⟩,q⟩:=q1;subst e;cases r1;have J : ∀b ∈ [s1.heap.objs.size],FpOk X pins H1 b:=λb hb=>by
  have e:b=s1.heap.objs.size:=by simpa using hb
  subst e;exact z.fpOk (zhn _) (z.hok.fresh (zhn _))
 obtain⟨a4,rv,p,hz⟩:=z.sq hq;cases k with
 | L=>exact zkN p ⟨s1.heap.objs.size,[s1.heap.objs.size],_,_,H1,rfl,z.kept (t':=s1.toks) λb o e=>zhc _ e,Ko a _,⟨_,zhw _ rfl,rfl,rfl⟩,J,q⟩
 | T=>exact wpAny_pyIter_tuple p ⟨s1.heap.objs.size,[s1.heap.objs.size],_,_,H1,rfl,z.kept (t':=s1.toks) λb o e=>zhc _ e,Xl a _,⟨_,zhw _ rfl,rfl,rfl⟩,J,q⟩
section
variable{X:Cx}{pins:List (Addr×Obj)}{σ:St}{H:Hp}{s:Shared}{a:Addr}{y v:V}{u r:Value}{o:Option V}{A:Around}{E:Value->Shared->Prop}
theorem Inv.big(I:Inv X pins σ H s):sysModules<s.heap.objs.size:=by
 have h:mainGlobals<s.heap.objs.size:=(I.mod.glob.keeps I.bk).lt;exact Nat.lt_trans ⋯ h
end
def zgJ(i:Expr):Prop:=∀z I,subscripted i false z I=operate [z,I] (getItem z I)
theorem zaZ{prog:Program}{w:World}{A:Around}{E:Value->Shared->Prop}{s:Shared}{env:Env}{value z:Expr}{pos:Pos}{T id:String}{Q:Value->Shared->Prop}
 (hl:typeLookup (.type T) "__getitem__" = pure (some (.builtin id))) (hs:zgJ z)
 (h:wpAny (model prog w) A (eval value env) (λo Y=>wpAny (model prog w) A (eval z env) (λi I=>I.TypeIs o T/\wpAny (model prog w) A (getItem o i) Q E I) E Y) E s) :
 wpAny (model prog w) A (eval (.Subscript value z pos) env) Q E s:=by
 refine Subscript_ (ziZ h (λo Y h₁=>ziZ h₁ (λi I J=>?_) λ_ _ x=>x) λ_ _ x=>x);obtain⟨hT,J⟩:=J;unfold subscriptTail;refine zhb ?_;rw [getitemInPython_of_ne hT.not_modules];refine zhb (wpAny_specialOf hT hl ?_);have O:wpAny (model prog w) A (subscripted z false o i) (λr s₃=>wpAny (model prog w) A (letTemporaryGo value o r >>= λ_=>pure r) Q E s₃) E I:=by
  rw [hs o i];exact wpAny_operating (ziZ J (λr s₃ h₃=>zhb (wpAny_letTemporaryGo (zhi h₃))) λ_ _ x=>x)
 first
  | exact zhi (zhb O)
  | exact zhb (zhi (zhb O))
  | exact zhb O
end L2
namespace DL
open PySem PySem.Spec PyProof.Rows L2
def xNames:List Str:=["NoPrime","Nought","NoTable","NoWidths","NoRow","Unlike","TooMany","NoTurn","NoLine","Nothing","NoArrow","NoText","NoRoom"]
def xCls(K:PySem.W.Frag)(c:Str):Option Addr:=match zjC K mainGlobals c with
 | some (some (.ref C))=>some C
 | _=>none
def zaQ(K:PySem.W.Frag)(C:Addr):Bool:=
 ["int","bool","str","tuple","list"].all (λt=>ziz K (.ref C) (.type t)==some false) && ziz K (.ref C) (.type "ValueError")==some true &&
 PySem.W.findIn K (.ref C) "__getattribute__" == some (some (.builtin "BaseException.__getattribute__")) && PySem.W.findIn K (.ref C) "__getattr__" == some none &&
 PySem.W.findIn K (.ref C) "__class__" == some (some (.builtin "object.__class__")) && PySem.W.mroIn K C (.type "object")==some true && PySem.W.mroIn K C (.type "BaseException")==some true &&
 PySem.W.specialIn K (.builtin "object.__class__") "__get__" == some (some (.builtin "getset_descriptor.__get__")) && PySem.W.takesIn K (.builtin "object.__class__")==some true &&
 (PySem.W.clsIn K C).any (λz=> !z.hasDel) && zjF K (.ref C)==some (.type "type")
def xAll(K:PySem.W.Frag):Bool:=match xCls K "SplitError" with
 | some S=>xNames.all λc=>match xCls K c with
  | some C=>zaQ K C && ziz K (.ref C) (.ref S)==some true && xNames.all λc'=>match xCls K c' with
   | some z=>ziz K (.ref C) (.ref z)==some (c==c')
   | none=>false
  | none=>false
 | none=>false
def XObj(h:Heap)(a:Addr)(C:Addr):Prop:=∃o vs,h.get? a=some o/\o.cls = .ref C/\o.data = .fields vs
structure XRep(K:PySem.W.Frag)(H:Hp)(c:Str)(n:Option Int)(a:Addr):Prop where
 all:xAll K=true
 mem:c∈xNames
 ex : ∃C φ,xCls K c=some C/\H a=some (.ext φ)/\(∀h,φ h->XObj h a C)/\
  match n with
  | none=>True
  | some i=>∃d,(∀h,φ h->∃o,h.get? a=some o/\o.dict=some d)/\H d=some (.xd [(if c==("NoRoom" : Str)then "room" else "at",.int i)])
theorem XRep.mono{K:PySem.W.Frag}{H H':Hp}{c:Str}{n:Option Int}{a:Addr}(e : ∀b o,H b=some o->H' b=some o)(h:XRep K H c n a):XRep K H' c n a:=by
 obtain⟨h1,h2,C,φ,I,g2,J,z⟩:=h;refine⟨h1,h2,C,φ,I,e _ _ g2,J,?_⟩;cases n with
 | none=>exact z
 | some i=>obtain⟨d,O,Y⟩:=z;exact⟨d,O,e _ _ Y⟩
theorem zaP{K:PySem.W.Frag}{c:Str}{C:Addr}(h:xAll K=true)(I:c∈xNames)(e:xCls K c=some C) : ∃S,xCls K "SplitError" = some S/\zaQ K C=true/\ziz K (.ref C) (.ref S)=some true/\
 ∀c' z,c'∈xNames->xCls K c'=some z->ziz K (.ref C) (.ref z)=some (c==c'):=by
 unfold xAll at h;split at h
 ·rename_i S J
  have h1:=zhR.mp h c I;rw [e]at h1;simp only [Bool.and_eq_true,beq_iff_eq]at h1;refine⟨S,J,h1.1.1,h1.1.2,λc' z O Y=>?_⟩;have h2:=zhR.mp h1.2 c' O;rw [Y]at h2;exact beq_iff_eq.mp h2
 ·cases h
abbrev St:=L2.St
def zfA:D->Option Key
 | .int i=>some (.inl i)
 | .str x=>some (.inr x)
 | _=>none
def zay:List D->Option (List Key)
 | []=>some []
 | d::ds=>(zfA d).bind λk=>(zay ds).map λr=>k::r
def DRp(H:Hp)(a:Addr)(ks:List D)(xs:List V):Prop:=∃z,zay ks=some z/\z.length=xs.length/\H a=some (.dK (z.zip xs))
def ze4(k:List Int):Int:=reduceHash (Builtin.Tuple.tupleHashOf (k.map hashInt))
def DObj(o:Obj)(xs:List (List Int×Addr×Value)):Prop:=o.ExactDict/\∃es z,o.data = .dict es z/\es.toList=xs.map (λx=>⟨ze4 x.1,.ref x.2.1,x.2.2⟩)/\(xs.map (·.1)).Nodup
def atO(a:Addr)(o:Obj):HO:= .ext λh=>h.get? a=some o
def DRt(K:PySem.W.Frag)(H:Hp)(a:Addr)(ks:List (List Int))(ys:List V):Prop:=
 (a==sysModules)=false/\∃o xs,H a=some (atO a o)/\DObj o xs/\xs.map (·.1)=ks/\xs.length<=sizeLine/\(∀x∈xs,SqT K H x.2.1 (x.1.map V.int))/\Vals ys (xs.map (·.2.2))
mutual
def Rep(K:PySem.W.Frag)(H:Hp):D->V->Prop
 | .non,v=>v = .non
 | .bl b,v=>v = .bl b
 | .int i,v=>v = .int i
 | .str x,v=>v = .str x
 | .tup ds,v=>∃a xs,v = .ref a/\SqT K H a xs/\Reps K H ds xs
 | .lst ds,v=>∃a xs,v = .ref a/\SqL K H a xs/\Reps K H ds xs
 | .exc c n,v=>∃a,v = .ref a/\XRep K H c n a
 | .dic ks vs,v=>∃a xs,v = .ref a/\DRp H a ks xs/\Reps K H vs xs
 | .dct ks vs,v=>∃a xs,v = .ref a/\DRt K H a ks xs/\Reps K H vs xs
def Reps(K:PySem.W.Frag)(H:Hp):List D->List V->Prop
 | [],xs=>xs=[]
 | d::ds,xs=>∃x r,xs=x::r/\Rep K H d x/\Reps K H ds r
end
theorem sameT{K:PySem.W.Frag}{H H':Hp}{a:Addr}{xs:List V}(e:Same H H')(h:SqT K H a xs):SqT K H' a xs:=by
 rcases h with(h | ⟨o,h⟩) | h
 ·exact .inl (.inl (e _ _ h))
 ·exact .inl (.inr ⟨o,e _ _ h⟩)
 ·exact .inr h
theorem Zv{k:Sk}{K:PySem.W.Frag}{H H':Hp}{a:Addr}{xs:List V}(e:Same H H')(h:SqK k K H a xs):SqK k K H' a xs:=by
 cases k
 ·exact e.seq h
 ·exact sameT e h
mutual
theorem Rep.mono{K:PySem.W.Frag}{H H':Hp}(e:Same H H') : ∀{d:D} {v:V},Rep K H d v->Rep K H' d v
 | .non,_,h=>h
 | .bl _,_,h=>h
 | .int _,_,h=>h
 | .str _,_,h=>h
 | .tup ds,v,h=>by
  obtain⟨a,xs,e1,h1,h2⟩:=(show ∃a xs,v = .ref a/\SqT K H a xs/\Reps K H ds xs from h);exact(show ∃a xs,v = .ref a/\SqT K H' a xs/\Reps K H' ds xs from⟨a,xs,e1,sameT e h1,Reps.mono e h2⟩)
 | .lst ds,v,h=>by
  obtain⟨a,xs,e1,h1,h2⟩:=(show ∃a xs,v = .ref a/\SqL K H a xs/\Reps K H ds xs from h);exact(show ∃a xs,v = .ref a/\SqL K H' a xs/\Reps K H' ds xs from⟨a,xs,e1,e.seq h1,Reps.mono e h2⟩)
 | .exc c n,v,h=>by
  obtain⟨a,e1,h1⟩:=(show ∃a,v = .ref a/\XRep K H c n a from h);exact(show ∃a,v = .ref a/\XRep K H' c n a from⟨a,e1,h1.mono e⟩)
 | .dic ks vs,v,h=>by
  obtain⟨a,xs,e1,⟨J,z,g2,I⟩,h2⟩:=(show ∃a xs,v = .ref a/\DRp H a ks xs/\Reps K H vs xs from h);exact(show ∃a xs,v = .ref a/\DRp H' a ks xs/\Reps K H' vs xs from⟨a,xs,e1,⟨J,z,g2,e _ _ I⟩,Reps.mono e h2⟩)
 | .dct ks vs,v,h=>by
  obtain⟨a,xs,e1,⟨z,o,zs,g2,I,O,Y,g6,g7⟩,h2⟩:=(show ∃a xs,v = .ref a/\DRt K H a ks xs/\Reps K H vs xs from h);exact(show ∃a xs,v = .ref a/\DRt K H' a ks xs/\Reps K H' vs xs from⟨a,xs,e1,⟨z,o,zs,e _ _ g2,I,O,Y,λx hx=>sameT e (g6 x hx),g7⟩,Reps.mono e h2⟩)
theorem Reps.mono{K:PySem.W.Frag}{H H':Hp}(e:Same H H') : ∀{ds:List D} {xs:List V},Reps K H ds xs->Reps K H' ds xs
 | [],_,h=>h
 | d::ds,xs,h=>by
  obtain⟨x,r,e1,h1,h2⟩:=(show ∃x r,xs=x::r/\Rep K H d x/\Reps K H ds r from h);exact(show ∃x r,xs=x::r/\Rep K H' d x/\Reps K H' ds r from⟨x,r,e1,Rep.mono e h1,Reps.mono e h2⟩)
end
section
variable{K:PySem.W.Frag}{H:Hp}
theorem Reps.nil:Reps K H [] []:=(show([]:List V)=[]from rfl)
theorem Reps.cons{d:D}{ds:List D}{x:V}{xs:List V}(h:Rep K H d x)(t:Reps K H ds xs):Reps K H (d::ds) (x::xs):=⟨x,xs,rfl,h,t⟩
theorem Reps.inv_nil{xs:List V}(h:Reps K H [] xs):xs=[]:=h
theorem Reps.inv_cons{d:D}{ds:List D}{xs:List V}(h:Reps K H (d::ds) xs) : ∃x r,xs=x::r/\Rep K H d x/\Reps K H ds r:=h
theorem Reps.length : ∀{ds:List D} {xs:List V},Reps K H ds xs->xs.length=ds.length
 | [],xs,h=>by rw [h.inv_nil];rfl
 | d::ds,xs,h=>by
  obtain⟨x,r,e,_,t⟩:=h.inv_cons;rw [e,zhJ,zhJ,Reps.length t]
theorem Reps.get : ∀{ds:List D} {xs:List V} {i:Nat} {d:D},Reps K H ds xs->ds[i]? = some d->∃x,xs[i]? = some x/\Rep K H d x
 | [],_,_,_,_,e=>by simp at e
 | c::ds,xs,0,d,h,e=>by
  obtain⟨x,r,e1,h1,_⟩:=h.inv_cons;simp at e;subst e;exact⟨x,by rw [e1];rfl,h1⟩
 | c::ds,xs,i+1,d,h,e=>by
  obtain⟨x,r,e1,_,t⟩:=h.inv_cons;obtain⟨y,z,g2⟩:=Reps.get (i:=i) (d:=d) t (by simpa using e);exact⟨y,by rw [e1];simpa using z,g2⟩
theorem Reps.getV{ds:List D}{xs:List V}{i:Nat}{x:V}(h:Reps K H ds xs)(e:xs[i]? = some x) : ∃d,ds[i]? = some d/\Rep K H d x:=by
 have hi:i<ds.length:=by rw [<- h.length];exact(zhg.mp e).1
 obtain⟨y,e1,r⟩:=h.get (zhe hi);rw [e]at e1;cases e1;exact⟨_,zhe hi,r⟩
theorem Reps.append : ∀{ds es:List D} {xs ys:List V},Reps K H ds xs->Reps K H es ys->Reps K H (ds++es) (xs++ys)
 | [],_,xs,_,h,g=>by rw [h.inv_nil];exact g
 | d::ds,es,xs,ys,h,g=>by
  obtain⟨x,r,e,h1,t⟩:=h.inv_cons;rw [e];exact Reps.cons h1 (Reps.append t g)
theorem Reps.drop : ∀{ds:List D} {xs:List V} (n:Nat),Reps K H ds xs->Reps K H (ds.drop n) (xs.drop n)
 | _,_,0,h=>h
 | [],xs,n+1,h=>by rw [h.inv_nil];exact Reps.nil
 | d::ds,xs,n+1,h=>by
  obtain⟨x,r,e,_,t⟩:=h.inv_cons;rw [e];exact Reps.drop n t
theorem Reps.take : ∀{ds:List D} {xs:List V} (n:Nat),Reps K H ds xs->Reps K H (ds.take n) (xs.take n)
 | _,_,0,h=>by simp;exact Reps.nil
 | [],xs,n+1,h=>by rw [h.inv_nil];exact Reps.nil
 | d::ds,xs,n+1,h=>by
  obtain⟨x,r,e,h1,t⟩:=h.inv_cons;rw [e];exact Reps.cons h1 (Reps.take n t)
end
structure Ext(H0 H H0' H':Hp):Prop where
 s0:Same H0 H0'
 s1:Same H H'
 sub:Same H0' H'
 new : ∀a,H0 a=none->H a≠none->H0' a=none
theorem Ext.refl{H0 H:Hp}(s:Same H0 H):Ext H0 H H0 H:=⟨Same.refl _,Same.refl _,s,λ_ h _=>h⟩
theorem Ext.trans{H0 H H1 z H2 I:Hp}(a:Ext H0 H H1 z)(b:Ext H1 z H2 I):Ext H0 H H2 I:=
 ⟨a.s0.trans b.s0,a.s1.trans b.s1,b.sub,λc h1 h2=>b.new c (a.new c h1 h2) (by
  cases q:H c with
  | none=>exact absurd q h2
  | some o=>rw [a.s1 c o q];simp)⟩
theorem zK{H:Hp}{p:Addr}(h:H p=none)(o:HO):Same H (upd H p o):=λb u q=>by rw [zy (jq q h)];exact q
theorem zS{H0 H:Hp}(s:Same H0 H){p:Addr}(h:H p=none):H0 p=none:=s.free h
theorem KJ{H0 H:Hp}{p:Addr}{o:HO}(s:Same H0 H):Same (upd H0 p o) (upd H p o):=λb u q=>by
 by_cases e:b=p
 ·subst e;rw [zv]at q ⊢;exact q
 ·rw [zy e]at q ⊢;exact s b u q
theorem Ext.alloc{H0 H:Hp}{p:Addr}(s:Same H0 H)(h:H p=none)(o:HO):Ext H0 H (upd H0 p o) (upd H p o):=
 ⟨zK (zS s h) o,zK h o,KJ s,λa h1 h2=>by rw [zy (λe=>h2 (by rw [e];exact h))];exact h1⟩
theorem Ext.hide{H0 H:Hp}{p:Addr}(s:Same H0 H)(h:H p=none)(o:HO):Ext H0 H H0 (upd H p o):=
 ⟨Same.refl _,zK h o,s.trans (zK h o),λa h1 _=>h1⟩
theorem Ext.show{H0 H H0' H':Hp}{a:Addr}{o:HO}(e:Ext H0 H H0' H')(h1:H a=none)(h2:H0' a=none)(J:H' a=some o)(s:Same H0 H):Ext H0 H (upd H0' a o) H':=
 ⟨e.s0.trans (zK h2 o),e.s1,λb u q=>by
  by_cases z:b=a
  ·subst z;rw [zv]at q;rw [J];exact q
  ·rw [zy z]at q;exact e.sub b u q,λb O I=>by
  rw [zy (λz=>I (by rw [z];exact h1))];exact e.new b O I⟩
structure Nest(K:PySem.W.Frag)(H0 H:Hp)(rows:List (List D))(a:Addr)(bs:List Addr):Prop where
 a0:H0 a=none
 ha:H a=some (.lst (bs.map V.ref))
 nd:(a::bs).Nodup
 len:bs.length=rows.length
 row : ∀(k:Nat) b row,bs[k]? = some b->rows[k]? = some row->H0 b=none/\∃xs,H b=some (.lst xs)/\Reps K H0 row xs
theorem Nest.at{K:PySem.W.Frag}{H0 H:Hp}{rows:List (List D)}{a:Addr}{bs:List Addr}(n:Nest K H0 H rows a bs){b:Addr}(z:b∈a::bs):H0 b=none/\∃xs,H b=some (.lst xs):=by
 rcases zhv.mp z with rfl | z
 ·exact⟨n.a0,_,n.ha⟩
 ·obtain⟨k,I⟩:=zjy z
  have J:=(zhg.mp I).1;rw [n.len]at J;obtain⟨h1,xs,h2,_⟩:=n.row k b _ I (zhe J);exact⟨h1,xs,h2⟩
theorem Nest.move{K:PySem.W.Frag}{H0 H H0' H':Hp}{rows:List (List D)}{a:Addr}{bs:List Addr}(n:Nest K H0 H rows a bs)(s:Same H0 H0')(h0 : ∀b∈a::bs,H0' b=none)(h : ∀b∈a::bs,H' b=H b):Nest K H0' H' rows a bs:=
 ⟨h0 a zhq,by rw [h a zhq];exact n.ha,n.nd,n.len,λk b row z J=>by
  obtain⟨_,xs,h2,O⟩:=n.row k b row z J;have I:b∈a::bs:=zhs _ (zhE z);exact⟨h0 b I,xs,by rw [h b I];exact h2,O.mono s⟩⟩
def NestOk(K:PySem.W.Frag)(H0 H:Hp)(σ:St)(γ:Ctx):Prop:=
 (∀(i:Nat) rows,γ[i]? = some (.nest rows)->∃a bs,σ[i]? = some (some (.ref a))/\Nest K H0 H rows a bs/\∀(j:Nat) ds c,γ[j]? = some (.own ds)->σ[j]? = some (some (.ref c))->c∉a::bs)/\
 ∀(i j:Nat) z r2,γ[i]? = some (.nest z)->γ[j]? = some (.nest r2)->i=j
theorem NestOk.nil0{K:PySem.W.Frag}{H0 H:Hp}{σ:St}{γ:Ctx}(h : ∀(i:Nat) rows,γ[i]? ≠ some (.nest rows)):NestOk K H0 H σ γ:=⟨λi rows e=>absurd e (h i rows),λi j z r2 e=>absurd e (h i z)⟩
theorem NestOk.move{K:PySem.W.Frag}{H0 H H0' H':Hp}{σ:St}{γ:Ctx}(n:NestOk K H0 H σ γ)(s:Same H0 H0')(h : ∀(i:Nat) rows a bs,γ[i]? = some (.nest rows)->σ[i]? = some (some (.ref a))->Nest K H0 H rows a bs->(∀(j:Nat) ds c,γ[j]? = some (.own ds)->σ[j]? = some (some (.ref c))->c∉a::bs)->∀b∈a::bs,H0' b=none/\H' b=H b):NestOk K H0' H' σ γ:=
 ⟨λi rows e=>by
  obtain⟨a,bs,h1,h2,z⟩:=n.1 i rows e;exact⟨a,bs,h1,h2.move s (λb I=>(h i rows a bs e h1 h2 z b I).1) (λb I=>(h i rows a bs e h1 h2 z b I).2),z⟩,n.2⟩
theorem NestOk.ext{K:PySem.W.Frag}{H0 H H0' H':Hp}{σ:St}{γ:Ctx}(n:NestOk K H0 H σ γ)(e:Ext H0 H H0' H'):NestOk K H0' H' σ γ:=
 n.move e.s0 λi rows a bs _ _ h2 _ b z=>by
  obtain⟨I,xs,g2⟩:=h2.at z;exact⟨e.new b I (by rw [g2];simp),by rw [e.s1 b _ g2,g2]⟩
structure RC(K:PySem.W.Frag)(H0 H:Hp)(σ:St)(γ:Ctx):Prop where
 sub:Same H0 H
 len:σ.length=γ.length
 val : ∀(i:Nat) d,γ[i]? = some (.val d)->∃v,σ[i]? = some (some v)/\Rep K H0 d v
 own : ∀(i:Nat) ds,γ[i]? = some (.own ds)->∃a xs,σ[i]? = some (some (.ref a))/\H0 a=none/\H a=some (.lst xs)/\Reps K H0 ds xs
 ne : ∀(i j:Nat) a ds es,γ[i]? = some (.own ds)->γ[j]? = some (.own es)->σ[i]? = some (some (.ref a))->σ[j]? = some (some (.ref a))->i=j
 nst:NestOk K H0 H σ γ
theorem RC.ext{K:PySem.W.Frag}{H0 H H0' H':Hp}{σ:St}{γ:Ctx}(r:RC K H0 H σ γ)(e:Ext H0 H H0' H'):RC K H0' H' σ γ:=
 ⟨e.sub,r.len,λi d h=>let ⟨v,h1,h2⟩:=r.val i d h;⟨v,h1,h2.mono e.s0⟩,
  λi ds h=>let ⟨a,xs,h1,h2,z,I⟩:=r.own i ds h;⟨a,xs,h1,e.new a h2 (by rw [z];simp),e.s1 _ _ z,I.mono e.s0⟩,r.ne,r.nst.ext e⟩
def tV(K:PySem.W.Frag)(f:CO D):TE:=λσ H Q=>∃H0 γ d,RC K H0 H σ γ/\f γ=some d/\∀v H' H0',Ext H0 H H0' H'->Rep K H0' d v->Q v H'
def tQ(K:PySem.W.Frag)(f:CO (Sk×List D)):TE:=λσ H Q=>∃H0 γ k ds,RC K H0 H σ γ/\f γ=some (k,ds)/\∀a xs H' H0',Ext H0 H H0' H'->SqK k K H' a xs->(k = .T->SqT K H0' a xs)->Reps K H0' ds xs->Q (.ref a) H'
def tO(K:PySem.W.Frag)(f:CO (List D)):TE:=λσ H Q=>∃H0 γ ds,RC K H0 H σ γ/\f γ=some ds/\
 ∀a xs H' H0',Ext H0 H H0' H'->H a=none->H0' a=none->H' a=some (.lst xs)->Reps K H0' ds xs->Q (.ref a) H'
def tT(K:PySem.W.Frag)(f:CO Bool):TT:=λσ H Q=>∃H0 γ b,RC K H0 H σ γ/\f γ=some b/\∀H' H0',Ext H0 H H0' H'->Q b H'
def tA(K:PySem.W.Frag)(f:CO (List D)):TA:=λσ H Q=>∃H0 γ ds,RC K H0 H σ γ/\f γ=some ds/\∀vs H' H0',Ext H0 H H0' H'->Reps K H0' ds vs->Q vs H'
abbrev PV(X:Cx)(e:Expr)(f:CO D):Prop:=PE X e (tV X.K f)
abbrev PQ(X:Cx)(e:Expr)(f:CO (Sk×List D)):Prop:=PE X e (tQ X.K f)
abbrev PO(X:Cx)(e:Expr)(f:CO (List D)):Prop:=PE X e (tO X.K f)
abbrev PTD(X:Cx)(e:Expr)(f:CO Bool):Prop:=PT X e (tT X.K f)
abbrev PWD(X:Cx)(e:Expr)(f:CO Bool):Prop:=PW X e (tT X.K f)
abbrev PAD(X:Cx)(es:List Expr)(f:CO (List D)):Prop:=PA X es (tA X.K f)
theorem jK{X:Cx}{e:Expr}{t t':TE}(h:PE X e t)(i : ∀σ H Q,t' σ H Q->t σ H Q):PE X e t':=λpins s σ H Q I q=>h pins s σ H Q I (i σ H Q q)
theorem XH{X:Cx}{e:Expr}{t t':TT}(h:PT X e t)(i : ∀σ H Q,t' σ H Q->t σ H Q):PT X e t':=λpins s σ H Q I q=>h pins s σ H Q I (i σ H Q q)
theorem zc5{X:Cx}{e:Expr}{t t':TT}(h:PW X e t)(i : ∀σ H Q,t' σ H Q->t σ H Q):PW X e t':=λz pins s σ H Q I q=>h z pins s σ H Q I (i σ H Q q)
theorem Wr{X:Cx}{es:List Expr}{t t':TA}(h:PA X es t)(i : ∀σ H Q,t' σ H Q->t σ H Q):PA X es t':=λpos pins s σ H Q I q=>h pos pins s σ H Q I (i σ H Q q)
theorem qc{X:Cx}{st:Stmt}{t t':TS}(h:PS X st t)(i : ∀D σ H,t' D σ H->t D σ H):PS X st t':=λpins s σ H D I q=>h pins s σ H D I (i D σ H q)
theorem zap{X:Cx}{st:List Stmt}{t t':TS}(h:PSs X st t)(i : ∀D σ H,t' D σ H->t D σ H):PSs X st t':=λpins s σ H D I q=>h pins s σ H D I (i D σ H q)
theorem ZS{X:Cx}{tg e:Expr}{t t':TI}(h:PI X tg e t)(i : ∀σ H R,t' σ H R->t σ H R):PI X tg e t':=λpins s σ H R I q=>h pins s σ H R I (i σ H R q)
theorem qR{n:Nat}(h:n<=lim):n<=sizeLine:=zh3 h ⋯
section
variable{X:Cx}{e a b c:Expr}{pos:Pos}
theorem PV.q{f:CO D}(h:PV X e f):PQ X e (zH f):=jK h λσ H Q O=>by
 obtain⟨H0,γ,k,ds,rc,I,q⟩:=O;unfold zH at I;cases e1:f γ with
 | none=>rw [e1]at I;cases I
 | some d=>
  rw [e1]at I;refine⟨H0,γ,d,rc,e1,λv H' H0' ext r=>?_⟩;cases d with
  | tup es=>
   obtain⟨e2,J⟩:k = .T/\ds=es:=by simp [jL]at I;exact⟨I.1.symm,I.2.symm⟩
   subst e2 J;obtain⟨a,xs,rfl,h1,h2⟩:=(show ∃a xs,v = .ref a/\SqT X.K H0' a xs/\Reps X.K H0' ds xs from r);exact q a xs H' H0' ext (sameT ext.sub h1) (λ_=>h1) h2
  | lst es=>
   obtain⟨e2,J⟩:k = .L/\ds=es:=by simp [jL]at I;exact⟨I.1.symm,I.2.symm⟩
   subst e2 J;obtain⟨a,xs,rfl,h1,h2⟩:=(show ∃a xs,v = .ref a/\SqL X.K H0' a xs/\Reps X.K H0' ds xs from r);exact q a xs H' H0' ext (ext.sub.seq h1) (λz=>nomatch z) h2
  | _=>simp [jL]at I
theorem PO.v{f:CO (List D)}(h:PO X e f):PV X e (qu f):=jK h λσ H Q O=>by
 obtain⟨H0,γ,d,rc,z,q⟩:=O;unfold qu at z;cases e1:f γ with
 | none=>rw [e1]at z;cases z
 | some ds=>
  rw [e1]at z;cases z;refine⟨H0,γ,ds,rc,e1,λa xs H' H0' ext h1 h2 Y r=>?_⟩;exact q _ _ _ (ext.show h1 h2 Y rc.sub) (show ∃I J,V.ref a = .ref I/\SqL X.K _ I J/\Reps X.K _ ds J from⟨a,xs,rfl,SqL.of zv,r.mono (zK h2 _)⟩)
theorem PO.q{f:CO (List D)}(h:PO X e f):PQ X e (jZ f):=jK h λσ H Q J=>by
 obtain⟨H0,γ,k,ds,rc,I,q⟩:=J;unfold jZ at I;cases e1:f γ with
 | none=>rw [e1]at I;cases I
 | some es=>
  rw [e1]at I;cases I;exact⟨H0,γ,_,rc,e1,λa xs H' H0' ext h1 h2 O r=>q a xs H' H0' ext (SqL.of O) (λz=>nomatch z) r⟩
theorem zb(i:Nat)(h:PE X e (ki i)):PV X e (ze i):=jK h λσ H Q I=>by
 obtain⟨H0,γ,d,rc,z,q⟩:=I;unfold ze at z;cases e1:γ[i]? with
 | none=>rw [e1]at z;cases z
 | some c=>
  rw [e1]at z;cases c with
  | val d'=>
   cases z;obtain⟨v,h1,h2⟩:=rc.val i d e1;exact⟨v,h1,q v H H0 (Ext.refl rc.sub) h2⟩
  | no=>cases z
  | own ds=>cases z
  | nest rows=>cases z
theorem zn(i:Nat)(h:PE X e (ki i)):PQ X e (zk i):=jK h λσ H Q Y=>by
 obtain⟨H0,γ,k,ds,rc,I,q⟩:=Y;unfold zk at I;cases e1:γ[i]? with
 | none=>rw [e1]at I;cases I
 | some c=>
  rw [e1]at I;cases c with
  | no=>cases I
  | nest rows=>cases I
  | own es=>
   cases I;obtain⟨a,xs,h1,h2,h3,h4⟩:=rc.own i ds e1;exact⟨_,h1,q a xs H H0 (Ext.refl rc.sub) (SqL.of h3) (λz=>nomatch z) h4⟩
  | val d=>
   obtain⟨v,h1,h2⟩:=rc.val i d e1;refine⟨v,h1,?_⟩;cases d with
   | tup es=>
    obtain⟨e2,O⟩:k = .T/\ds=es:=by simp [kc,jL]at I;exact⟨I.1.symm,I.2.symm⟩
    subst e2 O;obtain⟨a,xs,rfl,J,g2⟩:=(show ∃a xs,v = .ref a/\SqT X.K H0 a xs/\Reps X.K H0 ds xs from h2);exact q a xs H H0 (Ext.refl rc.sub) (sameT rc.sub J) (λ_=>J) g2
   | lst es=>
    obtain⟨e2,O⟩:k = .L/\ds=es:=by simp [kc,jL]at I;exact⟨I.1.symm,I.2.symm⟩
    subst e2 O;obtain⟨a,xs,rfl,J,g2⟩:=(show ∃a xs,v = .ref a/\SqL X.K H0 a xs/\Reps X.K H0 ds xs from h2);exact q a xs H H0 (Ext.refl rc.sub) (rc.sub.seq J) (λz=>nomatch z) g2
   | _=>simp [kc,jL]at I
theorem wN{d:D}{v:V}(h:PE X e (tC v))(r : ∀H,Rep X.K H d v):PV X e (zo d):=jK h λσ H Q z=>by
 obtain⟨H0,γ,d',rc,I,q⟩:=z;cases I;exact q v H H0 (Ext.refl rc.sub) (r H0)
theorem zg{i:Int}{j:Nat}:PV X (.Constant (.int i) j pos) (zo (.int i)):=wN zdp λ_=>(show V.int i = .int i from rfl)
theorem KY{x:Bool}{j:Nat}:PV X (.Constant (.bool x) j pos) (zo (.bl x)):=wN zfp λ_=>(show V.bl x = .bl x from rfl)
theorem KS{x:Str}{j:Nat}:PV X (.Constant (.str x) j pos) (zo (.str x)):=wN zat λ_=>(show V.str x = .str x from rfl)
def Snd(K:PySem.W.Frag)(r:R2)(F:D->D->Option D):Prop:=∀H0 H x y dx z d Q,Same H0 H->Rep K H0 dx x->Rep K H0 z y->F dx z=some d->(∀v H' H0',Ext H0 H H0' H'->Rep K H0' d v->Q v H')->r x y H Q
theorem bind_some{α β:Type}{o:Option α}{f:α->Option β}{y:β}(h:o.bind f=some y) : ∃x,o=some x/\f x=some y:=by
 cases o with
 | none=>cases h
 | some x=>exact⟨x,rfl,h⟩
theorem JO{K:PySem.W.Frag}{r:R2}{F:D->D->Option D}{fa fb:CO D}(J:Snd K r F) : ∀σ H Q,tV K (zq F fa fb) σ H Q->tOp r (tV K fa) (tV K fb) σ H Q:=λσ H Q O=>by
 obtain⟨H0,γ,d,rc,z,q⟩:=O;obtain⟨x,e1,z⟩:=bind_some z;obtain⟨y,e2,z⟩:=bind_some z;refine⟨H0,γ,x,rc,e1,λY H1 a0 x1 r1=>⟨a0,γ,y,rc.ext x1,e2,λv2 H2 a3 I r2=>?_⟩⟩;exact J a3 H2 Y v2 x y d Q I.sub (r1.mono I.s0) r2 z λv H' H0' x3 r3=>q v H' H0' (x1.trans (I.trans x3)) r3
theorem wa{z:Operator}{r:R2}{F:D->D->Option D}{fa fb:CO D}(I:OpR X (binaryOp z) r)(J:Snd X.K r F)(ha:PV X a fa)(O:PV X b fb):PV X (.BinOp a z b pos) (zq F fa fb):=
 jK (zby I ha O) (JO J)
theorem zdc{z:CmpOp}{r:R2}{F:D->D->Option D}{fa fb:CO D}(I:OpR X (compareOp z) r)(J:Snd X.K r F)(ha:PV X a fa)(O:PV X b fb)(hm:behindInMarks z b=false):PV X (.Compare a [z] [b] pos) (zq F fa fb):=
 jK (zbB I ha O hm) (JO J)
theorem yD{d:D}{b:Bool}(h:asB d=some b):d = .bl b:=by cases d<;>simp [asB]at h;rw [h]
theorem JJ{z:CmpOp}{r:R2}{F:D->D->Option D}{fa fb:CO D}(J:OpR X (compareOp z) r)(O:Snd X.K r F)(ha:PV X a fa)(Y:PV X b fb)(hm:behindInMarks z b=false):PTD X (.Compare a [z] [b] pos) (sB (zq F fa fb)):=
 XH (JK J ha Y hm) λσ H Q hZ=>by
  obtain⟨H0,γ,k,rc,I,q⟩:=hZ;obtain⟨d,e1,I⟩:=bind_some I;refine JO O σ H _ ⟨H0,γ,d,rc,e1,λv H' H0' x r=>?_⟩;rw [yD I]at r;exact⟨k,r,q H' H0' x⟩
theorem yX{f:CO D}(h:PV X e f)(he : ∀I,isTrue e X.env I=(do let v <- I;standAt e.pos;holding [v] (truthy v)):=by intro _;rfl):PTD X e (sB f):=
 XH (zdf h he) λσ H Q J=>by
  obtain⟨H0,γ,k,rc,z,q⟩:=J;obtain⟨d,e1,z⟩:=bind_some z;refine⟨H0,γ,d,rc,e1,λv H' H0' x r=>?_⟩;rw [yD z]at r;exact⟨k,r,q H' H0' x⟩
theorem ko{f:CO Bool}(h:PTD X a f):PWD X (.BoolOp .And [a] pos) f:=zbj h
theorem KP{f:CO Bool}(h:PTD X a f):PWD X (.BoolOp .Or [a] pos) f:=zc3 h
theorem yW{f g:CO Bool}{j3:List Expr}(ha:PTD X a f)(I:PWD X (.BoolOp .And (b::j3) pos) g):PWD X (.BoolOp .And (a::b::j3) pos) (yU f g):=
 zc5 (zc4 ha I) λσ H Q J=>by
  obtain⟨H0,γ,k,rc,z,q⟩:=J;obtain⟨c,e1,z⟩:=bind_some z;refine⟨H0,γ,c,rc,e1,λH' H0' x=>?_⟩;cases c with
  | true=>rw [if_pos rfl]at z ⊢;exact⟨H0',γ,k,rc.ext x,z,λH2 O Y=>q H2 O (x.trans Y)⟩
  | false=>rw [if_neg zhA]at z ⊢;cases z;exact q H' H0' x
theorem KQ{f g:CO Bool}{j3:List Expr}(ha:PTD X a f)(I:PWD X (.BoolOp .Or (b::j3) pos) g):PWD X (.BoolOp .Or (a::b::j3) pos) (Xw f g):=
 zc5 (zfm ha I) λσ H Q J=>by
  obtain⟨H0,γ,k,rc,z,q⟩:=J;obtain⟨c,e1,z⟩:=bind_some z;refine⟨H0,γ,c,rc,e1,λH' H0' x=>?_⟩;cases c with
  | true=>rw [if_pos rfl]at z ⊢;cases z;exact q H' H0' x
  | false=>rw [if_neg zhA]at z ⊢;exact⟨H0',γ,k,rc.ext x,z,λH2 O Y=>q H2 O (x.trans Y)⟩
theorem kW{f:CO Bool}(ha:PTD X a f):PTD X (.UnaryOp .Not a pos) (qa f):=
 XH (zdg ha) λσ H Q I=>by
  obtain⟨H0,γ,k,rc,z,q⟩:=I;unfold qa at z;cases e1:f γ with
  | none=>rw [e1]at z;cases z
  | some c=>rw [e1]at z;cases z;exact⟨H0,γ,c,rc,e1,λH' H0' x=>q H' H0' x⟩
theorem JI{f:CO Bool}(h:PWD X e f):PTD X e f:=h.pt
theorem zc8{z:BoolOp}{f:CO D}(h:PV X a f):PV X (.BoolOp z [a] pos) f:=zdn h
theorem zde{f g:CO D}{j3:List Expr}(ha:PV X a f)(I:PV X (.BoolOp .And (b::j3) pos) g):PV X (.BoolOp .And (a::b::j3) pos) (zco f g):=
 jK (zdq ha I) λσ H Q J=>by
  obtain⟨H0,γ,d,rc,z,q⟩:=J;obtain⟨c,e1,z⟩:=bind_some z;obtain⟨O,Y,e1⟩:=bind_some e1;refine⟨H0,γ,O,rc,Y,λv H' H0' x r=>?_⟩;rw [yD e1]at r;refine⟨c,r,?_⟩;cases c with
  | true=>rw [if_pos rfl]at z ⊢;exact⟨H0',γ,d,rc.ext x,z,λv2 H2 a1 x2 r2=>q v2 H2 a1 (x.trans x2) r2⟩
  | false=>rw [if_neg zhA]at z ⊢;cases z;exact q _ H' H0' x (show V.bl false = .bl false from rfl)
theorem zc9{f:CO D}(ha:PV X a f):PV X (.UnaryOp .Not a pos) (zcV f):=
 jK (zdo ha) λσ H Q J=>by
  obtain⟨H0,γ,d,rc,z,q⟩:=J;unfold zcV at z;cases e1:f γ with
  | none=>rw [e1]at z;cases z
  | some I=>
   rw [e1]at z;refine⟨H0,γ,I,rc,e1,λv H' H0' x r=>?_⟩;cases I with
   | bl c=>cases z;exact⟨c,r,q _ H' H0' x (show V.bl (!c) = .bl (!c)from rfl)⟩
   | _=>cases z
theorem V9{k:CO Bool}{f g:CO D}(Y:PTD X c k)(ha:PV X a f)(hb:PV X b g):PV X (.IfExp c a b pos) (zcn k f g):=
 jK (pe_ifExp Y ha hb) λσ H Q hZ=>by
  obtain⟨H0,γ,d,rc,z,q⟩:=hZ;obtain⟨t,e1,z⟩:=bind_some z;refine⟨H0,γ,t,rc,e1,λH' H0' x=>?_⟩;cases t with
  | true=>rw [if_pos rfl]at z ⊢;exact⟨H0',γ,d,rc.ext x,z,λI H2 J O r2=>q I H2 J (x.trans O) r2⟩
  | false=>rw [if_neg zhA]at z ⊢;exact⟨H0',γ,d,rc.ext x,z,λI H2 J O r2=>q I H2 J (x.trans O) r2⟩
theorem Yh:PAD X [] zz:=Wr jp λσ H Q z=>by
 obtain⟨H0,γ,ds,rc,I,q⟩:=z;cases I;exact q [] H H0 (Ext.refl rc.sub) Reps.nil
theorem kz{es:List Expr}{f:CO D}{g:CO (List D)}(ha:PV X e f)(J:PAD X es g)(O:starEach (e::es) X.env=(false,eval e X.env)::starEach es X.env:=by rfl):PAD X (e::es) (zc f g):=
 Wr (zF ha J O) λσ H Q Y=>by
  obtain⟨H0,γ,ds,rc,z,q⟩:=Y;obtain⟨x,e1,z⟩:=bind_some z;cases e2:g γ with
  | none=>rw [e2]at z;cases z
  | some r=>
   rw [e2]at z;cases z;exact⟨H0,γ,x,rc,e1,λv H1 a0 x1 r1=>⟨a0,γ,r,rc.ext x1,e2,λvs H2 a2 I r2=>q (v::vs) H2 a2 (x1.trans I) (Reps.cons (r1.mono I.s0) r2)⟩⟩
theorem z6{es:List Expr}{x1:Nat}{f:CO (List D)}(h:PAD X es f):PV X (.Tuple es x1 pos) (jC f):=
 jK (zas h) λσ H Q Y=>by
  obtain⟨H0,γ,d,rc,z,q⟩:=Y;obtain⟨ds,e1,z⟩:=bind_some z;by_cases I:ds.length<=lim
  ·rw [if_pos I]at z;cases z
   refine⟨H0,γ,ds,rc,e1,λvs H1 a0 x1 J=>⟨qR (by rw [J.length];exact I),λp O=>?_⟩⟩;exact q _ _ _ (x1.trans (Ext.alloc x1.sub O _)) (show ∃a xs,V.ref p = .ref a/\SqT X.K _ a xs/\Reps X.K _ ds xs from⟨p,vs,rfl,SqT.of zv,J.mono (zK (zS x1.sub O) _)⟩)
  ·rw [if_neg I]at z;cases z
theorem we{es:List Expr}{f:CO (List D)}(h:PAD X es f):PO X (.List es pos) (x6 f):=
 jK (zau h) λσ H Q hZ=>by
  obtain⟨H0,γ,d,rc,I,q⟩:=hZ;obtain⟨ds,e1,I⟩:=bind_some I;by_cases O:ds.length<=lim
  ·rw [if_pos O]at I;cases I
   refine⟨H0,γ,_,rc,e1,λvs H1 a1 x1 Y=>⟨qR (by rw [Y.length];exact O),λp J=>?_⟩⟩;exact q p vs _ a1 (x1.trans (Ext.hide x1.sub J _)) (by
    cases z:H p with
    | none=>rfl
    | some o=>rw [x1.s1 p o z]at J;cases J) (zS x1.sub J) zv Y
  ·rw [if_neg O]at I;cases I
end
theorem xu:entryFor table "dict.update.loop" = some Builtin.«dict.update.loop» :=entryFor_of_tree (by kernel_rfl)
theorem xq(args:Args):(Code.builtin "dict.update.loop" args).quiet=true:=Code.quiet_builtin _ ⋯
end DL
namespace L2
open PySem PySem.Spec PyProof.Rows
structure M2(X:Cx)(o:Expr)(m:Str)(apos:Pos)(e f:Expr)(cpos:Pos):Prop where
 base:attributeBase o m X.env (eval o X.env)=eval o X.env
 few:((backTo cpos (starEach [e,f] X.env)).all (λx=> !x.1) && (backToKw cpos (keywordEach [] X.env)).all (λx=>x.1.isSome)
  && decide (([e,f]:List Expr).length+([]:List Keyword).length+(if ([]:List Keyword).isEmpty then 0 else 1)<30))=true
 line:(apos.endLine==cpos.line)=true
 trees:backTo cpos (starEach [e,f] X.env)=[(false,eval e X.env),(false,eval f X.env)]
end L2
namespace DL
open PySem L2
def qT(ds:List D):List D:=(zhf ds.length).map λ(i:Nat)=>D.tup [.int i,ds[i]?.getD .non]
def ka(T:Tg)(f:CO (List D))(γ:Ctx):List D->Option (List (List D))
 | []=>some []
 | d::ds=>(jN T d γ).bind λγ1=>(f γ1).bind λe=>(ka T f γ ds).map λr=>e::r
def ZB(src:CO (List D))(T:Tg)(n:Nat)(fr:List Nat)(f:CO (List D)):CO (List (List D)):=λγ=>(src γ).bind λds=>if ds.length<=lim then ka T f (jn n fr γ) ds else none
def zes(i:Nat)(F:CO Fl):CO Fl:=λγ=>(qV γ[i]?).bind λds=>F (γ.set i (.val (.lst ds)))
def za0:List D->Option (List Str)
 | []=>some []
 | .str x::r=>(za0 r).map λl=>x::l
 | _::_=>none
def ja(x:Str):Bool:=decide (x.length<=1000)
def Zw(f g:CO D):CO D:=λγ=>(f γ).bind λd=>((g γ).bind asI).bind λi=>match d with
 | .str z=>if ja z=true then (ixD z.cps.toList.length i).bind λk=>z.cps.toList[k]?.map λc=> .str ⟨#[c]⟩else none
 | _=>none
def Xx(f:CO D):CO D:=λγ=>(f γ).bind λd=>match d with
 | .str z=>if ja z=true then some (.int z.length)else none
 | _=>none
def zbd(f g:CO D):CO D:=λγ=>((f γ).bind asI).bind λi=>((g γ).bind asI).map λj=> .int (if j<i then j else i)
abbrev Xn:=Str×Option Int
def xNo:CO Xn:=λ_=>none
def ze1(c:Str):CO Xn:=λ_=>some (c,none)
def xIf(k:CO Bool)(G H:CO Xn):CO Xn:=λγ=>(k γ).bind λb=>if b=true then G γ else H γ
def zg2(c:Str):Str:=if c==("NoRoom" : Str)then "room" else "at"
end DL
namespace DL
open PySem L2
open PySem.W (KasT kas_sort)
def qe(z:Str):List D:=z.cps.toList.map λc=>D.str ⟨#[c]⟩
def zai(f:CO D):CO (List D):=λγ=>(f γ).bind λd=>match d with
 | .str z=>if ja z=true then some (qe z)else none
 | _=>none
def qp(f:CO D):CO (List D):=λγ=>(f γ).bind λd=>match d with
 | .str z=>if ja z=true then some (qT (qe z))else none
 | _=>none
def yQ(f:CO D):CO (List D):=λγ=>(f γ).bind λd=>match d with
 | .lst ds=>some (qT ds)
 | _=>none
def zgi(f:CO D)(g:CO (Sk×List D)):CO D:=λγ=>(f γ).bind λd=>(g γ).bind λa=>match d with
 | .str x=>(za0 a.2).map λl=> .bl (l.any λy=>y==x)
 | _=>none
def V0(f g:CO D):CO D:=λγ=>(f γ).bind λd=>(g γ).bind λe=>match d,e with
 | .str x,.str y=>if ja x=true/\ja y=true then some (.str (x++y))else none
 | _,_=>none
def Wq:D->Option (Int×Int)
 | .tup [.int a,.int b]=>some (a,b)
 | _=>none
def yd:List D->Option (List (Int×Int))
 | []=>some []
 | d::r=>(Wq d).bind λp=>(yd r).map λl=>p::l
def zeA(x y:Int×Int):Bool:=if x.1=y.1 then decide (x.2<y.2)else decide (x.1<y.1)
def zcX{α:Type}(lt:Nat->Nat->Bool):KasT α->α
 | .ret a=>a
 | .ask i j k=>zcX lt (k (lt i j))
def qv(ps:List (Int×Int)):List Nat:=if ps.length<2 then zhf ps.length else (zcX (λi j=>zeA (ps.getD i (0,0)) (ps.getD j (0,0))) (kas_sort ps.length)).toList
def Xu(ds:List D):Option (List D):=(yd ds).bind λps=>if ds.length<64 then some ((qv ps).map λi=>ds.getD i .non)else none
def Zx(f:CO (Sk×List D)):CO (List D):=λγ=>(f γ).bind λa=>match a.1 with
 | .L=>Xu a.2
 | _=>none
end DL
namespace DL
open PySem L2
def JD(i:Nat)(f:CO (List D)):CO Fl:=λγ=>(qV γ[i]?).bind λds=>(f γ).bind λes=>if ds.length+es.length<=lim then some (.next (γ.set i (.own (ds++es))))else none
def Qv(F G:List D->Option Res)(g:CO (List D)):CO (List D):=λγ=>(g γ).bind λl=>match l with
 | [p,.str z,t,b]=>((if z=("r" : Str)then F else G) [p,t,b]).bind zcp
 | _=>none
def xi:List D->Option (List Int)
 | []=>some []
 | .int i::r=>(xi r).map λl=>i::l
 | _::_=>none
open PySem.Spec PyProof.Rows
structure RS(K:PySem.W.Frag)(E0 E H0 H:Hp)(σ:St)(γ:Ctx):Prop where
 rc:RC K H0 H σ γ
 ext:Ext E0 E H0 H
 fresh : ∀(i:Nat) ds a,γ[i]? = some (.own ds)->σ[i]? = some (some (.ref a))->E a=none
 fr2 : ∀(i:Nat) rows a xs,γ[i]? = some (.nest rows)->σ[i]? = some (some (.ref a))->H a=some (.lst xs)->E a=none/\∀b,V.ref b∈xs->E b=none
def Sat(K:PySem.W.Frag)(E0 E:Hp)(D:Ends):Fl->Prop
 | .next γ=>∀σ H H0,RS K E0 E H0 H σ γ->D.nx σ H
 | .brk γ=>∀σ H H0,RS K E0 E H0 H σ γ->D.bk σ H
 | .cont γ=>∀σ H H0,RS K E0 E H0 H σ γ->D.ct σ H
 | .ret (.val d)=>∀v H H0,Ext E0 E H0 H->Rep K H0 d v->D.rt v H
 | .ret (.own es)=>∀a xs H H0,Ext E0 E H0 H->E a=none->H0 a=none->H a=some (.lst xs)->Reps K H0 es xs->D.rt (.ref a) H
def tS(K:PySem.W.Frag)(F:CO Fl):TS:=λD σ H=>∃E0 E H0 γ z,RS K E0 E H0 H σ γ/\F γ=some z/\Sat K E0 E D z
abbrev PSD(X:Cx)(st:Stmt)(F:CO Fl):Prop:=PS X st (tS X.K F)
abbrev Xi(X:Cx)(sts:List Stmt)(F:CO Fl):Prop:=PSs X sts (tS X.K F)
section
variable{K:PySem.W.Frag}{E0 E H0 H H0' H':Hp}{σ:St}{γ:Ctx}
theorem RS.step(r:RS K E0 E H0 H σ γ)(e:Ext H0 H H0' H'):RS K E0 E H0' H' σ γ:=⟨r.rc.ext e,r.ext.trans e,r.fresh,λi rows a xs h1 h2 I=>by
 obtain⟨J,bs,z,g2,_⟩:=r.rc.nst.1 i rows h1;rw [h2]at z;cases z;have:=e.s1 a _ g2.ha;rw [I]at this;cases this;exact r.fr2 i rows a _ h1 h2 g2.ha⟩
theorem zB{α:Type}{l:List α}{i j:Nat}{x y:α}(h:(l.set i x)[j]? = some y):(j=i/\y=x/\i<l.length)\/(j≠i/\l[j]? = some y):=by
 by_cases e:i=j
 ·subst e
  by_cases z:i<l.length
  ·rw [zhK z]at h;cases h;exact .inl ⟨rfl,rfl,z⟩
  ·rw [List.set_eq_of_length_le ⋯]at h
   exact absurd (zhg.mp h).1 z
 ·rw [zhl e]at h;exact .inr ⟨zic e,h⟩
theorem NestOk.setVal{i:Nat}{d:D}{v:V}(n:NestOk K H0 H σ γ):NestOk K H0 H (σ.set i (some v)) (γ.set i (.val d)):=
 ⟨λj rows e=>by
  rcases zB e with⟨_,z,_⟩ | ⟨I,z⟩
  ·cases z
  ·obtain⟨a,bs,h1,h2,J⟩:=n.1 j rows z
   refine⟨a,bs,by rw [zhl (zic I)];exact h1,h2,λk ds c e1 e2=>?_⟩;rcases zB e1 with⟨_,z,_⟩ | ⟨O,z1⟩
   ·cases z
   ·rw [zhl (zic O)]at e2;exact J k ds c z1 e2,
 λj k Y r2 e1 e2=>by
  rcases zB e1 with⟨_,z,_⟩ | ⟨_,z1⟩
  ·cases z
  ·rcases zB e2 with⟨_,z,_⟩ | ⟨_,z2⟩
   ·cases z
   ·exact n.2 j k Y r2 z1 z2⟩
theorem RC.setVal{i:Nat}{d:D}{v:V}(r:RC K H0 H σ γ)(h:Rep K H0 d v):RC K H0 H (σ.set i (some v)) (γ.set i (.val d)):=by
 refine⟨r.sub,by simp [r.len],λj d' e=>?_,λj ds e=>?_,λj k a ds es e1 e2 O Y=>?_,r.nst.setVal⟩
 ·rcases zB e with⟨rfl,z,hl⟩ | ⟨I,z⟩
  ·cases z;exact⟨v,zhK (by rw [r.len];exact hl),h⟩
  ·obtain⟨v',J,g2⟩:=r.val j d' z
   exact⟨v',by rw [zhl (zic I)];exact J,g2⟩
 ·rcases zB e with⟨rfl,z,hl⟩ | ⟨I,z⟩
  ·cases z
  ·obtain⟨a,xs,J,g2⟩:=r.own j ds z
   exact⟨a,xs,by rw [zhl (zic I)];exact J,g2⟩
 ·rcases zB e1 with⟨_,z,_⟩ | ⟨I,z1⟩
  ·cases z
  ·rcases zB e2 with⟨_,z,_⟩ | ⟨hk,z2⟩
   ·cases z
   ·rw [zhl (zic I)]at O
    rw [zhl (zic hk)]at Y;exact r.ne j k a ds es z1 z2 O Y
theorem RS.setVal{i:Nat}{d:D}{v:V}(r:RS K E0 E H0 H σ γ)(h:Rep K H0 d v):RS K E0 E H0 H (σ.set i (some v)) (γ.set i (.val d)):=
 ⟨r.rc.setVal h,r.ext,λj ds a e1 e2=>by
  rcases zB e1 with⟨_,z,_⟩ | ⟨I,z⟩
  ·cases z
  ·rw [zhl (zic I)]at e2;exact r.fresh j ds a z e2,
 λj rows a xs e1 e2 J=>by
  rcases zB e1 with⟨_,z,_⟩ | ⟨I,z⟩
  ·cases z
  ·rw [zhl (zic I)]at e2;exact r.fr2 j rows a xs z e2 J⟩
theorem vc : ∀{z bs:List Addr},z.map V.ref=bs.map V.ref->z=bs
 | [],[],_=>rfl
 | [],_::_,h=>by cases h
 | _::_,[],h=>by cases h
 | a::z,b::bs,h=>by
  rw [zhI,zhI]at h;injection h with h1 h2;injection h1 with h1;rw [h1,vc h2]
theorem RS.setOwn{i:Nat}{es:List D}{a:Addr}{xs:List V}{G0 G:Hp}(r:RS K E0 E G0 G σ γ)(e:Ext G0 G H0 H)(h1:G a=none)(h2:H0 a=none)(h3:H a=some (.lst xs))(h4:Reps K H0 es xs) :
 RS K E0 E H0 H (σ.set i (some (.ref a))) (γ.set i (.own es)):=by
 have rc:=r.rc.ext e;have no : ∀(j:Nat) ds,γ[j]? = some (.own ds)->¬σ[j]? = some (some (.ref a)):=λj ds g z=>by
  obtain⟨b,ys,I,g2,g3,_⟩:=r.rc.own j ds g;rw [z]at I;cases I;rw [h1]at g3;cases g3
 refine⟨⟨rc.sub,by simp [rc.len],λj d' g=>?_,λj ds g=>?_,λj k b ds fs e1 e2 Y e4=>?_,⟨λj rows g=>?_,λj k r1 r2 I g2=>?_⟩⟩,r.ext.trans e,λj ds b I g2=>?_,λj rows b xs I g2 g3=>?_⟩
 ·rcases zB g with⟨_,z,_⟩ | ⟨J,z⟩
  ·cases z
  ·obtain⟨v',I,g2⟩:=rc.val j d' z
   exact⟨v',by rw [zhl (zic J)];exact I,g2⟩
 ·rcases zB g with⟨rfl,z,O⟩ | ⟨J,z⟩
  ·cases z;exact⟨a,xs,zhK (by rw [rc.len];exact O),h2,h3,h4⟩
  ·obtain⟨b,ys,I,g2⟩:=rc.own j ds z
   exact⟨b,ys,by rw [zhl (zic J)];exact I,g2⟩
 ·rcases zB e1 with⟨rfl,z,O⟩ | ⟨J,z1⟩
  ·rcases zB e2 with⟨rfl,_,_⟩ | ⟨hk,z2⟩
   ·rfl
   ·rw [zhK (by rw [rc.len];exact O)]at Y
    rw [zhl (zic hk)]at e4;cases Y;exact absurd e4 (no k fs z2)
  ·rcases zB e2 with⟨rfl,z,O⟩ | ⟨hk,z2⟩
   ·rw [zhK (by rw [rc.len];exact O)]at e4
    rw [zhl (zic J)]at Y;cases e4;exact absurd Y (no j ds z1)
   ·rw [zhl (zic J)]at Y
    rw [zhl (zic hk)]at e4;exact rc.ne j k b ds fs z1 z2 Y e4
 ·rcases zB g with⟨_,z,_⟩ | ⟨J,z⟩
  ·cases z
  ·obtain⟨b,bs,I,g2,g3⟩:=r.rc.nst.1 j rows z
   obtain⟨b',a3,f1,f2,f3⟩:=rc.nst.1 j rows z;rw [I]at f1;cases f1;have eb:a3.map V.ref=bs.map V.ref:=by
    have:=e.s1 b _ g2.ha;rw [f2.ha]at this;injection this with this;injection this
   have ac:a3=bs:=vc eb;subst ac;refine⟨b,a3,by rw [zhl (zic J)];exact I,f2,λk ds c e1 e2=>?_⟩;rcases zB e1 with⟨rfl,_,O⟩ | ⟨hk,z1⟩
   ·rw [zhK (by rw [rc.len];exact O)]at e2;cases e2
    intro hm;obtain⟨_,af,q⟩:=g2.at hm;rw [h1]at q;cases q
   ·rw [zhl (zic hk)]at e2;exact f3 k ds c z1 e2
 ·rcases zB I with⟨_,z,_⟩ | ⟨_,z1⟩
  ·cases z
  ·rcases zB g2 with⟨_,z,_⟩ | ⟨_,z2⟩
   ·cases z
   ·exact rc.nst.2 j k r1 r2 z1 z2
 ·rcases zB I with⟨rfl,z,O⟩ | ⟨J,z⟩
  ·rw [zhK (by rw [rc.len];exact O)]at g2;cases g2
   cases q:E a with
   | none=>rfl
   | some o=>rw [r.ext.s1 a o q]at h1;cases h1
  ·rw [zhl (zic J)]at g2;exact r.fresh j ds b z g2
 ·rcases zB I with⟨_,z,_⟩ | ⟨J,z⟩
  ·cases z
  ·rw [zhl (zic J)]at g2;exact(r.step e).fr2 j rows b xs z g2 g3
theorem RS.rewrite{i:Nat}{ds es:List D}{a:Addr}{xs ys:List V}(r:RS K E0 E H0 H σ γ)(hi:γ[i]? = some (.own ds))(J:σ[i]? = some (some (.ref a)))(h4:Reps K H0 es ys) :
 RS K E0 E H0 (upd H a (.lst ys)) σ (γ.set i (.own es)):=by
 obtain⟨a',ac,g1,g2,g3,g4⟩:=r.rc.own i ds hi;rw [J]at g1;cases g1;have ag:i<γ.length:=(zhg.mp hi).1;refine⟨⟨λb o q=>?_,by simp [r.rc.len],λj d' g=>?_,λj fs g=>?_,λj k b fs gs e1 e2 e3 e4=>?_,⟨λj rows g=>?_,λj k r1 r2 e1 e2=>?_⟩⟩,⟨r.ext.s0,λb o q=>?_,λb o q=>?_,r.ext.new⟩,λj fs b e1 e2=>?_,λj rows b zs e1 e2 e3=>?_⟩
 ·rw [zy (λz=>by rw [z,g2]at q;cases q)];exact r.rc.sub b o q
 ·rcases zB g with⟨_,z,_⟩ | ⟨hj,z⟩
  ·cases z
  ·exact r.rc.val j d' z
 ·rcases zB g with⟨rfl,z,hl⟩ | ⟨hj,z⟩
  ·cases z;exact⟨a,ys,J,g2,zv,h4⟩
  ·obtain⟨b,zs,I,O,Y,f4⟩:=r.rc.own j fs z
   refine⟨b,zs,I,O,?_,f4⟩;rw [zy (λq=>hj (r.rc.ne j i a fs ds z hi (by rw [I,q]) J))];exact Y
 ·have c1 : ∃fs',γ[j]? = some (.own fs'):=by
   rcases zB e1 with⟨q,_,_⟩ | ⟨_,z⟩
   ·exact⟨ds,by rw [q];exact hi⟩
   ·exact⟨fs,z⟩
  have c2 : ∃fs',γ[k]? = some (.own fs'):=by
   rcases zB e2 with⟨q,_,_⟩ | ⟨_,z⟩
   ·exact⟨ds,by rw [q];exact hi⟩
   ·exact⟨gs,z⟩
  obtain⟨I,z1⟩:=c1;obtain⟨O,z2⟩:=c2;exact r.rc.ne j k b I O z1 z2 e3 e4
 ·rcases zB g with⟨_,z,_⟩ | ⟨hj,z⟩
  ·cases z
  ·obtain⟨b,bs,I,O,Y⟩:=r.rc.nst.1 j rows z
   have a4:=Y i ds a hi J;refine⟨b,bs,I,O.move (Same.refl _) (λc hc=>(O.at hc).1) (λc hc=>zy λq=>a4 (q ▸ hc)),λk fs c e1 e2=>?_⟩;rcases zB e1 with⟨q,_,_⟩ | ⟨_,z1⟩
   ·rw [q,J]at e2;cases e2;exact a4
   ·exact Y k fs c z1 e2
 ·rcases zB e1 with⟨_,z,_⟩ | ⟨_,z1⟩
  ·cases z
  ·rcases zB e2 with⟨_,z,_⟩ | ⟨_,z2⟩
   ·cases z
   ·exact r.rc.nst.2 j k r1 r2 z1 z2
 ·rw [zy (λz=>by rw [z,r.fresh i ds a hi J]at q;cases q)];exact r.ext.s1 b o q
 ·rw [zy (λz=>by rw [z,g2]at q;cases q)];exact r.ext.sub b o q
 ·rcases zB e1 with⟨q,_,_⟩ | ⟨_,z⟩
  ·rw [q]at e2;exact r.fresh i ds b hi e2
  ·exact r.fresh j fs b z e2
 ·rcases zB e1 with⟨_,z,_⟩ | ⟨hj,z⟩
  ·cases z
  ·obtain⟨b',bs,I,O,Y⟩:=r.rc.nst.1 j rows z
   rw [e2]at I;cases I;rw [zy (show b≠a from λq=>Y i ds a hi J (by rw [q];exact zhq))]at e3;exact r.fr2 j rows b zs z e2 e3
end
section
variable{X:Cx}{e a b c:Expr}{pos:Pos}{st:Stmt}{j3:List Stmt}
theorem qg:Xi X [] qF:=zap JL λD σ H z=>by
 obtain⟨E0,E,H0,γ,O,rs,I,J⟩:=z;cases I;exact J σ H H0 rs
theorem zh{F G:CO Fl}(h1:PSD X st F)(h2:Xi X j3 G):Xi X (st::j3) (zZ F G):=zap (jA h1 h2) λD σ H O=>by
 obtain⟨E0,E,H0,γ,Y,rs,z,I⟩:=O;obtain⟨J,e1,z⟩:=bind_some z;refine⟨E0,E,H0,γ,J,rs,e1,?_⟩;cases J with
 | next γ'=>exact λσ' H' H0' a0=>⟨E0,E,H0',γ',Y,a0,z,I⟩
 | brk γ'=>cases z;exact I
 | cont γ'=>cases z;exact I
 | ret r=>cases z;cases r<;>exact I
theorem zu{F:CO Fl}(h1:PSD X st F):Xi X [st] F:=qN h1
theorem zm{α β:Type}{o:Option α}{f:α->β}{y:β}(h:o.map f=some y) : ∃x,o=some x/\f x=y:=by
 cases o with
 | none=>cases h
 | some x=>exact⟨x,rfl,by simpa using h⟩
theorem z9{f:CO D}(h:PV X e f):PSD X (.Return (some e) pos) (qo f):=qc (ku h) λD σ H I=>by
 obtain⟨E0,E,H0,γ,O,rs,z,J⟩:=I;obtain⟨d,e1,z⟩:=zm z;subst z;exact⟨H0,γ,d,rs.rc,e1,λv H' H0' x r=>J v H' H0' (rs.ext.trans x) r⟩
theorem yu{f:CO (List D)}(h:PO X e f):PSD X (.Return (some e) pos) (Zy f):=qc (ku h) λD σ H I=>by
 obtain⟨E0,E,H0,γ,Y,rs,z,J⟩:=I;obtain⟨ds,e1,z⟩:=zm z;subst z;refine⟨H0,γ,ds,rs.rc,e1,λa xs H' H0' x h1 h2 O r=>J a xs H' H0' (rs.ext.trans x) ?_ h2 O r⟩;cases q:E a with
 | none=>rfl
 | some o=>rw [rs.ext.s1 a o q]at h1;cases h1
theorem xH(i:Nat)(h:PE X e (ki i)):PSD X (.Return (some e) pos) (yN i):=qc (ku h) λD σ H J=>by
 obtain⟨E0,E,H0,γ,fl,rs,z,I⟩:=J;unfold yN at z;cases e1:γ[i]? with
 | none=>rw [e1]at z;cases z
 | some c=>
  rw [e1]at z;cases c with
  | no=>cases z
  | val d=>
   cases z;obtain⟨v,h1,h2⟩:=rs.rc.val i d e1;exact⟨v,h1,I v H H0 rs.ext h2⟩
  | nest rows=>cases z
  | own ds=>
   cases z;obtain⟨a,xs,h1,h2,O,Y⟩:=rs.rc.own i ds e1;exact⟨_,h1,I a xs H H0 rs.ext (rs.fresh i ds a e1 h1) h2 O Y⟩
theorem ZO:PSD X (.Continue pos) VZ:=qc JM λD σ H ⟨E0,E,H0,γ,J,rs,z,I⟩=>by cases z;exact I σ H H0 rs
theorem K2:PSD X st Zz:=qc We λD σ H ⟨E0,E,H0,γ,I,rs,z,J⟩=>by cases z
theorem kt{k:CO Bool}{F G:CO Fl}{x y:List Stmt}(O:PTD X c k)(ha:Xi X x F)(Y:Xi X y G):PSD X (.If c x y pos) (sIf k F G):=qc (zbr O ha Y) λD σ H hZ=>by
 obtain⟨E0,E,H0,γ,I,rs,z,J⟩:=hZ;obtain⟨t,e1,z⟩:=bind_some z;refine⟨H0,γ,t,rs.rc,e1,λH' H0' x=>?_⟩;cases t with
 | true=>rw [if_pos rfl]at z ⊢;exact⟨E0,E,H0',γ,I,rs.step x,z,J⟩
 | false=>rw [if_neg zhA]at z ⊢;exact⟨E0,E,H0',γ,I,rs.step x,z,J⟩
theorem zR(i:Nat){f:CO D}(h:PS X st (Zi (tV X.K f) (xj i))):PSD X st (jv i f):=qc h λD σ H I=>by
 obtain⟨E0,E,H0,γ,O,rs,z,J⟩:=I;obtain⟨d,e1,z⟩:=zm z;subst z;exact⟨H0,γ,d,rs.rc,e1,λv H' H0' x r=>J _ _ H0' ((rs.step x).setVal r)⟩
theorem qO(i:Nat){f:CO (List D)}(h:PS X st (Zi (tO X.K f) (xj i))):PSD X st (xN i f):=qc h λD σ H I=>by
 obtain⟨E0,E,H0,γ,Y,rs,z,J⟩:=I;obtain⟨ds,e1,z⟩:=zm z;subst z;exact⟨H0,γ,ds,rs.rc,e1,λa xs H' H0' x h1 h2 O r=>J _ _ H0' (rs.setOwn x h1 h2 O r)⟩
theorem xy{o:Option Cell}{ds:List D}(h:qV o=some ds):o=some (.own ds):=by
 cases o with
 | none=>cases h
 | some c=>cases c<;>simp [qV]at h;rw [h]
theorem XI(i:Nat){f:CO D}(h:PE X e (tBM X.K "list" JE (ki i) (yk (tV X.K f) zag)))(Y:swapsWith e none pos.line X.env=pure false:=by rfl):PSD X (.Expr e pos) (xo i f):=
 qc (wP h Y) λD σ H hZ=>by
  obtain⟨E0,E,H0,γ,fl,rs,z,a1⟩:=hZ;obtain⟨ds,e1,z⟩:=bind_some z;obtain⟨d,e2,z⟩:=bind_some z;have e1:=xy e1;by_cases I:ds.length<lim
  ·rw [if_pos I]at z;cases z
   obtain⟨a,xs,h1,h2,J,O⟩:=rs.rc.own i ds e1;refine⟨_,h1,.inl ⟨rfl,_,SqL.of J⟩,H0,γ,d,rs.rc,e2,λv H' H0' x r=>?_⟩;have a2:=rs.step x;have a3:=x.s1 _ _ J;refine⟨a,xs,v,rfl,rfl,a3,?_,?_⟩
   ·exact zhx (by rw [O.length];exact I) (qR (zhn _))
   ·exact a1 _ _ H0' (a2.rewrite (xs:=xs) e1 h1 ((O.mono x.s0).append (Reps.cons r Reps.nil)))
  ·rw [if_neg I]at z;cases z
end
def zgG(K:PySem.W.Frag)(H0 H:Hp)(Q:VK):Res->Prop
 | .val d=>∀v H' H0',Ext H0 H H0' H'->Rep K H0' d v->Q v H'
 | .own es=>∀a xs H' H0',Ext H0 H H0' H'->H a=none->H0' a=none->H' a=some (.lst xs)->Reps K H0' es xs->Q (.ref a) H'
def spF(K:PySem.W.Frag)(n:Nat)(F:List D->Option Res):Sp:=λvs H Q _=>∃H0 ds r,Same H0 H/\Reps K H0 ds vs/\ds.length=n/\F ds=some r/\zgG K H0 H Q r
theorem spF.len{K:PySem.W.Frag}{n:Nat}{F:List D->Option Res}{ps:List Str}(hn:ps.length=n) : ∀vs H Q E,spF K n F vs H Q E->vs.length=ps.length:=λvs H Q E h=>by
 obtain⟨H0,ds,r,_,h1,h2,_⟩:=h;rw [h1.length,h2,hn]
section
variable{P:Program}{w:World}{K:PySem.W.Frag}{mg:Str->Option Value}{base:Heap}
theorem yq{H0 H:Hp}{N:List Str}{ds:List D}{vs:List V}(s:Same H0 H)(h:Reps K H0 ds vs)(hn:ds.length<=N.length):RS K H0 H H0 H (start N vs) (jx N.length ds):=by
 have z:=h.length;refine⟨⟨s,by simp [L2.start,jx,z],λi d e=>?_,λi es e=>?_,λi j a es fs e _ _ _=>?_,NestOk.nil0 λi rows e=>?_⟩,Ext.refl s,λi es a e _=>?_,λi rows a xs e _ _=>?_⟩
 all_goals unfold jx at e
 ·by_cases hi:i<ds.length
  ·rw [zhL (by simpa using hi),zhz]at e
   cases e1:ds[i]? with
   | none=>rw [e1]at e;cases e
   | some d'=>
    rw [e1]at e;cases e;obtain⟨x,I,g2⟩:=h.get e1;refine⟨x,?_,g2⟩;unfold L2.start;rw [zhL (by simp;omega),zhz,I];rfl
  ·rw [zhS (by simpa using hi),zjo]at e
   split at e<;>cases e
 all_goals
  by_cases hi:i<ds.length
  ·rw [zhL (by simpa using hi),zhz]at e
   cases e1:ds[i]? with
   | none=>rw [e1]at e;cases e
   | some d'=>rw [e1]at e;cases e
  ·rw [zhS (by simpa using hi),zjo]at e
   split at e<;>cases e
theorem zd2{x qual:Str}{st:Stmt}{f:Addr}{fd:FuncData}{N ps:List Str}{k:Nat}{F:CO Fl}(J:L2.Fun K x qual st f fd)(S:FnScope N ps (defScope st))
 (O : ∀(cdv:Value) (A:Around) (outer:List Env) (s:Shared) (H:Hp) (E:XK),Room k (A.deeper (envOfC qual (defScope st) s.heap.objs.size f cdv))->Xi (zb3 CX0 P w K mg base N qual (defScope st) f cdv A outer s H E).nox (defBody st) F) :
 FnOk P w K mg base CX0 (k+1) f fd ps (spF K ps.length (jy N.length F)):=by
 refine J.ok S (spF.len rfl) (λcdv A outer s H vs Q E Y h=>⟨_,O cdv A outer s H E Y,?_⟩);obtain⟨H0,ds,r,s0,h1,h2,h3,z⟩:=h;obtain⟨I,e1,e2⟩:=bind_some h3;have a1:ps.length<=N.length:=by have:=congrArg ziQ S.pre;rw [ziG]at this;omega
 refine⟨H0,H,H0,jx N.length ds,I,yq s0 h1 ⋯,e1,?_⟩;cases I with
 | ret r'=>cases e2;cases r<;>exact z
 | next γ=>cases e2;exact λσ' H' H0' rs=>z .non H' H0' rs.ext (show V.non = .non from rfl)
 | brk γ=>cases e2
 | cont γ=>cases e2
end
section
variable{X:Cx}{es:List Expr}{pos p:Pos}{k:Nat}{f:Addr}{fd:FuncData}{ps:List Str}{x:Str}{F:List D->Option Res}{g:CO (List D)}
theorem zbo{A0:List Expr}(G:FnOk X.prog X.w X.K X.mg X.base CX0 k f fd ps (spF X.K ps.length F))(ha:PAD X es g)(Y : ∀γ ds,g γ=some ds->ds.length=ps.length)
 (hc : ∀{t:TA},PA X es t->PE X (.Call (.Name x p) es [] pos) (VQ (spF X.K ps.length F) [] E0 t)):PV X (.Call (.Name x p) es [] pos) (zE F g):=
 jK (hc ha) λσ H Q hZ=>by
  obtain⟨H0,γ,d,rc,z,q⟩:=hZ;obtain⟨ds,e1,z⟩:=bind_some z;obtain⟨r,e2,z⟩:=zm z;refine⟨H0,γ,ds,rc,e1,λvs H1 a2 x1 r1=>⟨a2,ds,r,x1.sub,by simpa using r1,Y γ ds e1,e2,?_⟩⟩;subst z;cases r with
  | val d=>exact λv H' H0' I r2=>q v H' H0' (x1.trans I) r2
  | own fs=>
   refine λa xs H' H0' I h1 h2 h3 r2=>q _ H' _ (x1.trans (I.show h1 h2 h3 x1.sub)) ?_;exact(show ∃J O,V.ref a = .ref J/\SqL X.K _ J O/\Reps X.K _ fs O from⟨a,xs,rfl,SqL.of zv,r2.mono (zK h2 _)⟩)
theorem zbu(G:FnOk X.prog X.w X.K X.mg X.base CX0 k f fd ps (spF X.K ps.length F))(ha:PAD X es g)(J : ∀γ ds,g γ=some ds->ds.length=ps.length)
 (O : ∀{t:TA},PA X es t->PE X (.Call (.Name x p) es [] pos) (VQ (spF X.K ps.length F) [] E0 t)):PO X (.Call (.Name x p) es [] pos) (jX F g):=
 jK (O ha) λσ H Q Y=>by
  obtain⟨H0,γ,fs,rc,I,q⟩:=Y;obtain⟨ds,e1,I⟩:=bind_some I;obtain⟨r,e2,I⟩:=bind_some I;refine⟨H0,γ,ds,rc,e1,λvs H1 a0 x1 r1=>⟨a0,ds,r,x1.sub,by simpa using r1,J γ ds e1,e2,?_⟩⟩;cases r with
  | val d=>cases I
  | own gs=>
   cases I;exact λa xs H' H0' x2 h1 h2 h3 r2=>q a xs H' H0' (x1.trans x2) (by
    cases z:H a with
    | none=>rfl
    | some o=>rw [x1.s1 a o z]at h1;cases h1) h2 h3 r2
end
structure Walk(K:PySem.W.Frag)(H0 Hs:Hp)(J:It)(ds:List D):Prop where
 go : ∀i H1,Same Hs H1->i<ds.length->J.go i H1
 stop : ∀H1,Same Hs H1->J.stop ds.length H1
 yld : ∀i H1 x H1',Same Hs H1->i<ds.length->J.yld i H1 x H1'->∃d,ds[i]? = some d/\∀G0,Same H0 G0->Same G0 H1->∃G0',Ext G0 H1 G0' H1'/\Rep K G0' d x
theorem Walk.weak{K:PySem.W.Frag}{H0 Hs z:Hp}{J:It}{ds:List D}(w:Walk K H0 Hs J ds)(s:Same Hs z):Walk K H0 z J ds:=
 ⟨λi H1 h=>w.go i H1 (s.trans h),λH1 h=>w.stop H1 (s.trans h),λi H1 x H1' h=>w.yld i H1 x H1' (s.trans h)⟩
theorem wA{k:Sk}{K:PySem.W.Frag}{H0 Hs:Hp}{a:Addr}{xs:List V}{ds:List D}(h:SqK k K Hs a xs)(r:Reps K H0 ds xs):Walk K H0 Hs (Itk k K a) ds:=by
 have I:=r.length;refine⟨λi H1 s hi=>?_,λH1 s=>?_,λi H1 x H1' s hi y=>?_⟩
 ·have hx:i<xs.length:=by omega
  cases k with
  | L=>exact⟨xs,xs[i],s.seq h,zhe hx⟩
  | T=>exact⟨xs,xs[i],sameT s h,zhe hx⟩
 ·cases k with
  | L=>exact⟨xs,s.seq h,by omega⟩
  | T=>exact⟨xs,sameT s h,by omega⟩
 ·have e:H1'=H1/\xs[i]? = some x:=by
   cases k with
   | L=>exact⟨y.1,y.2 xs (s.seq h)⟩
   | T=>exact⟨y.1,y.2 xs (sameT s h)⟩
  obtain⟨e1,e2⟩:=e;subst e1;obtain⟨d,hd,z⟩:=r.getV e2;exact⟨d,hd,λG0 s1 s2=>⟨G0,Ext.refl s2,z.mono s1⟩⟩
theorem kU(lo:Int)(n:Nat):(qy lo n).length=n:=by simp [qy]
theorem vV{K:PySem.W.Frag}{H0 Hs:Hp}(lo:Int)(n:Nat):Walk K H0 Hs (Itr lo n) (qy lo n):=by
 refine⟨λi H1 s hi=>?_,λH1 s=>?_,λi H1 x H1' s hi y=>?_⟩
 ·rw [kU]at hi;exact hi
 ·rw [kU];exact zhn _
 ·rw [kU]at hi
  obtain⟨e1,e2⟩:=y;subst e1 e2;exact⟨.int (lo+i),by simp [qy,hi],λG0 s1 s2=>⟨G0,Ext.refl s2,(show V.int (lo+i) = .int (lo+i)from rfl)⟩⟩
theorem VF{I J:Sk}{K:PySem.W.Frag}{H0 Hs:Hp}{a b:Addr}{xs ys:List V}{ds es:List D}(h1:SqK I K Hs a xs)(O:Reps K H0 ds xs)(h2:SqK J K Hs b ys)(r2:Reps K H0 es ys) :
 Walk K H0 Hs (Itz I J K a b) (Jv ds es):=by
 have l1:=O.length;have l2:=r2.length;have hz:(Jv ds es).length=min ds.length es.length:=by simp [Jv]
 refine⟨λi H1 s hi=>?_,λH1 s=>?_,λi H1 x H1' s hi y=>?_⟩
 ·exact⟨xs,ys,Zv s h1,Zv s h2,by omega,by omega⟩
 ·refine⟨xs,ys,Zv s h1,Zv s h2,?_⟩
  rw [hz];omega
 ·obtain⟨p,u,v,e1,z,e2,g1,g2⟩:=y
  obtain⟨d,hd,hr⟩:=O.getV (g1 xs (Zv s h1));obtain⟨c,hc,a5⟩:=r2.getV (g2 ys (Zv s h2));refine⟨.tup [d,c],?_,λG0 s1 s2=>⟨upd G0 p (.tup [u,v]),?_,?_⟩⟩
  ·have a6:(ds.zip es)[i]? = some (d,c):=List.getElem?_zip_eq_some.mpr ⟨hd,hc⟩
   simp [Jv,a6]
  ·rw [e2];exact Ext.alloc s2 z _
  ·rw [e1]
   exact(show ∃Y a0,V.ref p = .ref Y/\SqT K _ Y a0/\Reps K _ [d,c] a0 from⟨p,[u,v],rfl,SqT.of zv,Reps.cons ((hr.mono s1).mono (zK (zS s2 z) _)) (Reps.cons ((a5.mono s1).mono (zK (zS s2 z) _)) Reps.nil)⟩)
def tIc(K:PySem.W.Frag)(src:CO (List D)):TI:=λσ H R=>∃H0 γ ds,RC K H0 H σ γ/\src γ=some ds/\∀J H' H0',Ext H0 H H0' H'->Walk K H0' H' J ds->R J H'
def tIf(K:PySem.W.Frag)(src:CO (List D)):TI:=λσ H R=>∃H0 γ ds,RC K H0 H σ γ/\src γ=some ds/\∀J H' H0',Ext H0 H H0' H'->Walk K H0' H0' J ds->R J H'
abbrev PIC(X:Cx)(tg e:Expr)(src:CO (List D)):Prop:=PI X tg e (tIc X.K src)
abbrev PIF(X:Cx)(tg e:Expr)(src:CO (List D)):Prop:=PI X tg e (tIf X.K src)
section
variable{X:Cx}{tg e a b:Expr}{pos p:Pos}
theorem PIF.c{src:CO (List D)}(h:PIF X tg e src):PIC X tg e src:=ZS h λσ H R ⟨H0,γ,ds,rc,z,q⟩=>⟨H0,γ,ds,rc,z,λJ H' H0' x w=>q J H' H0' x (w.weak x.sub)⟩
theorem je{f:CO (Sk×List D)}(h:PQ X e f):PIC X tg e (zG f):=ZS (Yb h) λσ H R z=>by
 obtain⟨H0,γ,ds,rc,I,q⟩:=z;obtain⟨⟨k,es⟩,e1,e2⟩:=zm I;subst e2;exact⟨H0,γ,k,es,rc,e1,λa xs H' H0' x h1 _ r=>⟨a,k,rfl,⟨xs,h1⟩,q _ H' H0' x (wA h1 r)⟩⟩
theorem zbw{f:CO D}(h:PV X e f):PIF X tg e (zG (zH f)):=ZS (Yb h) λσ H R I=>by
 obtain⟨H0,γ,ds,rc,J,q⟩:=I;obtain⟨⟨k,es⟩,e1,e2⟩:=zm J;subst e2;obtain⟨d,O,e1⟩:=bind_some e1;refine⟨H0,γ,d,rc,O,λv H' H0' x r=>?_⟩;cases d with
 | tup fs=>
  obtain⟨e2,z⟩:k = .T/\es=fs:=by simp [jL]at e1;exact⟨e1.1.symm,e1.2.symm⟩
  subst e2 z;obtain⟨a,xs,rfl,h1,h2⟩:=(show ∃a xs,v = .ref a/\SqT X.K H0' a xs/\Reps X.K H0' es xs from r);exact⟨a,.T,rfl,⟨xs,sameT x.sub h1⟩,q _ H' H0' x (wA (k:= .T) h1 h2)⟩
 | lst fs=>
  obtain⟨e2,z⟩:k = .L/\es=fs:=by simp [jL]at e1;exact⟨e1.1.symm,e1.2.symm⟩
  subst e2 z;obtain⟨a,xs,rfl,h1,h2⟩:=(show ∃a xs,v = .ref a/\SqL X.K H0' a xs/\Reps X.K H0' es xs from r);exact⟨a,.L,rfl,⟨xs,x.sub.seq h1⟩,q _ H' H0' x (wA (k:= .L) h1 h2)⟩
 | _=>simp [jL]at e1
theorem jR{d:D}{i:Int}(h:asI d=some i):d = .int i:=by cases d<;>simp [asI]at h;rw [h]
theorem wX{i:Int}(h:inR i=true) : -(2 ^ 62)<=i/\i<2 ^ 62:=by
 unfold inR at h;have h:=of_decide_eq_true h;omega
theorem XN{f:CO D}(J:Gl X "range")(hm:X.mg "range" = none)(ha:PV X a f)(I:starEach [a] X.env=[(false,eval a X.env)]:=by rfl):PIF X tg (.Call (.Name "range" p) [a] [] pos) (zY f):=
 ZS (Yd J hm (zF ha jp I) I) λσ H R O=>by
  obtain⟨H0,γ,ds,rc,z,q⟩:=O;obtain⟨n,e1,z⟩:=bind_some z;obtain⟨d,Y,e1⟩:=bind_some e1;by_cases hn:inR n=true
  ·rw [if_pos hn]at z;cases z
   refine⟨H0,γ,d,rc,Y,λv H' H0' x r=>?_⟩;rw [jR e1]at r;obtain⟨h1,h2⟩:=wX hn;exact⟨n,by rw [show v = .int n from r],h1,h2,q _ H' H0' x (vV 0 n.toNat)⟩
  ·rw [if_neg hn]at z;cases z
theorem XM{f g:CO D}(Y:Gl X "range")(hm:X.mg "range" = none)(ha:PV X a f)(hb:PV X b g)(O:starEach [a,b] X.env=[(false,eval a X.env),(false,eval b X.env)]:=by rfl)(I:starEach [b] X.env=[(false,eval b X.env)]:=by rfl) :
 PIF X tg (.Call (.Name "range" p) [a,b] [] pos) (qA f g):=
 ZS (Yc Y hm (zF ha (zF hb jp I) (by rw [O,I])) O I) λσ H R hZ=>by
  obtain⟨H0,γ,ds,rc,z,q⟩:=hZ;obtain⟨m,e1,z⟩:=bind_some z;obtain⟨d,e0,e1⟩:=bind_some e1;obtain⟨n,J,z⟩:=bind_some z;obtain⟨c,e2,J⟩:=bind_some J;by_cases hn:inR m=true/\inR n=true
  ·rw [if_pos hn]at z;cases z
   refine⟨H0,γ,d,rc,e0,λv H' H0' x r=>⟨H0',γ,c,rc.ext x,e2,λv2 H2 a4 x2 r2=>?_⟩⟩;rw [jR e1]at r;rw [jR J]at r2;obtain⟨h1,h2⟩:=wX hn.1;obtain⟨h3,h4⟩:=wX hn.2;exact⟨m,n,by rw [show v = .int m from r,show v2 = .int n from r2],⟨h1,h2,h3,h4⟩,q _ H2 a4 (x.trans x2) (vV m (n - m).toNat)⟩
  ·rw [if_neg hn]at z;cases z
theorem KG{K:PySem.W.Frag}{H:Hp}{d:D}{v:V}{k:Sk}{ds:List D}(r:Rep K H d v)(e:jL d=some (k,ds)) : ∃a xs,v = .ref a/\SqK k K H a xs/\Reps K H ds xs:=by
 cases d with
 | tup fs=>simp [jL]at e;obtain⟨e1,e2⟩:=e;subst e1 e2;exact r
 | lst fs=>simp [jL]at e;obtain⟨e1,e2⟩:=e;subst e1 e2;exact r
 | _=>simp [jL]at e
theorem zbv{f g:CO D}{elts:List Expr}{x1:Nat}{tpos:Pos}(hg:Gl X "zip")(hm:X.mg "zip" = none)(ha:PV X a f)(hb:PV X b g)(Y:starEach [a,b] X.env=[(false,eval a X.env),(false,eval b X.env)]:=by rfl)(J:starEach [b] X.env=[(false,eval b X.env)]:=by rfl) :
 PIF X (.Tuple elts x1 tpos) (.Call (.Name "zip" p) [a,b] [] pos) (VW f g):=
 ZS (zdj hg hm (zF ha (zF hb jp J) (by rw [Y,J])) PyProof.Rows.boot_zip Y J) λσ H R hZ=>by
  obtain⟨H0,γ,ds,rc,z,q⟩:=hZ;obtain⟨⟨k1,m⟩,e1,z⟩:=bind_some z;obtain⟨d,e0,e1⟩:=bind_some e1;obtain⟨⟨k2,n⟩,O,z⟩:=zm z;obtain⟨c,e2,O⟩:=bind_some O;subst z;refine⟨H0,γ,d,rc,e0,λv H' H0' x r=>⟨H0',γ,c,rc.ext x,e2,λv2 H2 aa I r2=>?_⟩⟩;obtain⟨a1,xs,rfl,g1,g2⟩:=KG (r.mono I.s0) e1;obtain⟨a2,ys,rfl,g3,g4⟩:=KG r2 O;exact⟨k1,k2,a1,a2,rfl,⟨xs,Zv I.sub g1⟩,⟨ys,Zv I.sub g3⟩,q _ H2 aa (x.trans I) (VF g1 g2 g3 g4)⟩
end
def setAll:List Nat->List V->St->St
 | i::is,v::vs,σ=>setAll is vs (σ.set i (some v))
 | _,_,σ=>σ
def gs:List Nat->TGs
 | []=>zgs
 | i::is=>zd1 (xj i) (gs is)
def gOf(K:PySem.W.Frag):Tg->TG
 | .nm i=>xj i
 | .tp is=>zgr K is.length (gs is)
theorem JU : ∀{is:List Nat} {vs:List V} {σ:St} {H:Hp} {Q:St->Hp->Prop},vs.length=is.length->Q (setAll is vs σ) H->gs is vs σ H Q
 | [],[],_,_,_,_,q=>⟨rfl,q⟩
 | i::is,v::vs,σ,H,Q,hl,q=>⟨v,vs,rfl,JU (by simpa using hl) q⟩
 | [],_::_,_,_,_,hl,_=>by simp at hl
 | _::_,[],_,_,_,hl,_=>by simp at hl
theorem RS.setAll{K:PySem.W.Frag}{E0 E H0 H:Hp} : ∀{is:List Nat} {ds:List D} {vs:List V} {σ:St} {γ:Ctx},RS K E0 E H0 H σ γ->Reps K H0 ds vs->RS K E0 E H0 H (setAll is vs σ) (jW is ds γ)
 | [],ds,vs,σ,γ,r,h=>by cases ds<;>cases vs<;>exact r
 | i::is,[],vs,σ,γ,r,h=>by rw [h.inv_nil];exact r
 | i::is,d::ds,vs,σ,γ,r,h=>by
  obtain⟨x,t,e,h1,h2⟩:=h.inv_cons;subst e;show RS K E0 E H0 H (DL.setAll is t (σ.set i (some x))) (jW is ds (γ.set i (.val d)));exact RS.setAll (r.setVal h1) h2
theorem RC.setAll{K:PySem.W.Frag}{H0 H:Hp} : ∀{is:List Nat} {ds:List D} {vs:List V} {σ:St} {γ:Ctx},RC K H0 H σ γ->Reps K H0 ds vs->RC K H0 H (setAll is vs σ) (jW is ds γ)
 | [],ds,vs,σ,γ,r,h=>by cases ds<;>cases vs<;>exact r
 | i::is,[],vs,σ,γ,r,h=>by rw [h.inv_nil];exact r
 | i::is,d::ds,vs,σ,γ,r,h=>by
  obtain⟨x,t,e,h1,h2⟩:=h.inv_cons;subst e;show RC K H0 H (DL.setAll is t (σ.set i (some x))) (jW is ds (γ.set i (.val d)));exact RC.setAll (r.setVal h1) h2
theorem kH{K:PySem.W.Frag}{H0 H:Hp}{T:Tg}{d:D}{v:V}{σ:St}{γ γ1:Ctx}{Q:St->Hp->Prop}(s:Same H0 H)(h:Rep K H0 d v)(e:jN T d γ=some γ1)
 (q : ∀z,(RC K H0 H σ γ->RC K H0 H z γ1)->(∀E0 E,RS K E0 E H0 H σ γ->RS K E0 E H0 H z γ1)->Q z H):gOf K T v σ H Q:=by
 cases T with
 | nm i=>cases e;exact q _ (λr=>r.setVal h) λE0 E r=>r.setVal h
 | tp is=>
  cases d with
  | tup ds=>
   simp only [jN]at e;by_cases I:ds.length=is.length
   ·rw [if_pos I]at e;cases e
    obtain⟨a,xs,rfl,h1,h2⟩:=(show ∃a xs,v = .ref a/\SqT K H0 a xs/\Reps K H0 ds xs from h);have hx:xs.length=is.length:=by rw [h2.length,I]
    exact⟨a,xs,rfl,sameT s h1,hx,JU hx (q _ (λr=>r.setAll h2) λE0 E r=>r.setAll h2)⟩
   ·rw [if_neg I]at e;cases e
  | _=>simp [jN]at e
theorem Ext.rebase{E0 E z H0 H B:Hp}(e:Ext E0 E z B)(x:Ext z E H0 H):Ext E0 E H0 H:=
 ⟨e.s0.trans x.s0,x.s1,x.sub,λa h1 h2=>x.new a (e.new a h1 h2) h2⟩
theorem Ext.base{E0 E z B:Hp}(e:Ext E0 E z B):Ext z E z B:=⟨Same.refl _,e.s1,e.sub,λa h _=>h⟩
theorem Sat.rebase{K:PySem.W.Frag}{E0 E I B:Hp}{D:Ends}{z:Fl}(e:Ext E0 E I B)(h:Sat K E0 E D z):Sat K I E D z:=by
 cases z with
 | next γ=>exact λσ H H0 r=>h σ H H0 ⟨r.rc,e.rebase r.ext,r.fresh,r.fr2⟩
 | brk γ=>exact λσ H H0 r=>h σ H H0 ⟨r.rc,e.rebase r.ext,r.fresh,r.fr2⟩
 | cont γ=>exact λσ H H0 r=>h σ H H0 ⟨r.rc,e.rebase r.ext,r.fresh,r.fr2⟩
 | ret r=>
  cases r with
  | val d=>exact λv H H0 x q=>h v H H0 (e.rebase x) q
  | own es=>exact λa xs H H0 x h1 h2 J q=>h a xs H H0 (e.rebase x) h1 h2 J q
section
variable{X:Cx}{tg iter:Expr}{body:List Stmt}{pos:Pos}
theorem qB{src:CO (List D)}{T:Tg}{F:CO Fl}(hp:PassesOwn (model X.prog X.w) X.A X.env X.xe)(hc:X.calm=true)(hi:PIF X tg iter src)(hg:PG X tg (gOf X.K T))(hb:Xi X body F)
 (hs : ∀x,foldedSetIterable iter X.env x=pure x:=by intro _;rfl):PSD X (.For tg iter body [] pos) (vK src T F):=
 qc (K5 hp hc hi hg hb hs) λD σ H hZ=>by
  obtain⟨E0,E,H0,γ,I,rs,z,Y⟩:=hZ;obtain⟨ds,e1,z⟩:=bind_some z;refine⟨H0,γ,ds,rs.rc,e1,λJ H1 O x1 wk=>?_⟩;have a1:=rs.step x1;have ex:=a1.ext;refine⟨λi m σ H=>m=ds.length - i/\i<=ds.length/\∃H0 γ I,RS X.K O E H0 H σ γ/\xl T F (ds.drop i) γ=some I/\Sat X.K O E D I,⟨_,rfl,zik _,O,γ,I,⟨a1.rc,ex.base,a1.fresh,a1.fr2⟩,z,Y.rebase ex⟩,?_⟩;rintro i m σ H ⟨rfl,hi,H0,γ,I,rs,z,Y⟩;have a4:Same O H:=rs.ext.s0.trans rs.ext.sub;by_cases a0:i<ds.length
  ·refine .inr ⟨wk.go i H a4 a0,λσ H=>i+1<=ds.length/\∃H0 γ I,RS X.K O E H0 H σ γ/\xl T F (ds.drop (i+1)) γ=some I/\Sat X.K O E D I,λσ' H' n=>⟨ds.length - (i+1),by omega,rfl,n.1,n.2⟩,λx H' y=>?_⟩
   obtain⟨d,hd,hx⟩:=wk.yld i H x H' a4 a0 y;obtain⟨G0,xg,rg⟩:=hx H0 rs.ext.s0 rs.rc.sub;have ag:ds.drop i=d::ds.drop (i+1):=by
    have ah:d=ds[i]:=by rw [zhe a0]at hd;exact(zhM hd).symm
    rw [ah];exact zje a0
   rw [ag]at z;simp only [xl]at z;obtain⟨γ1,eb,z⟩:=bind_some z;obtain⟨f1,eF,z⟩:=bind_some z;refine kH xg.sub rg eb λσ1 _ ak=>⟨O,E,G0,γ1,f1,ak O E (rs.step xg),eF,?_⟩;cases f1 with
   | next γ2=>exact λσ2 H2 a5 r2=>⟨a0,a5,γ2,I,r2,z,Y⟩
   | cont γ2=>exact λσ2 H2 a5 r2=>⟨a0,a5,γ2,I,r2,z,Y⟩
   | brk γ2=>cases z;exact Y
   | ret r=>cases z;cases r<;>exact Y
  ·have e:i=ds.length:=by omega
   subst e;rw [zjY]at z;cases z;exact .inl ⟨wk.stop H a4,Y σ H H0 rs⟩
end
theorem jP{n:Nat}{fr:List Nat}{γ:Ctx}{i:Nat}{c:Cell}(h:(jn n fr γ)[i]? = some c):c = .no\/(∃d j,c = .val d/\n<=i/\fr[i - n]? = some j/\γ[j]? = some (.val d)):=by
 unfold jn at h;by_cases hi:i<n
 ·rw [zhL (by simpa using hi),zjo,if_pos hi]at h
  exact .inl (zhM h).symm
 ·rw [zhS (by simpa using hi),zhz,List.length_replicate]at h
  cases e:fr[i - n]? with
  | none=>rw [e]at h;cases h
  | some j=>
   rw [e]at h;have h':qh (γ[j]?.getD .no)=c:=by simpa using h
   cases e2:γ[j]? with
   | none=>rw [e2]at h';exact .inl h'.symm
   | some c'=>
    rw [e2]at h';cases c' with
    | no=>exact .inl h'.symm
    | own ds=>exact .inl h'.symm
    | nest rows=>exact .inl h'.symm
    | val d=>exact .inr ⟨d,j,h'.symm,by omega,rfl,e2⟩
theorem RC.pull{K:PySem.W.Frag}{H0 H:Hp}{σ:St}{γ:Ctx}{own:List Str}{fr:List (Str×Nat)}(r:RC K H0 H σ γ):RC K H0 H (L2.pull own fr σ) (jn own.length (fr.map (·.2)) γ):=by
 refine⟨r.sub,by simp [L2.pull,jn],λi d h=>?_,λi ds h=>?_,λi j a ds es h _ _ _=>?_,NestOk.nil0 λi rows h=>?_⟩
 ·rcases jP h with z | ⟨d',j,z,hi,I,J⟩
  ·cases z
  ·cases z
   obtain⟨v,h1,h2⟩:=r.val j d J;refine⟨v,?_,h2⟩;rw [zhz]at I;cases q:fr[i - own.length]? with
   | none=>rw [q]at I;cases I
   | some p=>
    rw [q]at I;have O:p.2=j:=by simpa using I
    unfold L2.pull;rw [zhS (by simpa using hi),zhz,zhB,q];simp [O,h1]
 ·rcases jP h with z | ⟨d',j,z,_⟩<;>cases z
 ·rcases jP h with z | ⟨d',j,z,_⟩<;>cases z
 ·rcases jP h with z | ⟨d',j,z,_⟩<;>cases z
theorem RC.weak{K:PySem.W.Frag}{H0 H:Hp}{σ:St}{γ γ':Ctx}(r:RC K H0 H σ γ)(I:γ'.length=γ.length)(J : ∀(i:Nat) d,γ'[i]? = some (.val d)->γ[i]? = some (.val d))(z : ∀(i:Nat) ds,γ'[i]? ≠ some (.own ds))(O : ∀(i:Nat) rows,γ'[i]? ≠ some (.nest rows)):RC K H0 H σ γ':=
 ⟨r.sub,by rw [I];exact r.len,λi d h=>r.val i d (J i d h),λi ds h=>absurd h (z i ds),λi j a ds es h _ _ _=>absurd h (z i ds),NestOk.nil0 O⟩
theorem RC.upd{K:PySem.W.Frag}{H0 H:Hp}{σ:St}{γ:Ctx}{D:Addr}{o:HO}(r:RC K H0 H σ γ)(h0:H0 D=none)(I : ∀(i:Nat) ds,γ[i]? ≠ some (.own ds))(J : ∀(i:Nat) rows,γ[i]? ≠ some (.nest rows)):RC K H0 (upd H D o) σ γ:=
 ⟨λb u q=>by rw [zy (λz=>by rw [z,h0]at q;cases q)];exact r.sub b u q,r.len,r.val,λi ds h=>absurd h (I i ds),λi j a ds es h _ _ _=>absurd h (I i ds),NestOk.nil0 J⟩
theorem yL : ∀{is:List Nat} {ds:List D} {γ:Ctx},(jW is ds γ).length=γ.length
 | [],ds,γ=>by cases ds<;>rfl
 | i::is,[],γ=>rfl
 | i::is,d::ds,γ=>by show(jW is ds (γ.set i (.val d))).length=_;rw [yL];simp
theorem yM : ∀{is:List Nat} {ds:List D} {γ:Ctx} {i:Nat},i∉is->(jW is ds γ)[i]? = γ[i]?
 | [],ds,γ,i,_=>by cases ds<;>rfl
 | j::is,[],γ,i,_=>rfl
 | j::is,d::ds,γ,i,h=>by
  show(jW is ds (γ.set j (.val d)))[i]? = _;rw [yM (λz=>h (zhs _ z)),zhl (λz=>h (by rw [<- z];exact zhq))]
theorem Jl{T:Tg}{d:D}{γ γ1:Ctx}(h:jN T d γ=some γ1):γ1.length=γ.length/\∀i,i∉T.idx->γ1[i]? = γ[i]? :=by
 cases T with
 | nm j=>cases h;exact⟨by simp,λi hi=>zhl (λz=>hi (by simp [Tg.idx,z]))⟩
 | tp is=>
  cases d with
  | tup ds=>
   simp only [jN]at h;by_cases I:ds.length=is.length
   ·rw [if_pos I]at h;cases h;exact⟨yL,λi hi=>yM hi⟩
   ·rw [if_neg I]at h;cases h
  | _=>simp [jN]at h
section
variable{K:PySem.W.Frag}{own:List Str}{fr:List (Str×Nat)}{src:CO (List D)}{T:Tg}{k:CO Bool}{f:CO D}
theorem kF(hT : ∀i∈T.idx,i<own.length){tt:TT}(az : ∀σ H Q,tT K k σ H Q->tt σ H Q) : ∀σ H Q,tO K (zJ src T own.length (fr.map (·.2)) k f) σ H Q->Kv (tIc K src) own fr (gOf K T) tt (tV K f) σ H Q:=λσ H Q hZ=>by
 obtain⟨H0,γ,ds,rc,Y,q⟩:=hZ;obtain⟨items,e1,Y⟩:=bind_some Y;by_cases hl:items.length<=lim
 ·rw [if_pos hl]at Y
  refine⟨H0,γ,items,rc,e1,λJ H1 a8 x1 wk D hD=>?_⟩;have aa : ∀(i:Nat) es,(jn own.length (fr.map (·.2)) γ)[i]? ≠ some (.own es):=λi es h=>by rcases jP h with z | ⟨d',j,z,_⟩<;>cases z
  have ab : ∀(i:Nat) rows,(jn own.length (fr.map (·.2)) γ)[i]? ≠ some (.nest rows):=λi es h=>by rcases jP h with z | ⟨d',j,z,_⟩<;>cases z
  have ak:a8 D=none:=zS x1.sub hD;have b9:H D=none:=by
   cases z:H D with
   | none=>rfl
   | some o=>rw [x1.s1 D o z]at hD;cases hD
  refine⟨λi m ys σ' H'=>m=items.length - i/\i<=items.length/\ys.length<=i/\H' D=some (.lst ys)/\∃H0' a3 a5,RC K H0' H' σ' (jn own.length (fr.map (·.2)) γ)/\H0' D=none/\Ext a8 H1 H0' H'/\Reps K H0' a3 ys/\z7 T k f (jn own.length (fr.map (·.2)) γ) (items.drop i)=some a5/\ds=a3++a5,
   ⟨_,rfl,zik _,zhn _,zv,a8,[],ds,((rc.ext x1).pull).upd ak aa ab,ak,Ext.hide x1.sub hD _,Reps.nil,Y,rfl⟩,?_⟩
  rintro i m ys σ' H' ⟨rfl,hi,hy,a6,H0',a3,a5,ac,am,x',r',I,rfl⟩;refine⟨a6,?_⟩;by_cases a1:i<items.length
  ·refine .inr ⟨wk.go i H' x'.s1 a1,?_,λx ae y=>?_⟩
   ·have:=qR (zhn lim);omega
   obtain⟨d,hd,hx⟩:=wk.yld i H' x ae x'.s1 a1 y;obtain⟨G0,O,rg⟩:=hx H0' x'.s0 ac.sub;have bb:items.drop i=d::items.drop (i+1):=by
    have bc:d=items[i]:=by rw [zhe a1]at hd;exact(zhM hd).symm
    rw [bc];exact zje a1
   rw [bb]at I;simp only [z7]at I;obtain⟨γ1,eb,I⟩:=bind_some I;obtain⟨b,ek,I⟩:=bind_some I;have be:G0 D=none:=O.new D am (by rw [a6];simp);have ao:ae D=some (.lst ys):=O.s1 _ _ a6;obtain⟨bl,bg⟩:=Jl eb;have ap : ∀{σ2:St} {G2 H2:Hp},RC K G2 H2 σ2 γ1->RC K G2 H2 σ2 (jn own.length (fr.map (·.2)) γ):=λr=>r.weak bl.symm (λj d' hj=>by
    by_cases hm:j∈T.idx
    ·rcases jP hj with z | ⟨d2,j2,_,hn,_⟩
     ·cases z
     ·exact absurd (hT j hm) ⋯
    ·rw [bg j hm];exact hj) aa ab
   refine kH O.sub rg eb λσ1 au _=>az σ1 ae _ ⟨G0,γ1,b,au (ac.ext O),ek,λH3 af x3=>?_⟩;have ag:=(au (ac.ext O)).ext x3;have xa:=x'.trans (O.trans x3);have aw:af D=none:=x3.new D be (by rw [ao];simp);have ah:H3 D=some (.lst ys):=x3.s1 _ _ ao;cases b with
   | true=>
    dsimp only;rw [if_pos rfl]at I ⊢;obtain⟨e,ee,I⟩:=bind_some I;obtain⟨j3,er,I⟩:=zm I;refine⟨af,γ1,e,ag,ee,λv H4 ax x4 r4=>?_⟩;have ai:ax D=none:=x4.new D aw (by rw [ah];simp);have bp:H4 D=some (.lst ys):=x4.s1 _ _ ah;have xb:=xa.trans x4;refine⟨bp,items.length - (i+1),by omega,rfl,a1,by rw [zhQ,ziO];omega,zv,ax,a3++[e],j3,(ap (ag.ext x4)).upd ai aa ab,ai,?_,(r'.mono ((O.trans (x3.trans x4)).s0)).append (Reps.cons r4 Reps.nil),er,?_⟩
    ·exact⟨xb.s0,λc o z=>by rw [zy (λw=>by rw [w,hD]at z;cases z)];exact xb.s1 c o z,λc o z=>by rw [zy (λw=>by rw [w,ai]at z;cases z)];exact xb.sub c o z,xb.new⟩
    ·rw [<- I];simp
   | false=>
    dsimp only;rw [if_neg zhA]at I ⊢;exact⟨items.length - (i+1),by omega,rfl,a1,by omega,ah,af,a3,a5,ap ag,aw,xa,r'.mono ((O.trans x3).s0),I,rfl⟩
  ·have e:i=items.length:=by omega
   subst e;rw [zjY]at I;cases I;rw [zjE]at q;exact .inl ⟨wk.stop H' x'.s1,q D ys H' H0' (x1.trans x') b9 am a6 r'⟩
 ·rw [if_neg hl]at Y;cases Y
end
section
variable{X:Cx}{scope:Scope}{own:List Str}{fr:List (Str×Nat)}{elt tg iter c:Expr}{pos:Pos}{src:CO (List D)}{T:Tg}{k:CO Bool}{f:CO D}
theorem jo(z:X.calm=true)(ok:CompOk X scope fr)(I : ∀i∈T.idx,i<own.length)(hi:PIC X tg iter src)(J : ∀fp s2 H2,PG (zT X scope (own++fr.map (·.1)) fp s2 H2) tg (gOf X.K T))
 (he : ∀fp s2 H2,PV (zT X scope (own++fr.map (·.1)) fp s2 H2) elt f) (O : ∀x,foldedSetIterable iter X.env x=pure x:=by intro _;rfl) :
 PO X (.ListComp elt [⟨tg,iter,[],0⟩] scope pos) (zJ src T own.length (fr.map (·.2)) jF f):=
 jK (wS z ok hi J (λ_ _ _=>wQ) he O) (kF I λσ H Q ⟨H0,γ,b,rc,Y,q⟩=>by cases Y;exact q H H0 (Ext.refl rc.sub))
theorem yZ(z:X.calm=true)(ok:CompOk X scope fr)(I : ∀i∈T.idx,i<own.length)(hi:PIC X tg iter src)(J : ∀fp s2 H2,PG (zT X scope (own++fr.map (·.1)) fp s2 H2) tg (gOf X.K T))
 (O : ∀fp s2 H2,PTD (zT X scope (own++fr.map (·.1)) fp s2 H2) c k) (he : ∀fp s2 H2,PV (zT X scope (own++fr.map (·.1)) fp s2 H2) elt f) (Y : ∀x,foldedSetIterable iter X.env x=pure x:=by intro _;rfl) :
 PO X (.ListComp elt [⟨tg,iter,[c],0⟩] scope pos) (zJ src T own.length (fr.map (·.2)) k f):=
 jK (wS z ok hi J (λfp s2 H2=>QG (O fp s2 H2)) he Y) (kF I λσ H Q h=>h)
theorem Wf{y:Str}{z I:Pos}{i:Nat}(J:X.N.Nodup)(O:X.N[i]? = some y)(Y:Loc X.env.scope y)(hf:X.fn y=true\/X.env.scope.names.lookup y=some .local)
 (hc:X.calm=true) (ok:CompOk X scope fr) (hT : ∀i∈T.idx,i<own.length) (hi:PIC X tg iter src) (hg : ∀fp s2 H2,PG (zT X scope (own++fr.map (·.1)) fp s2 H2) tg (gOf X.K T))
 (he : ∀fp s2 H2,PV (zT X scope (own++fr.map (·.1)) fp s2 H2) elt f) (hs : ∀x,foldedSetIterable iter X.env x=pure x:=by intro _;rfl) :
 PS X (.Assign [.Name y z] (.ListComp elt [⟨tg,iter,[],0⟩] scope pos) I) (Zi (tO X.K (zJ src T own.length (fr.map (·.2)) jF f)) (xj i)):=
 qc (wb J O Y hf hc ok hi hg (λ_ _ _=>wQ) he hs) λD σ H h=>kF hT (λσ H Q hZ=>by obtain⟨H0,γ,b,rc,ef,q⟩:=hZ;cases ef;exact q H H0 (Ext.refl rc.sub)) σ H _ h
theorem XJ{y:Str}{z I:Pos}{i:Nat}(J:X.N.Nodup)(O:X.N[i]? = some y)(Y:Loc X.env.scope y)(hf:X.fn y=true\/X.env.scope.names.lookup y=some .local)
 (hc:X.calm=true) (ok:CompOk X scope fr) (hT : ∀i∈T.idx,i<own.length) (hi:PIC X tg iter src) (hg : ∀fp s2 H2,PG (zT X scope (own++fr.map (·.1)) fp s2 H2) tg (gOf X.K T))
 (hk : ∀fp s2 H2,PTD (zT X scope (own++fr.map (·.1)) fp s2 H2) c k) (he : ∀fp s2 H2,PV (zT X scope (own++fr.map (·.1)) fp s2 H2) elt f) (hs : ∀x,foldedSetIterable iter X.env x=pure x:=by intro _;rfl) :
 PS X (.Assign [.Name y z] (.ListComp elt [⟨tg,iter,[c],0⟩] scope pos) I) (Zi (tO X.K (zJ src T own.length (fr.map (·.2)) k f)) (xj i)):=
 qc (wb J O Y hf hc ok hi hg (λfp s2 H2=>QG (hk fp s2 H2)) he hs) λD σ H h=>kF hT (λσ H Q h=>h) σ H _ h
end
theorem jg{K:PySem.W.Frag}{H:Hp}{i:Int}{v:V}(h:Rep K H (.int i) v):v = .int i:=h
theorem za8{K:PySem.W.Frag}{g:Int->Int->D}{z:Int->Int->V}(J : ∀H i j,Rep K H (g i j) (z i j)):Snd K (rI0 z) (dI g):=λH0 H x y dx O d Q s Y ry I q=>by
 cases dx<;>cases O<;>simp [dI]at I;subst I;exact⟨_,_,jg Y,jg ry,q _ H H0 (Ext.refl s) (J H0 _ _)⟩
theorem KC{K:PySem.W.Frag}{C:Int->Int->Prop}{c:Int->Int->Bool}{g:Int->Int->D}{z:Int->Int->V}(J : ∀i j,c i j=true->C i j)(O : ∀H i j,Rep K H (g i j) (z i j)):Snd K (rI C z) (dIc c g):=λH0 H x y dx Y d Q s rx ry I q=>by
 cases dx<;>cases Y<;>simp [dIc]at I;obtain⟨e1,e2⟩:=I;subst e2;exact⟨_,_,jg rx,jg ry,J _ _ e1,q _ H H0 (Ext.refl s) (O H0 _ _)⟩
theorem za3{K:PySem.W.Frag}:Snd K (rI0 λi j=> .int (i - j)) ye:=za8 λ_ _ _=>rfl
theorem W2{i j:Int}(h:vE i j=true):CMul i j:=by
 unfold vE at h;rw [zio,decide_eq_true_eq,decide_eq_true_eq]at h;unfold CMul;omega
theorem za9{K:PySem.W.Frag}:Snd K (rI zgL λi j=> .int (i/j)) yf:=KC (λi j h=>by
 unfold Y6 at h;rw [Bool.and_eq_true,decide_eq_true_eq,decide_eq_true_eq]at h;exact⟨h.1,by omega⟩) λ_ _ _=>rfl
theorem za7{K:PySem.W.Frag}:Snd K (rI (λ_ j=>0<j) λi j=> .int (i%j)) qm:=KC (λi j h=>by
 unfold Vt at h;exact of_decide_eq_true h) λ_ _ _=>rfl
theorem za4{K:PySem.W.Frag}:Snd K (rI zgK λi j=> .int (i ^ j.toNat)) zb2:=KC (λi j h=>by
 unfold zee at h;rw [Bool.and_eq_true,Bool.and_eq_true,decide_eq_true_eq,decide_eq_true_eq,decide_eq_true_eq]at h;exact⟨h.1.1,by omega,h.2⟩) λ_ _ _=>rfl
theorem zah{K:PySem.W.Frag}:Snd K (rI0 λi j=> .bl (decide (i<=j))) dLe:=za8 λ_ _ _=>rfl
theorem zcP{K:PySem.W.Frag}:Snd K (rI0 λi j=> .bl (decide (j<i))) dGt:=za8 λ_ _ _=>rfl
section
variable{X:Cx}
def zam(K:PySem.W.Frag):R2:=λx y H Q=>∃a b xs ys,x = .ref a/\y = .ref b/\SqT K H a xs/\SqT K H b ys/\xs.length+ys.length<=sizeLine/\
 (xs=[]->Q (.ref b) H)/\(ys=[]->Q (.ref a) H)/\∀p,H p=none->Q (.ref p) (upd H p (.tup (xs++ys)))
theorem Ws:OpR X (binaryOp .Add) (zam X.K):=by
 intro pins s σ H x y v u Q I rx ry h;obtain⟨a,b,xs,ys,rfl,rfl,ha,hb,O,q0,q1,q2⟩:=h;cases rx;cases ry;obtain⟨J,r,Y,z1⟩:=I.tuple ha;obtain⟨ac,r2,a0,z2⟩:=I.tuple hb;by_cases he:xs=[]
 ·have e1:J=[]:=(r.nil_iff).mpr he
  obtain⟨⟨cls,dd,data,sl⟩,ho,hc,n,hd⟩:=id Y;obtain⟨⟨ah,af,data2,ag⟩,a3,a4,n2,a5⟩:=id a0;simp only at hc hd a4 a5;subst hc hd a4 a5;exact zkO ⟨_,ho,rfl⟩ ⟨_,a3,rfl⟩ zkP seq_tuple_add zjU zjR (zjK _ _)
   (tuple_addW0 a b J.toArray ac.toArray n n2 dd af sl ag (by simp [e1])) ⟨ho,a3,⟨.ref b,H,I,rfl,q0 he⟩⟩
 ·have e1:J ≠ []:=λz=>he ((r.nil_iff).mp z)
  refine HT.cat_tup Y a0 e1 (λz=>⟨.ref a,H,I,rfl,q1 ((r2.nil_iff).mp z)⟩) (λ_=>?_) (by rw [<- r.length,<- r2.length];exact O);refine⟨.ref s.heap.objs.size,_,I.laid (t':=s.toks) (o:= .tup (xs++ys)) (λc ob q=>zhc _ q) (zhn _) ?_,rfl,q2 _ (I.hok.fresh (zhn _))⟩;exact⟨by rw [zhQ];exact O,_,r.append r2,IsTupD.new _ _⟩
def zc1(K:PySem.W.Frag):R2:=λx y H Q=>∃l b xs zs,x = .ref l/\y = .ref b/\SqL K H l xs/\SqL K H b zs/\xs.length+zs.length<=sizeLine/\∀p,H p=none->Q (.ref p) (upd H p (.lst (xs++zs)))
theorem Wu:OpR X (binaryOp .Add) (zc1 X.K):=by
 intro pins s σ H x y v u Q I rx ry h;obtain⟨l,b,xs,zs,rfl,rfl,hH,hB,hz,q⟩:=h;cases rx;cases ry;obtain⟨z,r,⟨o,n,e,O,Y,c3⟩,z1⟩:=I.list hH;obtain⟨J,r2,⟨o2,n2,e2,d1,d2,d3⟩,z2⟩:=I.list hB;have l1:=r.length;have l2:=r2.length;obtain⟨cls,dct,dt,sl⟩:=o;obtain⟨ag,ah,ai,a9⟩:=o2;simp only at O Y c3 d1 d2 d3;subst O Y c3 d1 d2 d3;have aa:EP X pins σ Q (.ref s.heap.objs.size) {s with heap:=s.heap.push {cls:= .type "list",data:= .seq (z++J).toArray}}:=
  ⟨.ref _,_,I.lnew (t':=s.toks) (r.append r2) (by rw [zhQ];omega),rfl,q _ I.fresh⟩
 have ea:z.toArray++J.toArray=(z++J).toArray:=by simp
 refine zkO ⟨_,e,rfl⟩ ⟨_,e2,rfl⟩ noFill_list_add seq_list_add PySem.F.slot_list_add PySem.F.entry_list_add (PySem.F.args_list_add_2 _ _)
  (list_addW l b z.toArray J.toArray n n2 none none sl a9 (by rw [zho,zho];omega)) ⟨e,e2,?_⟩
 rw [ea];exact aa
end
def kn(scope sc:Scope):Scope:={scope with names:=scope.names.map λp=>if p.2==NameKind.free && sc.kind == .function && sc.names.lookup p.1==some .cell then (p.1,ziS)else (p.1,p.2)}
theorem XA(scope:Scope)(env:Env):relabel scope env=kn scope env.scope:=by
 unfold relabel kn;rfl
structure SX(X:Cx)(sc:Scope)(N T:List Str)(k:Nat):Prop where
 esc:X.env.scope=sc
 eN:X.N=N
 nd:N.Nodup
 calm:X.calm=true
 room:Room k X.A
 fn : ∀x∈T,X.fn x=true\/sc.names.lookup x=some .local
def Jy(sc:Scope)(N:List Str)(i:Nat)(x:Str):Bool:=
 decide (N[i]? = some x) && (decide (sc.names.lookup x=some .local) || decide (sc.names.lookup x=some .cell) || decide (sc.names.lookup x=some .free)) && !(x==("__debug__" : Str)) && !(x==("__classdict__" : Str))
def Jz(sc:Scope)(N T:List Str)(i:Nat)(x:Str):Bool:=decide (x∈T) && decide (N[i]? = some x) && (decide (sc.names.lookup x=some .local) || decide (sc.names.lookup x=some .cell))
def xT(sc:Scope)(x:Str):Bool:=decide (sc.names.lookup x=some .globalImplicit) && !(x==("__name__" : Str)) && !(x==("__debug__" : Str))
section
variable{X:Cx}{sc:Scope}{N T:List Str}{k:Nat}{i:Nat}{x:Str}{pos:Pos}
theorem SX.var(h:SX X sc N T k)(c:Jy sc N i x=true):PE X (.Name x pos) (ki i):=by
 unfold Jy at c;simp only [Bool.and_eq_true,zio,decide_eq_true_eq,zjT]at c;obtain⟨⟨⟨h1,h2⟩,z⟩,I⟩:=c;refine zdm (by rw [h.eN];exact h1) ?_ z I;unfold Vis;rw [h.esc];rcases h2 with(h2 | h2) | h2
 ·exact .inl h2
 ·exact .inr (.inl h2)
 ·exact .inr (.inr h2)
theorem SX.loc(h:SX X sc N T k)(c:Jz sc N T i x=true):X.N[i]? = some x/\L2.Loc X.env.scope x/\(X.fn x=true\/X.env.scope.names.lookup x=some .local):=by
 unfold Jz at c;simp only [Bool.and_eq_true,zio,decide_eq_true_eq]at c;refine⟨by rw [h.eN];exact c.1.2,?_,?_⟩
 ·unfold L2.Loc;rw [h.esc];exact c.2
 ·rw [h.esc];exact h.fn x c.1.1
theorem SX.ndX(h:SX X sc N T k):X.N.Nodup:=by rw [h.eN];exact h.nd
theorem SX.tgt(h:SX X sc N T k)(i:Nat)(c:Jz sc N T i x=true):PG X (.Name x pos) (xj i):=by
 obtain⟨h1,h2,z⟩:=h.loc c;exact Ye h.ndX h1 h2 z
theorem SX.tgts(h:SX X sc N T k){es:List Expr}{is:List Nat}{j:Nat}(g:PGs X es (gs is))(hn:(assignEach es X.env).length=is.length:=by rfl)(z:(assignEach es X.env).findIdx? (·.1)=none:=by rfl):PG X (.Tuple es j pos) (gOf X.K (.tp is)):=
 zdk h.calm g hn z
theorem SX.set(h:SX X sc N T k)(i:Nat){e:Expr}{te:TE}{pos':Pos}(c:Jz sc N T i x=true)(he:PE X e te)(z:swapsWith e (some (.Name x pos')) pos.line X.env=pure false:=by rfl):PS X (.Assign [.Name x pos'] e pos) (Zi te (xj i)):=by
 obtain⟨h1,h2,I⟩:=h.loc c;exact zdh h.ndX h1 h2 he z I
theorem SX.gl(h:SX X sc N T k)(c:xT sc x=true):Gl X x/\x ≠ "__name__"/\(x==("__debug__" : Str))=false:=by
 unfold xT at c;simp only [Bool.and_eq_true,decide_eq_true_eq,zjT]at c;refine⟨?_,?_,c.2⟩
 ·show X.env.scope.names.lookup x=_
  rw [h.esc];exact c.1.1
 ·intro e;rw [e]at c;simp at c
def YW(sc scope:Scope)(N:List Str)(fr:List (Str×Nat)):Bool:=
 decide (scope.kind = .function) && decide ((scope.names.map (·.1)).Nodup) && scope.names.all (λp=> !(p.2==NameKind.free) || decide (sc.names.lookup p.1=some .cell) || decide (sc.names.lookup p.1=some .free)) &&
 fr.all λp=>decide (scope.names.lookup p.1=some .free) && decide (N[p.2]? = some p.1)
def zgh(own:List Str)(scope:Scope)(fr:List (Str×Nat)):Bool:=decide ((own++fr.map (·.1)).Nodup) && own.all (λx=>decide (scope.names.lookup x=some .local) || decide (scope.names.lookup x=some .cell))
theorem SX.compOk(h:SX X sc N T k){scope:Scope}{fr:List (Str×Nat)}(c:YW sc scope N fr=true):CompOk X scope fr:=by
 unfold YW at c;simp only [Bool.and_eq_true,decide_eq_true_eq,zhR,zio,zjT]at c;obtain⟨⟨⟨J,O⟩,Y⟩,I⟩:=c;refine⟨J,O,λp z hk=>?_,λp z=>⟨(I p z).1,by rw [h.eN];exact(I p z).2⟩⟩;have e:X.env.kindOf p.1=sc.names.lookup p.1:=by show X.env.scope.names.lookup p.1=_;rw [h.esc]
 rw [e];rcases Y p z with(q | q) | q
 ·rw [hk]at q;exact absurd q ⋯
 ·exact .inl q
 ·exact .inr q
theorem vd(scope sc:Scope)(x:Str):(kn scope sc).names.lookup x=(scope.names.lookup x).map λk=>if (k==NameKind.free && sc.kind == .function && sc.names.lookup x==some .cell)then ziS else k:=by
 unfold kn;dsimp only;generalize scope.names=l
 induction l with
 | nil=>rfl
 | cons p r I=>
  obtain⟨n,J⟩:=p;rw [zhI];cases hx:x==n with
  | true=>
   have e:x=n:=by simpa using hx
   subst e;dsimp only;split
   ·rename_i z;rw [zh4,zh4,beq_self_eq_true];dsimp only [zj3];rw [if_pos z]
   ·rename_i z;rw [zh4,zh4,beq_self_eq_true];dsimp only [zj3];rw [if_neg z]
  | false=>
   dsimp only;split
   ·rw [zh4,zh4,hx];exact I
   ·rw [zh4,zh4,hx];exact I
theorem SX.comp(h:SX X sc N T k){scope:Scope}{own:List Str}{fr:List (Str×Nat)}{fp:List Addr}{s2:Shared}{H2:Hp}(c:zgh own scope fr=true) :
 SX (zT X scope (own++fr.map (·.1)) fp s2 H2) (kn scope sc) (own++fr.map (·.1)) own k:=by
 unfold zgh at c;simp only [Bool.and_eq_true,decide_eq_true_eq,zhR,zio]at c;refine⟨?_,rfl,c.1,h.calm,h.room,λx hx=>?_⟩
 ·show relabel scope X.env=_
  rw [XA,h.esc]
 ·rcases c.2 x hx with q | q
  ·right;rw [vd,q];rfl
  ·left
   show(scope.names.lookup x==some .cell)=true;rw [q];rfl
theorem SX.cq(h:SX X sc N T k){scope:Scope}(own:List Str)(fr:List (Str×Nat))(fp:List Addr)(s2:Shared)(H2:Hp)(c:zgh own scope fr=true) :
 SX (zT X scope (own++fr.map (·.1)) fp s2 H2) (kn scope sc) (own++fr.map (·.1)) own k:=h.comp c
end
mutual
def toP:D->PyData
 | .non=> .none
 | .bl b=> .bool b
 | .int i=> .int i
 | .str x=> .str x
 | .tup ds=> .tuple (toPs ds)
 | .lst ds=> .list (toPs ds)
 | .exc _ _=> .none
 | .dic _ _=> .none
 | .dct _ _=> .none
def toPs:List D->List PyData
 | []=>[]
 | d::ds=>toP d::toPs ds
end
theorem okS_exc{c:Str}{n:Option Int}(h:okS (.exc c n)=true):False:=by simp [okS]at h
theorem okS_dic{ks vs:List D}(h:okS (.dic ks vs)=true):False:=by simp [okS]at h
theorem okS_dct{ks:List (List Int)}{vs:List D}(h:okS (.dct ks vs)=true):False:=by simp [okS]at h
mutual
theorem eqv_toP : ∀x y:D,okS x=true->okS y=true->PyData.eqv (toP x) (toP y)=eqD x y
 | .non,y,_,h=>by cases y<;>first | exact(okS_exc h).elim | exact(okS_dic h).elim | exact(okS_dct h).elim | simp [toP,PyData.eqv,eqD]
 | .bl a,y,_,h=>by cases y<;>first | exact(okS_exc h).elim | exact(okS_dic h).elim | exact(okS_dct h).elim | simp [toP,PyData.eqv,eqD]
 | .int a,y,_,h=>by cases y<;>first | exact(okS_exc h).elim | exact(okS_dic h).elim | exact(okS_dct h).elim | simp [toP,PyData.eqv,eqD]
 | .str a,y,_,h=>by cases y<;>first | exact(okS_exc h).elim | exact(okS_dic h).elim | exact(okS_dct h).elim | simp [toP,PyData.eqv,eqD]
 | .exc c n,y,h,_=>(okS_exc h).elim
 | .dic c n,y,h,_=>(okS_dic h).elim
 | .dct c n,y,h,_=>(okS_dct h).elim
 | .tup xs,y,h1,h2=>by
  cases y with
  | tup ys=>simp only [okS]at h1 h2;simp only [toP,PyData.eqv,eqD];exact eqvs_toP xs ys h1 h2
  | exc c n=>exact(okS_exc h2).elim
  | dic c n=>exact(okS_dic h2).elim
  | dct c n=>exact(okS_dct h2).elim
  | _=>simp [toP,PyData.eqv,eqD]
 | .lst xs,y,h1,h2=>by
  cases y with
  | lst ys=>simp only [okS]at h1 h2;simp only [toP,PyData.eqv,eqD];exact eqvs_toP xs ys h1 h2
  | exc c n=>exact(okS_exc h2).elim
  | dic c n=>exact(okS_dic h2).elim
  | dct c n=>exact(okS_dct h2).elim
  | _=>simp [toP,PyData.eqv,eqD]
theorem eqvs_toP : ∀xs ys:List D,okSs xs=true->okSs ys=true->PyData.eqvAll (toPs xs) (toPs ys)=eqDs xs ys
 | [],ys,_,_=>by cases ys<;>simp [toPs,PyData.eqvAll,eqDs]
 | x::xs,ys,h1,h2=>by
  cases ys with
  | nil=>simp [toPs,PyData.eqvAll,eqDs]
  | cons y ys=>
   simp only [okSs,Bool.and_eq_true]at h1 h2;simp only [toPs,PyData.eqvAll,eqDs];rw [eqv_toP x y h1.1 h2.1,eqvs_toP xs ys h1.2 h2.2]
end
mutual
theorem lay_toP : ∀x:D,okS x=true->(toP x).canLay0=true
 | .non,_=>by simp [toP,PyData.canLay0]
 | .bl a,_=>by simp [toP,PyData.canLay0]
 | .int a,_=>by simp [toP,PyData.canLay0]
 | .str a,h=>by simpa [toP,PyData.canLay0,okS,PyData.strOk]using h
 | .tup xs,h=>by simp only [okS]at h;simp only [toP,PyData.canLay0];exact lays_toP xs h
 | .lst xs,h=>by simp only [okS]at h;simp only [toP,PyData.canLay0];exact lays_toP xs h
 | .exc c n,h=>(okS_exc h).elim
 | .dic c n,h=>(okS_dic h).elim
 | .dct c n,h=>(okS_dct h).elim
theorem lays_toP : ∀xs:List D,okSs xs=true->PyData.canLayAll0 (toPs xs)=true
 | [],_=>by simp [toPs,PyData.canLayAll0]
 | x::xs,h=>by
  simp only [okSs,Bool.and_eq_true]at h;simp only [toPs,PyData.canLayAll0];rw [lay_toP x h.1,lays_toP xs h.2];rfl
end
mutual
theorem depth_toP : ∀x:D,(toP x).depth=deep x
 | .non=>by simp [toP,PyData.depth,deep]
 | .bl a=>by simp [toP,PyData.depth,deep]
 | .int a=>by simp [toP,PyData.depth,deep]
 | .str a=>by simp [toP,PyData.depth,deep]
 | .exc c n=>by simp [toP,PyData.depth,deep]
 | .dic c n=>by simp [toP,PyData.depth,deep]
 | .dct c n=>by simp [toP,PyData.depth,deep]
 | .tup xs=>by simp only [toP,PyData.depth,deep];rw [depths_toP xs]
 | .lst xs=>by simp only [toP,PyData.depth,deep];rw [depths_toP xs]
theorem depths_toP : ∀xs:List D,PyData.depthAll (toPs xs)=deeps xs
 | []=>by simp [toPs,PyData.depthAll,deeps]
 | x::xs=>by simp only [toPs,PyData.depthAll,deeps];rw [depth_toP x,depths_toP xs]
end
theorem qs{d:D}(h:okD d=true):okS d=true:=by
 unfold okD at h;rw [Bool.and_eq_true]at h;exact h.2
theorem xn{d:D}(h:okD d=true):SeqAt.shaped (toP d)=true:=by
 unfold okD at h;rw [Bool.and_eq_true,decide_eq_true_eq]at h;unfold SeqAt.shaped;rw [lay_toP d h.2,Bool.true_and,depth_toP];exact decide_eq_true ⋯
section
variable{X:Cx}{pins:List (Addr×Obj)}{σ:St}{H0 H:Hp}{s:Shared}
mutual
theorem reads_of(I:Inv X pins σ H s)(sub:Same H0 H) : ∀{d:D} {v:V} {u:Value},okS d=true->Rep X.K H0 d v->RelV v u->∃z,Reads s.heap u (toP d) z
 | .non,v,u,_,h,r=>by cases (show v = .non from h);cases r;exact⟨_,.none⟩
 | .bl b,v,u,_,h,r=>by cases (show v = .bl b from h);cases r;exact⟨_,.bool b⟩
 | .int i,v,u,_,h,r=>by cases (show v = .int i from h);obtain⟨t,rfl⟩:=r;exact⟨_,.int i t⟩
 | .str x,v,u,_,h,r=>by cases (show v = .str x from h);obtain⟨t,rfl⟩:=r;exact⟨_,.str x t⟩
 | .exc c n,v,u,o,_,_=>(okS_exc o).elim
 | .dic c n,v,u,o,_,_=>(okS_dic o).elim
 | .dct c n,v,u,o,_,_=>(okS_dct o).elim
 | .tup ds,v,u,o,h,r=>by
  obtain⟨a,xs,rfl,h1,h2⟩:=(show ∃a xs,v = .ref a/\SqT X.K H0 a xs/\Reps X.K H0 ds xs from h);cases r;simp only [okS]at o;obtain⟨a1,J,⟨ob,O,Y,n,hd⟩,hz⟩:=I.tuple (sameT sub h1);obtain⟨z,ra⟩:=readsAll_of I sub o h2 J;exact⟨z,.tuple O Y hd (by simpa using ra)⟩
 | .lst ds,v,u,o,h,r=>by
  obtain⟨a,xs,rfl,h1,h2⟩:=(show ∃a xs,v = .ref a/\SqL X.K H0 a xs/\Reps X.K H0 ds xs from h);cases r;simp only [okS]at o;obtain⟨a1,J,p,hz⟩:=I.list (sub.seq h1);obtain⟨ob,O,Y,n,hd⟩:=p.isList;obtain⟨z,ra⟩:=readsAll_of I sub o h2 J;exact⟨_,.list O Y hd (by simpa using ra)⟩
theorem readsAll_of(I:Inv X pins σ H s)(sub:Same H0 H) : ∀{ds:List D} {xs:List V} {us:List Value},okSs ds=true->Reps X.K H0 ds xs->Vals xs us->∃z,ReadsAll s.heap us (toPs ds) z
 | [],xs,us,_,h,r=>by rw [h.inv_nil]at r;cases r;exact⟨_,.nil⟩
 | d::ds,xs,us,o,h,r=>by
  obtain⟨x,t,e,h1,h2⟩:=h.inv_cons;subst e;simp only [okSs,Bool.and_eq_true]at o;cases r with
  | cons J r2=>
   obtain⟨z,O⟩:=reads_of I sub o.1 h1 J;obtain⟨bs,Y⟩:=readsAll_of I sub o.2 h2 r2;exact⟨_,.cons O Y⟩
end
end
def zgl(K:PySem.W.Frag):R2:=λx y H Q=>∃H0 dx z,Same H0 H/\Rep K H0 dx x/\Rep K H0 z y/\okD dx=true/\okD z=true/\Q (.bl (eqD dx z)) H
def zgj(K:PySem.W.Frag):R2:=λx y H Q=>∃H0 dx z,Same H0 H/\Rep K H0 dx x/\Rep K H0 z y/\okD dx=true/\okD z=true/\Q (.bl (!eqD dx z)) H
theorem zav{X:Cx}(O:X.A.units+64<cLine):OpR X (compareOp .Eq) (zgl X.K):=by
 intro pins s σ H x y v u Q I Y ry h;obtain⟨H0,dx,dy,sub,r1,r2,z,J,q⟩:=h;obtain⟨as,ra⟩:=reads_of I sub (qs z) r1 Y;obtain⟨bs,rb⟩:=reads_of I sub (qs J) r2 ry;exact eq_dataH ra rb (xn z) (xn J) O ⟨.bl _,H,I,by rw [eqv_toP _ _ (qs z) (qs J)];rfl,q⟩
theorem zdv{X:Cx}(O:X.A.units+64<cLine):OpR X (compareOp .NotEq) (zgj X.K):=by
 intro pins s σ H x y v u Q I Y ry h;obtain⟨H0,dx,dy,sub,r1,r2,z,J,q⟩:=h;obtain⟨as,ra⟩:=reads_of I sub (qs z) r1 Y;obtain⟨bs,rb⟩:=reads_of I sub (qs J) r2 ry;exact ne_dataH ra rb (xn z) (xn J) O ⟨.bl _,H,I,by rw [eqv_toP _ _ (qs z) (qs J)];rfl,q⟩
theorem KD{K:PySem.W.Frag}:Snd K (zgl K) dEq:=λH0 H x y dx I d Q s J O z q=>by
 unfold dEq at z;split at z
 ·rename_i h;cases z;exact⟨H0,dx,I,s,J,O,h.1,h.2,q _ H H0 (Ext.refl s) rfl⟩
 ·cases z
theorem za5{K:PySem.W.Frag}:Snd K (zgj K) dNe:=λH0 H x y dx I d Q s J O z q=>by
 unfold dNe at z;split at z
 ·rename_i h;cases z;exact⟨H0,dx,I,s,J,O,h.1,h.2,q _ H H0 (Ext.refl s) rfl⟩
 ·cases z
theorem SX.u64{X:Cx}{sc:Scope}{N T:List Str}{k:Nat}(h:SX X sc N T k):X.A.units+64<cLine:=by have:=h.room.un;omega
section
variable{X:Cx}{sc:Scope}{N T:List Str}{k:Nat}{a b c:Expr}{pos p:Pos}{fa fb fc:CO D}
theorem qZ(ha:PV X a fa)(z:PV X b fb):PV X (.BinOp a .Sub b pos) (zq ye fa fb):=wa zdt za3 ha z
theorem kr(ha:PV X a fa)(z:PV X b fb):PV X (.BinOp a .FloorDiv b pos) (zq yf fa fb):=wa zbF za9 ha z
theorem jG(ha:PV X a fa)(z:PV X b fb):PV X (.BinOp a .Mod b pos) (zq qm fa fb):=wa zdw za7 ha z
theorem KT(ha:PV X a fa)(z:PV X b fb):PV X (.BinOp a .Pow b pos) (zq zb2 fa fb):=wa zdu za4 ha z
theorem zfn(h:SX X sc N T k)(ha:PV X a fa)(z:PV X b fb):PV X (.Compare a [.Eq] [b] pos) (zq dEq fa fb):=zdc (zav h.u64) KD ha z (QL b)
theorem zao(ha:PV X a fa)(z:PV X b fb):PTD X (.Compare a [.Gt] [b] pos) (sB (zq dGt fa fb)):=JJ zfq zcP ha z (QL b)
theorem xf(h:SX X sc N T k)(ha:PV X a fa)(z:PV X b fb):PTD X (.Compare a [.Eq] [b] pos) (sB (zq dEq fa fb)):=JJ (zav h.u64) KD ha z (QL b)
theorem ZM(h:SX X sc N T k)(ha:PV X a fa)(z:PV X b fb):PTD X (.Compare a [.NotEq] [b] pos) (sB (zq dNe fa fb)):=JJ (zdv h.u64) za5 ha z (QL b)
theorem xm{K:PySem.W.Frag}{H:Hp}{ds:List D}{v:V}(h:Rep K H (.tup ds) v) : ∃a xs,v = .ref a/\SqT K H a xs/\Reps K H ds xs:=h
theorem Ys{K:PySem.W.Frag}{H:Hp}{ds:List D}{v:V}(h:Rep K H (.lst ds) v) : ∃a xs,v = .ref a/\SqL K H a xs/\Reps K H ds xs:=h
theorem qb{K:PySem.W.Frag}{H:Hp}{ds:List D}{a:Addr}{xs:List V}(h1:SqT K H a xs)(h2:Reps K H ds xs):Rep K H (.tup ds) (.ref a):=⟨a,xs,rfl,h1,h2⟩
theorem kT{K:PySem.W.Frag}{H:Hp}{ds:List D}{a:Addr}{xs:List V}(h1:SqL K H a xs)(h2:Reps K H ds xs):Rep K H (.lst ds) (.ref a):=⟨a,xs,rfl,h1,h2⟩
theorem zba{K:PySem.W.Frag}:Snd K (λx y H Q=>rI0 (λi j=> .int (i+j)) x y H Q\/zam K x y H Q) jH:=λH0 H x y dx dy d Q s J O I q=>by
 cases dx<;>cases dy<;>simp [jH]at I
 ·subst I;exact .inl ⟨_,_,jg J,jg O,q _ H H0 (Ext.refl s) rfl⟩
 ·rename_i ds es
  obtain⟨hl,rfl⟩:=I;obtain⟨a,xs,rfl,h1,h2⟩:=xm J;obtain⟨b,ys,rfl,Y,z⟩:=xm O;refine .inr ⟨a,b,xs,ys,rfl,rfl,sameT s h1,sameT s Y,qR (by rw [h2.length,z.length];exact hl),λe=>?_,λe=>?_,λp hp=>?_⟩
  ·have e2:ds=[]:=by
    have:=h2.length;rw [e]at this;exact zhN this.symm
   subst e2;exact q _ H H0 (Ext.refl s) (qb Y z)
  ·have e2:es=[]:=by
    have:=z.length;rw [e]at this;exact zhN this.symm
   subst e2;exact q _ H H0 (Ext.refl s) (by rw [zjE];exact qb h1 h2)
  ·exact q _ _ _ (Ext.alloc s hp _) (qb (SqT.of zv) ((h2.append z).mono (zK (zS s hp) _)))
theorem jj(ha:PV X a fa)(z:PV X b fb):PV X (.BinOp a .Add b pos) (zq jH fa fb):=wa (op_add.or Ws) zba ha z
end
theorem Qh{P:Program}{w:World}{A:Around}(J:A.handled=none)(k:Sk)(I z:Addr)(O:z≠I)(items:Array Value) :
 Walks P w A I [I,z] [I] items.size (λi v=>items[i]? = some v) (λi h=>ItAt k h I z i/\SqAt k h z items):=by
 cases k
 ·exact Walks.list J I z O items
 ·exact Walks.tuple J I z O items
theorem yY(zs:List Int) : ∀n,preSum (λi=>zs.getD i 0) n=(zs.take n).sum
 | 0=>by simp [preSum]
 | n+1=>by
  have z:=yY zs n;simp only [preSum,z];by_cases h:n<zs.length
  ·rw [List.take_succ_eq_append_getElem h,List.sum_append]
   simp [h]
  ·rw [ziM ⋯,ziM ⋯]
   simp [h]
section
variable{X:Cx}{pins:List (Addr×Obj)}{σ:St}{H:Hp}{s:Shared}
theorem Y0(hc:X.calm=true):vB X (.builtin "sum") (λxs H Q=>∃p k ys zs,xs=[.ref p]/\SqK k X.K H p ys/\ys=(zs:List Int).map V.int/\Q (.int zs.sum) H):=by
 intro pins s σ H vs us Q I rv h;obtain⟨p,k,ys,zs,rfl,hq,rfl,q⟩:=h;obtain⟨u,rfl,J⟩:=kh rv;cases J;obtain⟨z,r,O,hz⟩:=I.sq hq;have lt:=O.lt;have Y:=r.length;rw [zhB]at Y;refine call_sum_walkG (QV O ⟨_,[_,p],[_],z.toArray.size,_,_,λi=>zs.getD i 0,rfl,Qh (A:=X.A.in1) (I.ok.hd hc) k _ p (zhG lt) z.toArray,⟨QW k _ p,O.at λo e=>zhc _ e⟩,?_,?_,?_⟩)
 ·intro b hb
  rw [zia];simp only [zhv,zhU,or_false]at hb;rcases hb with rfl | rfl
  ·exact zir _
  ·exact zhY lt
 ·intro i v hv
  have a1:z[i]? = some v:=by simpa using hv
  have hi:i<zs.length:=by rw [Y];exact(zhg.mp a1).1
  obtain⟨u,e1,J⟩:=r.get (i:=i) (x:= .int zs[i]) (by simp [hi]);rw [a1]at e1;cases e1;obtain⟨t,rfl⟩:=J;exact⟨t,by simp [hi]⟩
 ·intro h' tk t' hk
  have e:preSum (λi=>zs.getD i 0) z.toArray.size=zs.sum:=by
   rw [yY,ziM (by rw [zho,Y];exact zhn _)]
  refine⟨.int zs.sum,H,I.kept (t':=tk) (λb u e=>hk b u ?_ (zhc _ e)),⟨t',by rw [e]⟩,q⟩;simp only [zhv,zhU,or_false];exact zhG (zhu e)
def zcK:V->Option Bool
 | .non=>some false
 | .bl b=>some b
 | .int i=>some (i != 0)
 | _=>none
theorem VN{P:Program}{w:World}{A:Around}{E:Value->Shared->Prop}{s:Shared}{Q:Bool->Shared->Prop}{x:V}{u:Value}{b:Bool}(r:RelV x u)(e:zcK x=some b)(q:Q b s):wpAny (model P w) A (truthy u) Q E s:=by
 cases x with
 | non=>cases r;cases e;exact λ_ _ _=>q
 | bl c=>cases r;cases e;exact ziN q
 | int i=>obtain⟨t,rfl⟩:=r;cases e;exact PyProof.Rows.truthy_int q
 | _=>cases e
def Kq:List V->Option (List Bool)
 | []=>some []
 | x::r=>(zcK x).bind λb=>(Kq r).map λl=>b::l
theorem Zo : ∀{xs:List V} {bs:List Bool},Kq xs=some bs->bs.length=xs.length/\∀(i:Nat) x,xs[i]? = some x->zcK x=some (bs.getD i false)
 | [],bs,h=>by cases h;exact⟨rfl,λi x e=>by simp at e⟩
 | y::xs,bs,h=>by
  obtain⟨b,e1,h⟩:=bind_some h;obtain⟨l,e2,h⟩:=zm h;subst h;obtain⟨h1,h2⟩:=Zo e2;refine⟨by simp [h1],λi x e=>?_⟩;cases i with
  | zero=>simp at e;subst e;simpa using e1
  | succ i=>simpa using h2 i x (by simpa using e)
theorem Vk(bs:List Bool):(zhf bs.length).any (λi=>bs.getD i false)=bs.any id:=by
 rw [ziU];simp only [List.any_eq_true,zhp,id_eq];constructor
 ·rintro⟨i,hi,h⟩
  rw [zhh,zhe hi]at h;exact⟨_,zkH hi,h⟩
 ·rintro⟨b,z,h⟩
  obtain⟨i,hi,e⟩:=List.mem_iff_getElem.mp z;refine⟨i,hi,?_⟩;rw [zhh,zhe hi,zkz,e];exact h
theorem Y4(hc:X.calm=true):vB X (.builtin "any") (λxs H Q=>∃p k ys bs,xs=[.ref p]/\SqK k X.K H p ys/\Kq ys=some bs/\Q (.bl (bs.any id)) H):=by
 intro pins s σ H vs us Q I rv h;obtain⟨p,k,ys,bs,rfl,hq,ht,q⟩:=h;obtain⟨u,rfl,J⟩:=kh rv;cases J;obtain⟨z,r,O,hz⟩:=I.sq hq;have lt:=O.lt;have Y:=r.length;obtain⟨a5,a6⟩:=Zo ht;refine call_any_walk (QV O ⟨_,[_,p],[_],z.toArray.size,_,_,λi=>bs.getD i false,rfl,Qh (A:=X.A.in1) (I.ok.hd hc) k _ p (zhG lt) z.toArray,⟨QW k _ p,O.at λo e=>zhc _ e⟩,?_,?_⟩)
 ·intro i v s' Q' E' hv hQ
  have a0:z[i]? = some v:=by simpa using hv
  have hi:i<ys.length:=by rw [Y];exact(zhg.mp a0).1
  obtain⟨u,e1,J⟩:=r.get (i:=i) (x:=ys[i]) (by simp [hi]);rw [a0]at e1;cases e1;exact VN J (a6 i ys[i] (by simp [hi])) hQ
 ·intro h' tk hk
  have e:(zhf z.toArray.size).any (λi=>bs.getD i false)=bs.any id:=by
   rw [zho,<- Y,<- a5];exact Vk bs
  refine⟨.bl (bs.any id),H,I.kept (t':=tk) (λb u e=>hk b u ?_ (zhc _ e)),by rw [e];rfl,q⟩;simp only [zhv,zhU,or_false];exact zhG (zhu e)
end
section
variable{X:Cx}{sc:Scope}{N T:List Str}{k:Nat}{e a b c:Expr}{pos p p2:Pos}{f g:CO D}{fq:CO (Sk×List D)}
theorem zfg{K:PySem.W.Frag}{H:Hp}{k:Sk}{a:Addr}{xs:List V}(h:SqK k K H a xs):SqL K H a xs\/SqT K H a xs:=by
 cases k
 ·exact .inl h
 ·exact .inr h
theorem xc(h:SX X sc N T k)(c:xT sc "len" = true)(z:X.mg "len" = none)(J:PQ X e fq)(I:starEach [e] X.env=[(false,eval e X.env)]:=by rfl):PV X (.Call (.Name "len" p) [e] [] pos) (yP fq):=
 jK (qP Ji (h.gl c).1 z PySem.boot_len (zF J jp I) ⋯ ⋯ I rfl) λσ H Q O=>by
  obtain⟨H0,γ,d,rc,Y,q⟩:=O;obtain⟨⟨kk,ds⟩,e1,e2⟩:=zm Y;subst e2;refine⟨H0,γ,kk,ds,rc,e1,λa xs H' H0' ext h1 h2 r=>⟨a,xs,rfl,zfg h1,?_⟩⟩;exact q _ H' H0' ext (show V.int xs.length = .int ds.length by rw [r.length])
theorem j5(h:SX X sc N T k)(c:xT sc "tuple" = true)(z:X.mg "tuple" = none)(Y:PQ X e fq)(I:starEach [e] X.env=[(false,eval e X.env)]:=by rfl):PV X (.Call (.Name "tuple" p) [e] [] pos) (zU fq):=
 jK (ZT Zb (h.gl c).1 z PyProof.Rows.boot_tuple (zF Y jp I) ⋯ ⋯ I rfl) λσ H Q hZ=>by
  obtain⟨H0,γ,d,rc,ef,q⟩:=hZ;obtain⟨⟨J,ds⟩,e1,e2⟩:=zm ef;subst e2;refine⟨H0,γ,J,ds,rc,e1,λa xs H' H0' ext h1 h2 r=>⟨a,xs,rfl,?_⟩⟩;cases J with
  | L=>exact .inl ⟨h1,λl O=>q _ _ _ (ext.trans (Ext.alloc ext.sub O _)) (qb (SqT.of zv) (r.mono (zK (zS ext.sub O) _)))⟩
  | T=>exact .inr ⟨h1,q _ H' H0' ext (qb (h2 rfl) r)⟩
theorem qH{H H':Hp}(s:Same H H'){a:Addr}(h:H' a=none):H a=none:=by
 cases z:H a with
 | none=>rfl
 | some o=>rw [s a o z]at h;cases h
theorem Zp : ∀{ds:List D} {n:Int},Vq ds=some n->∃zs:List Int,ds=zs.map D.int/\n=zs.sum
 | [],n,h=>by cases h;exact⟨[],rfl,rfl⟩
 | d::ds,n,h=>by
  cases d with
  | int i=>
   obtain⟨s,e,h⟩:=zm h;obtain⟨zs,rfl,rfl⟩:=Zp e;exact⟨i::zs,rfl,by rw [<- h];simp⟩
  | _=>cases h
theorem ZH{K:PySem.W.Frag}{H:Hp} : ∀{zs:List Int} {xs:List V},Reps K H (zs.map D.int) xs->xs=zs.map V.int
 | [],xs,h=>h.inv_nil
 | z::zs,xs,h=>by
  obtain⟨x,r,e,h1,h2⟩:=Reps.inv_cons h;rw [e,jg h1,ZH h2];rfl
theorem zc7(h:SX X sc N T k)(c:xT sc "sum" = true)(z:X.mg "sum" = none)(hq:PQ X e fq)(O:starEach [e] X.env=[(false,eval e X.env)]:=by rfl):PV X (.Call (.Name "sum" p) [e] [] pos) (zcT fq):=
 jK (qP (Y0 h.calm) (h.gl c).1 z PyProof.Rows.boot_sum (zF hq jp O) ⋯ ⋯ O rfl) λσ H Q hZ=>by
  obtain⟨H0,γ,d,rc,I,q⟩:=hZ;obtain⟨⟨Y,ds⟩,e1,I⟩:=bind_some I;obtain⟨n,e2,e3⟩:=zm I;subst e3;obtain⟨zs,J,rfl⟩:=Zp e2;have J:ds=zs.map D.int:=J;subst J;exact⟨H0,γ,Y,_,rc,e1,λa xs H' H0' ext h1 h2 r=>⟨a,Y,xs,zs,rfl,h1,ZH r,q _ H' H0' ext rfl⟩⟩
theorem zaW{K:PySem.W.Frag}{H:Hp}{d:D}{x:V}{b:Bool}(h:Rep K H d x)(e:ze3 d=some b):zcK x=some b:=by
 cases d with
 | non=>cases (show x = .non from h);exact e
 | bl c=>cases (show x = .bl c from h);exact e
 | int i=>cases (show x = .int i from h);exact e
 | _=>cases e
theorem Qj{K:PySem.W.Frag}{H:Hp} : ∀{ds:List D} {xs:List V} {bs:List Bool},Reps K H ds xs->wE ds=some bs->Kq xs=some bs
 | [],xs,bs,h,e=>by rw [h.inv_nil];exact e
 | d::ds,xs,bs,h,e=>by
  obtain⟨x,r,z,h1,h2⟩:=h.inv_cons;obtain⟨b,e1,e⟩:=bind_some e;obtain⟨l,e2,e⟩:=zm e;subst z e;show(zcK x).bind _=_;rw [zaW h1 e1];show((Kq r).map λl=>b::l)=_;rw [Qj h2 e2];rfl
theorem zdd(h:SX X sc N T k)(c:xT sc "any" = true)(z:X.mg "any" = none)(Y:PQ X e fq)(J:starEach [e] X.env=[(false,eval e X.env)]:=by rfl):PV X (.Call (.Name "any" p) [e] [] pos) (zet fq):=
 jK (qP (Y4 h.calm) (h.gl c).1 z PyProof.Rows.boot_any (zF Y jp J) ⋯ ⋯ J rfl) λσ H Q hZ=>by
  obtain⟨H0,γ,d,rc,I,q⟩:=hZ;obtain⟨⟨O,ds⟩,e1,I⟩:=bind_some I;obtain⟨bs,e2,e3⟩:=zm I;subst e3;exact⟨H0,γ,O,_,rc,e1,λa xs H' H0' ext h1 h2 r=>⟨a,O,xs,bs,rfl,h1,Qj r e2,q _ H' H0' ext rfl⟩⟩
theorem zbm(h:SX X sc N T k)(c:xT sc "int" = true)(z:X.mg "int" = none)(Y:PV X e f)(J:starEach [e] X.env=[(false,eval e X.env)]:=by rfl):PV X (.Call (.Name "int" p) [e] [] pos) (VY f):=
 jK (ZT Y2 (h.gl c).1 z PyProof.Rows.boot_int (zF Y jp J) ⋯ ⋯ J rfl) λσ H Q hZ=>by
  obtain⟨H0,γ,d,rc,I,q⟩:=hZ;obtain⟨O,e1,I⟩:=bind_some I;refine⟨H0,γ,O,rc,e1,λv H' H0' ext r=>?_⟩;cases O with
  | int i=>cases I;exact .inl ⟨i,by rw [jg r],q _ H' H0' ext rfl⟩
  | bl b=>cases I;exact .inr ⟨b,by rw [show v = .bl b from r],q _ H' H0' ext rfl⟩
  | _=>cases I
end
end DL
namespace DL
open PySem PySem.Spec PySem.Calls PyProof.Rows PySem.W PySem.Builtin PySem.Builtin.ObjectAttr PySem.Builtin.Getset_descriptor
section
variable{prog:Program}{w:World}{A:Around}{E:Value->Shared->Prop}{s:Shared}{K:Frag}{x C:Addr}
theorem yv{M:Model}{h:Heap}{a C:Addr}(x:XObj h a C):Looks M h (typeOf (.ref a)) (.ref C):=by
 obtain⟨o,vs,z,I,hd⟩:=x;exact I ▸ (Looks.ld z).andThen .now
structure XGet(K:Frag)(C:Addr):Prop where
 ga:findIn K (.ref C) "__getattribute__" = some (some (.builtin "BaseException.__getattribute__"))
 gn:findIn K (.ref C) "__getattr__" = some none
 ca:findIn K (.ref C) "__class__" = some (some (.builtin "object.__class__"))
 gt:specialIn K (.builtin "object.__class__") "__get__" = some (some (.builtin "getset_descriptor.__get__"))
 tk:takesIn K (.builtin "object.__class__")=some true
 mo:mroIn K C (.type "object")=some true
 mb:mroIn K C (.type "BaseException")=some true
theorem WS{M:Model}{h:Heap}(X:K.In h)(G:XGet K C):Looks M h (find (.ref x) (.ref C) "__class__") (.bind (.builtin "getset_descriptor.__get__") (.builtin "object.__class__")):=by
 have z:=looks_findIn (M:=M) X G.ca;have I:Looks M h (getOf (some (.builtin "object.__class__"))) (some (.builtin "getset_descriptor.__get__")):=looks_specialIn X G.gt;have J:=looks_takesIn (M:=M) X G.tk;have O:Looks M h (dataDescriptor? (some (.builtin "object.__class__")) (some (.builtin "getset_descriptor.__get__"))) (some (.builtin "getset_descriptor.__get__",.builtin "object.__class__")):=J.andThen .now;exact z.andThen (I.andThen (O.andThen (Looks.tag .now)))
theorem WT{tp:Value}{R:Result->Shared->Prop}(X:K.In s.heap)(I:XObj s.heap x C)(G:XGet K C)(h:R (.ok (.ret (.ref C))) s) :
 codeAny (model prog w) A (.call (.builtin "getset_descriptor.__get__") ⟨[.builtin "object.__class__",.ref x,tp],[]⟩) R s:=by
 obtain⟨h0,g0,z,J,O⟩:=s;have Y:=yv (M:=model prog w) I;have L1:=looks_mroIn (M:=model prog w) X G.mo;refine zkv KF.slot_gs.plain KF.entry_gs (KF.slot_gs.check _ _ _ _ _ _ _ _ KF.type_class (KF.args_gs _ _ _) ?_);unfold Builtin.«getset_descriptor.__get__» descrGet;rw [dga_obj];refine zhb (zhi ?_);unfold descrGetter descrCheckInstance descrNameAndClass isInstance;simp only [KF.owner_class]
 repeat lk
 refine And.intro (Code.quiet_builtin _ ⋯) (codeAny_builtin KF.entry_class ?_);unfold Builtin.«object.__class__» shownTypeOf
 repeat lk
 exact h
theorem YL{z:Value}{Q:Unit->Shared->Prop}{M:Model}(X:K.In s.heap)(I:XObj s.heap x C)(G:XGet K C)(J:Q () s):wpAny M A (checkBuiltinCall "BaseException.__getattribute__" ⟨[.ref x,z],[]⟩) Q E s:=by
 obtain⟨h0,g0,d0,t0,o0⟩:=s;have O:=yv (M:=M) I;have Y:=looks_mroIn (M:=M) X G.mb;have hk:builtinKind "BaseException.__getattribute__" = some .slot:=by decide +kernel
 have a1:splitId "BaseException.__getattribute__" = some ("BaseException","__getattribute__"):=by decide +kernel
 have ha:=PySem.F.args_bexc_ga (.ref x) z;simp only [checkBuiltinCall,hk,a1];refine zhb (show wpAny _ _ (isInstance (.ref x) (.type "BaseException")) _ _ _ from ?_);refine(O.andThen Y).at ?_;rw [if_neg ⋯];unfold argsOk at ha;cases hs:Manifest.signature? "BaseException.__getattribute__" with
 | none=>exact zhi J
 | some a5=>
  rw [hs]at ha;exact wpAny_of_eq ha J
theorem YK{Q:Option Value->Shared->Prop}(X:K.In s.heap)(I:XObj s.heap x C)(G:XGet K C)(h:Q (some (.ref C)) {s with toks:=s.toks+1}):wpAny (model prog w) A (getAttr? (.ref x) "__class__") Q E s:=by
 obtain⟨h0,g0,z,J,O⟩:=s;have Y:=yv (M:=model prog w) I;have L1:=looks_findIn (M:=model prog w) X G.ga;have L2:=looks_findIn (M:=model prog w) X G.gn;have L3:=WS (M:=model prog w) (x:=x) X G;have B:=PySem.F.attr_ValueError.ga.bind (.ref x);unfold getAttr? getAttrBy? getAttrBy;refine zhb (wpAny_mkText (zhb (zkK (ziv (zhb (Y.at (zhb (L1.at ?_))))))));show wpAny _ _ (getAttrByItsOwn _ _ _ _ _ _) _ _ _;unfold getAttrByItsOwn;refine zhb (L2.at ?_);refine zhb (zkK (ziv ?_));show wpAny _ _ (boundAndCalled (.builtin "BaseException.__getattribute__") (.ref x) _) _ _ _;unfold boundAndCalled;refine zhb (wpAny_of_eq B ?_);refine wpAny_call (zkv PySem.F.attr_ValueError.ga.plain PySem.F.entry_bexc_ga (YL (s:=⟨h0,g0,z,J+1,O⟩) X I G ?_));refine zhb (zhi ?_);refine zhb (zhi ?_);refine zhb (Y.at (zhb (L3.at ?_)));show wpAny _ _ (bindTo _ _ _ _) _ _ _;unfold bindTo;refine zhb (ziv (wpAny_call (WT (s:=⟨h0,g0,z,J+1,O⟩) X I G ?_)));refine zhi ?_;exact zhi (zhi h)
theorem zaN(h:zaQ K C=true):XGet K C:=by
 unfold zaQ at h;simp only [Bool.and_eq_true,beq_iff_eq]at h;exact⟨h.1.1.1.1.1.1.1.1.2,h.1.1.1.1.1.1.1.2,h.1.1.1.1.1.1.2,h.1.1.1.2,h.1.1.2,h.1.1.1.1.1.2,h.1.1.1.1.2⟩
theorem WI(G:XGet K C)(Y:(clsIn K C).isSome=true):KitX K (.ref x) (.ref C) (λh=>XObj h x C) where
 ty:=λ_ _ _ I=>yv I
 it:=λ_ _ X _=>by
  obtain⟨cd,J⟩:=ziF.mp Y;unfold clsIn at J;split at J
  ·rename_i c' d' a1 a2 O
   intro A' Q' E' s' k q;unfold isType loadHead;exact zhb (wpAny_loadPart (k _ _ (X _ _ O)) (zhi q))
  ·cases J
 ne:=λh tp dd a7 n sl X a3=>by
  obtain⟨cd,J⟩:=ziF.mp Y;refine Bool.eq_false_iff.mpr λq=>?_;have e:C=tp:=zhH.inj (beq_iff_eq.mp q);subst e;unfold clsIn at J;split at J
  ·rename_i c' d' a1 a2 O
   have z:=(X _ _ O).symm.trans a3;cases z
  ·cases J
 ca:=λX I k=>YK X I G k
theorem zaO(h:zaQ K C=true):(clsIn K C).isSome=true:=by
 unfold zaQ at h;simp only [Bool.and_eq_true]at h;have:=h.1.2;cases q:clsIn K C with
 | none=>rw [q]at this;cases this
 | some z=>rfl
end
end DL
namespace DL
open PySem PySem.Spec PyProof.Rows L2
section
variable{X:Cx}{sc:Scope}{N T:List Str}{k:Nat}{e a b c:Expr}{pos p p2:Pos}{f g:CO D}{fq:CO (Sk×List D)}
theorem wm{n:Nat}{i:Int}{j:Nat}(h:ixD n i=some j):ixN n i=some j:=by
 unfold ixD at h;unfold ixN;split at h
 ·rename_i h1;rw [if_pos h1.1,if_pos h1.2];exact h
 ·split at h
  ·rename_i h1 h2;rw [if_neg ⋯,if_pos ⋯];exact h
  ·cases h
theorem zL(ha:PQ X a fq)(hb:PV X b g)(hs:Ze b:=by intro _ _;rfl):PV X (.Subscript a b pos) (sIx fq g):=
 jK (zbA (ix_list.or zdO) ha hb hs) λσ H Q hZ=>by
  obtain⟨H0,γ,d,rc,z,q⟩:=hZ;obtain⟨⟨J,ds⟩,e1,z⟩:=bind_some z;obtain⟨i,e2,z⟩:=bind_some z;obtain⟨di,e3,e2⟩:=bind_some e2;obtain⟨j,e4,z⟩:=bind_some z;refine⟨H0,γ,J,ds,rc,e1,λp xs H' H0' ext h1 h2 r=>⟨H0',γ,di,rc.ext ext,e3,λv2 H2 a6 I r2=>?_⟩⟩;rw [jR e2]at r2;obtain⟨x,hx,rx⟩:=r.get z;have O:atI xs i=some x:=by
   unfold atI;rw [r.length,wm e4];exact hx
  have Y:=q x H2 a6 (ext.trans I) (rx.mono I.s0);cases J with
  | L=>exact .inl ⟨p,xs,i,x,rfl,jg r2,I.s1.seq h1,O,Y⟩
  | T=>exact .inr ⟨p,xs,i,x,rfl,jg r2,sameT I.s1 h1,O,Y⟩
theorem k6{P:Program}{w:World}{A:Around}{E:Value->Shared->Prop}{s:Shared}{t sl:Addr}{items:Array Value}{I J:Value}{lo hi:Option Int}{Q:Value->Shared->Prop}(z:IsTup s.heap t items)(O:s.heap.IsSliceOf sl I J .none)(pl:IsPart I lo)(Y:IsPart J hi)
 (hw:HT.sIx items.size 0 lo=0/\HT.sIx items.size items.size hi=items.size) (h:Q (.ref t) s):wpAny (model P w) A (getItem (.ref t) (.ref sl)) Q E s:=by
 obtain⟨os,a0,a1,a4⟩:=id O;have a2:s.TypeIs (.ref sl) "slice":=⟨os,a0,a1⟩;unfold getItem
 try with_reducible refine ziv ?_
 first | refine zhb (zhi ?_) | skip
 refine zhb (wpAny_sequenceKey z.typeIs ⋯ ?_);refine zhb (ziw (name:=zii "__getitem__") z.typeIs zig
  (ziI zig z.typeIs entry_tuple_getitem ?_ (args_tuple_getitem _ _)))
 show wpAny _ _ (Builtin.Tuple.tupleItemsOf (.ref t) >>= _) _ _ s;refine zhb (zj6 z ?_);refine zhb (zjW a2 ?_);rw [if_pos ⋯];refine zhb (HT.sliceApplied_gen O pl Y ?_);have a3:(((HT.sIx items.size 0 lo:Nat):Int)==0 && (1:Int)==1 && (HT.sIx items.size items.size hi - HT.sIx items.size 0 lo)==items.size)=true:=by
  rw [hw.1,hw.2];simp
 show wpAny _ _ (if (((HT.sIx items.size 0 lo:Nat):Int)==0 && (1:Int)==1 && (HT.sIx items.size items.size hi - HT.sIx items.size 0 lo)==items.size)=true then _ else _) _ _ s;rw [if_pos a3];refine zhb (m:=zi2 _) ?_;unfold zi2;refine zhb (zjW z.typeIs (zhi ?_));rw [if_pos ⋯];exact zhb (zkq (zhi ⟨_,rfl,zhi h⟩))
def zfk(K:PySem.W.Frag):V->Option Int->Option Int->Hp->VK->Prop:=λx lo hi H Q=>∃a xs,x = .ref a/\SqT K H a xs/\(HT.sIx xs.length 0 lo=0/\HT.sIx xs.length xs.length hi=xs.length->Q (.ref a) H)/\∀p,H p=none->Q (.ref p) (upd H p (.tup (zb4 xs lo hi)))
theorem zbb:SlR X (zfk X.K):=by
 intro pins s σ H x v vl vu lo hi sl Q I z J pl O h;obtain⟨a,xs,rfl,hx,q1,q2⟩:=h;by_cases hw:HT.sIx xs.length 0 lo=0/\HT.sIx xs.length xs.length hi=xs.length
 ·cases z
  obtain⟨a4,r,Y,hz⟩:=I.tuple hx;have a5:a4.toArray.size=xs.length:=by rw [zho];exact r.length.symm
  refine⟨"tuple",_,zig.lookup,Y.typeIs,?_⟩;exact k6 Y J pl O (by rw [a5];exact hw) ⟨.ref a,H,I,rfl,q1 hw⟩
 ·exact zcQ pins s σ H (.ref a) v vl vu lo hi sl Q I z J pl O ⟨a,xs,rfl,hx,hw,q2⟩
theorem yz(n d:Nat)(o:Option Int):J0 n d o=HT.sIx n d o:=by cases o<;>rfl
theorem V4{K:PySem.W.Frag}{H:Hp}{ds:List D}{xs:List V}(r:Reps K H ds xs)(lo hi:Option Int):Reps K H (Xb ds lo hi) (zb4 xs lo hi):=by
 unfold Xb zb4;rw [<- yz,<- yz,r.length];exact(r.drop _).take _
theorem YU{ds:List D}{lo hi:Option Int}(h:HT.sIx ds.length 0 lo=0/\HT.sIx ds.length ds.length hi=ds.length):Xb ds lo hi=ds:=by
 unfold Xb;rw [yz,yz,h.1,h.2];simp
def tB(K:PySem.W.Frag)(f:CO (Option Int)):TO:=λσ H Q=>∃H0 γ o,RC K H0 H σ γ/\f γ=some o/\∀H' H0',Ext H0 H H0' H'->Q o H'
theorem wT:L2.PO X none (tB X.K Ki):=λpins s σ H Q I ⟨H0,γ,o,rc,z,q⟩=>zbt pins s σ H Q I (by cases z;exact q H H0 (Ext.refl rc.sub))
theorem kX(h:PV X e f):L2.PO X (some e) (tB X.K (sBd f)):=λpins s σ H Q I ⟨H0,γ,o,rc,z,q⟩=>zbs h pins s σ H Q I (by
 obtain⟨i,e1,e2⟩:=zm z;obtain⟨d,J,e1⟩:=bind_some e1;subst e2;refine⟨H0,γ,d,rc,J,λv H' H0' x r=>?_⟩;rw [jR e1]at r;exact⟨i,jg r,q H' H0' x⟩)
theorem ZJ{lo hi:Option Expr}{J O:CO (Option Int)}(ha:PV X a f)(hl:L2.PO X lo (tB X.K J))(hh:L2.PO X hi (tB X.K O)):PV X (.Subscript a (.Slice lo hi none p2) pos) (Qt f J O):=
 jK (Wo zbb ha hl hh) λσ H Q hZ=>by
  obtain⟨H0,γ,d,rc,z,q⟩:=hZ;obtain⟨Y,e1,z⟩:=bind_some z;obtain⟨l,e2,z⟩:=bind_some z;obtain⟨u,e3,z⟩:=bind_some z;refine⟨H0,γ,Y,rc,e1,λv H' H0' x r=>⟨H0',γ,l,rc.ext x,e2,λH2 a7 I=>⟨a7,γ,u,(rc.ext x).ext I,e3,λH3 a9 x3=>?_⟩⟩⟩;have xa:=x.trans (I.trans x3);cases Y with
  | tup ds=>
   cases z;obtain⟨a1,xs,rfl,h1,h2⟩:=xm (r.mono (I.trans x3).s0);have ab:=h2.length;refine⟨a1,xs,rfl,sameT x3.sub h1,λhw=>?_,λp hp=>?_⟩
   ·rw [ab]at hw
    exact q _ H3 a9 xa (by rw [YU hw];exact qb h1 h2)
   ·exact q _ _ _ (xa.trans (Ext.alloc x3.sub hp _)) (qb (SqT.of zv) ((V4 h2 _ _).mono (zK (zS x3.sub hp) _)))
  | _=>cases z
theorem Qz{K:PySem.W.Frag}{H:Hp}{ds:List D}{xs:List V}(r:Reps K H ds xs) : ∀n:Nat,Reps K H (zhm n ds).flatten (zhm n xs).flatten
 | 0=>Reps.nil
 | n+1=>by rw [ziA,ziA,ziT,ziT];exact r.append (Qz r n)
theorem K7{Y:CO (Sk×List D)}(ha:PQ X a fq)(hb:PQ X b Y):PO X (.BinOp a .Add b pos) (Xy fq Y):=
 jK (zby Wu ha hb) λσ H Q hZ=>by
  obtain⟨H0,γ,ds,rc,z,q⟩:=hZ;obtain⟨⟨k1,d1⟩,e1,z⟩:=bind_some z;obtain⟨⟨k2,d2⟩,e2,z⟩:=bind_some z;cases k1<;>cases k2<;>try (simp at z;done)
  dsimp only at z;by_cases J:d1.length+d2.length<=lim
  ·rw [if_pos J]at z;cases z
   refine⟨H0,γ,.L,d1,rc,e1,λa1 xs H1 aa x1 h1 h2 r1=>⟨aa,γ,.L,d2,rc.ext x1,e2,λa2 ys H2 ac I h3 h4 r2=>⟨a1,a2,xs,ys,rfl,rfl,I.s1.seq h1,h3,qR (by rw [r1.length,r2.length];exact J),λp O=>?_⟩⟩⟩;exact q p (xs++ys) _ ac (x1.trans (I.trans (Ext.hide I.sub O _))) (qH (x1.trans I).s1 O) (zS I.sub O) zv ((r1.mono I.s0).append r2)
  ·rw [if_neg J]at z;cases z
theorem zN{K:PySem.W.Frag}{t c:String}{b:Bool}(h:(if ((zjg t) == .type c)=true then some true else if PySem.W.kitMeta c=true then (fastBuiltinMro t).map (·.contains (.type c))else none)=some b):ziz K (.type t) (.type c)=some b:=h
def tyN:Ty->String
 | .int=>"int"
 | .bool=>"bool"
 | .str=>"str"
 | .tuple=>"tuple"
 | .list=>"list"
def zfz:D->String
 | .non=>"NoneType"
 | .bl _=>"bool"
 | .int _=>"int"
 | .str _=>"str"
 | .tup _=>"tuple"
 | .lst _=>"list"
 | .exc _ _=>""
 | .dic _ _=>"dict"
 | .dct _ _=>"dict"
theorem Z0{K:PySem.W.Frag}(T:Ty)(d:D)(hx : ∀c n,d ≠ .exc c n):ziz K (.type (zfz d)) (.type (tyN T))=some (zaB T d):=by
 cases d with
 | non=>
  cases T with
  | int=>exact zN (t:="NoneType") (c:="int") (b:=false) ⋯
  | bool=>exact zN (t:="NoneType") (c:="bool") (b:=false) ⋯
  | str=>exact zN (t:="NoneType") (c:="str") (b:=false) ⋯
  | tuple=>exact zN (t:="NoneType") (c:="tuple") (b:=false) ⋯
  | list=>exact zN (t:="NoneType") (c:="list") (b:=false) ⋯
 | bl y=>
  cases T with
  | int=>exact zN (t:="bool") (c:="int") (b:=true) ⋯
  | bool=>exact zN (t:="bool") (c:="bool") (b:=true) ⋯
  | str=>exact zN (t:="bool") (c:="str") (b:=false) ⋯
  | tuple=>exact zN (t:="bool") (c:="tuple") (b:=false) ⋯
  | list=>exact zN (t:="bool") (c:="list") (b:=false) ⋯
 | int y=>
  cases T with
  | int=>exact zN (t:="int") (c:="int") (b:=true) ⋯
  | bool=>exact zN (t:="int") (c:="bool") (b:=false) ⋯
  | str=>exact zN (t:="int") (c:="str") (b:=false) ⋯
  | tuple=>exact zN (t:="int") (c:="tuple") (b:=false) ⋯
  | list=>exact zN (t:="int") (c:="list") (b:=false) ⋯
 | str y=>
  cases T with
  | int=>exact zN (t:="str") (c:="int") (b:=false) ⋯
  | bool=>exact zN (t:="str") (c:="bool") (b:=false) ⋯
  | str=>exact zN (t:="str") (c:="str") (b:=true) ⋯
  | tuple=>exact zN (t:="str") (c:="tuple") (b:=false) ⋯
  | list=>exact zN (t:="str") (c:="list") (b:=false) ⋯
 | tup y=>
  cases T with
  | int=>exact zN (t:="tuple") (c:="int") (b:=false) ⋯
  | bool=>exact zN (t:="tuple") (c:="bool") (b:=false) ⋯
  | str=>exact zN (t:="tuple") (c:="str") (b:=false) ⋯
  | tuple=>exact zN (t:="tuple") (c:="tuple") (b:=true) ⋯
  | list=>exact zN (t:="tuple") (c:="list") (b:=false) ⋯
 | lst y=>
  cases T with
  | int=>exact zN (t:="list") (c:="int") (b:=false) ⋯
  | bool=>exact zN (t:="list") (c:="bool") (b:=false) ⋯
  | str=>exact zN (t:="list") (c:="str") (b:=false) ⋯
  | tuple=>exact zN (t:="list") (c:="tuple") (b:=false) ⋯
  | list=>exact zN (t:="list") (c:="list") (b:=true) ⋯
 | exc c n=>exact absurd rfl (hx c n)
 | dic c n=>
  cases T with
  | int=>exact zN (t:="dict") (c:="int") (b:=false) ⋯
  | bool=>exact zN (t:="dict") (c:="bool") (b:=false) ⋯
  | str=>exact zN (t:="dict") (c:="str") (b:=false) ⋯
  | tuple=>exact zN (t:="dict") (c:="tuple") (b:=false) ⋯
  | list=>exact zN (t:="dict") (c:="list") (b:=false) ⋯
 | dct c n=>
  cases T with
  | int=>exact zN (t:="dict") (c:="int") (b:=false) ⋯
  | bool=>exact zN (t:="dict") (c:="bool") (b:=false) ⋯
  | str=>exact zN (t:="dict") (c:="str") (b:=false) ⋯
  | tuple=>exact zN (t:="dict") (c:="tuple") (b:=false) ⋯
  | list=>exact zN (t:="dict") (c:="list") (b:=false) ⋯
theorem WL{pins:List (Addr×Obj)}{σ:St}{H0 H:Hp}{s:Shared}{A:Around}{E:Value->Shared->Prop}{Q:Value->Shared->Prop}{d:D}{x:V}{u:Value}(I:Inv X pins σ H s)(sub:Same H0 H)(J:RelV x u)(r:Rep X.K H0 d x)(T:Ty)
 (h : ∀tk,Q (.bool (zaB T d)) {s with toks:=tk}):wpAny (model X.prog X.w) A (call (.builtin "isinstance") [u,.type (tyN T)]) Q E s:=by
 cases d with
 | non=>have e:=Z0 (K:=X.K) T .non (λ_ _ z=>nomatch z);cases (show x = .non from r);cases (show u=zh7 from J);exact zhO PySem.W.kitx_none I.kIn zh6 e (λz=>nomatch z) h
 | bl y=>have e:=Z0 (K:=X.K) T (.bl y) (λ_ _ z=>nomatch z);cases (show x = .bl y from r);cases (show u=zkw y from J);exact zhO PySem.W.kitx_bool I.kIn zh6 e (λz=>nomatch z) h
 | int i=>have e:=Z0 (K:=X.K) T (.int i) (λ_ _ z=>nomatch z);cases (show x = .int i from r);obtain⟨t,q⟩:=(show ∃t,u=zki i t from J);cases q;exact zhO PySem.W.kitx_int I.kIn zh6 e (λz=>nomatch z) h
 | str y=>have e:=Z0 (K:=X.K) T (.str y) (λ_ _ z=>nomatch z);cases (show x = .str y from r);obtain⟨t,q⟩:=(show ∃t,u=Value.str y t from J);cases q;exact zhO PySem.W.kitx_str I.kIn zh6 e (λz=>nomatch z) h
 | tup ds=>
  have e:=Z0 (K:=X.K) T (.tup ds) (λ_ _ z=>nomatch z);obtain⟨a,xs,rfl,h1,h2⟩:=xm r;cases (show u=zhH a from J);obtain⟨a1,rv,⟨o,O,Y,_⟩,hz⟩:=I.tuple (sameT sub h1);exact zhO PySem.W.kitx_tuple I.kIn ⟨o,O,Y⟩ e (λz=>nomatch z) h
 | lst ds=>
  have e:=Z0 (K:=X.K) T (.lst ds) (λ_ _ z=>nomatch z);obtain⟨a,xs,rfl,h1,h2⟩:=Ys r;cases (show u=zhH a from J);obtain⟨a1,rv,p,hz⟩:=I.list (sub.seq h1);obtain⟨o,O,Y,_⟩:=p.isList;exact zhO zkl I.kIn ⟨o,O,Y⟩ e (λz=>nomatch z) h
 | exc c n=>
  obtain⟨a,rfl,xr⟩:=(show ∃a,x = .ref a/\XRep X.K H0 c n a from r);cases (show u=zhH a from J);obtain⟨C,φ,g1,g2,g3,_⟩:=xr.ex;obtain⟨S,_,x1,_,_⟩:=zaP xr.all xr.mem g1;obtain⟨p,_,_⟩:=(show ObjOk X.prog X.w H s.heap a (.ext φ)from I.hok a _ (sub _ _ g2));have e:ziz X.K (.ref C) (.type (tyN T))=some (zaB T (.exc c n)):=by
   unfold zaQ at x1;simp only [Bool.and_eq_true,List.all_cons,List.all_nil,beq_iff_eq]at x1;have t:=x1.1.1.1.1.1.1.1.1.1.1;cases T
   ·exact t.1
   ·exact t.2.1
   ·exact t.2.2.1
   ·exact t.2.2.2.1
   ·exact t.2.2.2.2.1
  exact zhO (WI (zaN x1) (zaO x1)) I.kIn (g3 _ p) e (λz=>nomatch z) h
 | dic ks vs=>
  have e:=Z0 (K:=X.K) T (.dic ks vs) (λ_ _ z=>nomatch z);obtain⟨a,xs,rfl,⟨kk,_,_,h1⟩,_⟩:=(show ∃a xs,x = .ref a/\DRp H0 a ks xs/\Reps X.K H0 vs xs from r);exact YA I J (.dK (sub _ _ h1)) e h
 | dct ks vs=>
  have e:=Z0 (K:=X.K) T (.dct ks vs) (λ_ _ z=>nomatch z);obtain⟨a,xs,rfl,⟨_,o,zs,h1,h2,_⟩,_⟩:=(show ∃a xs,x = .ref a/\DRt X.K H0 a ks xs/\Reps X.K H0 vs xs from r);cases (show u=zhH a from J);obtain⟨O,_⟩:=(show ObjOk X.prog X.w H s.heap a (atO a o)from I.hok a _ (sub _ _ h1));exact zhO zjJ I.kIn ⟨o,O,h2.1.1⟩ e (λz=>nomatch z) h
theorem zdb{ty:Str}(T:Ty)(h:SX X sc N L k)(c:xT sc "isinstance" = true)(z:X.mg "isinstance" = none)(J:xT sc ty=true)(z2:X.mg ty=none)(hb:bootBuiltins ty=some (.type (tyN T)))(ha:PV X a f)
 (Y:starEach [a,.Name ty p2] X.env=[(false,eval a X.env),(false,eval (.Name ty p2) X.env)]:=by rfl):PV X (.Call (.Name "isinstance" p) [a,.Name ty p2] [] pos) (sIs T f):=by
 intro pins s σ H Q I ⟨H0,γ,d,rc,ef,q⟩;obtain⟨d1,e1,e2⟩:=zm ef;subst e2;refine zja (qJ I (h.gl c).1 z zkd ?_ ⋯ ⋯);refine zjj ?_ (by rw [Y];rfl) rfl;rw [Y];show wpAny _ _ (spliced ((false,eval a X.env)::backTo pos [(false,eval (.Name ty p2) X.env)])) _ _ s;refine zis (thn (ha pins s σ H _ I ⟨H0,γ,d1,rc,e1,λv H' H0' x r=>(show(λv H'=>∃H0',Ext H0 H H0' H'/\Rep X.K H0' d1 v) v H' from⟨H0',x,r⟩)⟩) λu s1 hZ=>?_);obtain⟨x,H1,O,r1,a5,x1,rr⟩:=hZ;show wpAny _ _ (spliced ((false,eval (.Name ty p2) X.env)::[])) _ _ s1;refine zis (qJ O (h.gl J).1 z2 hb ?_ (h.gl J).2.1 (h.gl J).2.2);refine zi9 ?_;exact WL O x1.sub r1 rr T λtk=>⟨.bl _,H1,O.tok tk,rfl,q _ H1 a5 x1 rfl⟩
end
section
variable{X:Cx}{sc:Scope}{N L:List Str}{k:Nat}{e a b c:Expr}{pos p p2:Pos}{f g:CO D}{fq:CO (Sk×List D)}
theorem jJ{tg:Expr}(h:SX X sc N L k)(c:xT sc "range" = true)(z:X.mg "range" = none)(ha:PV X a f)(I:starEach [a] X.env=[(false,eval a X.env)]:=by rfl):PIF X tg (.Call (.Name "range" p) [a] [] pos) (zY f):=XN (h.gl c).1 z ha I
theorem wR{tg:Expr}(h:SX X sc N L k)(c:xT sc "range" = true)(z:X.mg "range" = none)(ha:PV X a f)(I:PV X b g)(J:starEach [a,b] X.env=[(false,eval a X.env),(false,eval b X.env)]:=by rfl)(O:starEach [b] X.env=[(false,eval b X.env)]:=by rfl) :
 PIF X tg (.Call (.Name "range" p) [a,b] [] pos) (qA f g):=XM (h.gl c).1 z ha I J O
theorem ZR{elts:List Expr}{x1:Nat}{tpos:Pos}(h:SX X sc N L k)(c:xT sc "zip" = true)(z:X.mg "zip" = none)(ha:PV X a f)(I:PV X b g)(J:starEach [a,b] X.env=[(false,eval a X.env),(false,eval b X.env)]:=by rfl)(O:starEach [b] X.env=[(false,eval b X.env)]:=by rfl) :
 PIF X (.Tuple elts x1 tpos) (.Call (.Name "zip" p) [a,b] [] pos) (VW f g):=zbv (h.gl c).1 z ha I J O
theorem KU(h:SX X sc N L k)(c:xT sc "isinstance" = true)(z:X.mg "isinstance" = none)(I:xT sc "int" = true)(z2:X.mg "int" = none)(ha:PV X a f)
 (J:starEach [a,.Name "int" p2] X.env=[(false,eval a X.env),(false,eval (.Name "int" p2) X.env)]:=by rfl):PV X (.Call (.Name "isinstance" p) [a,.Name "int" p2] [] pos) (sIs .int f):=zdb .int h c z I z2 PyProof.Rows.boot_int ha J
theorem XC(h:SX X sc N L k)(c:xT sc "isinstance" = true)(z:X.mg "isinstance" = none)(I:xT sc "bool" = true)(z2:X.mg "bool" = none)(ha:PV X a f)
 (J:starEach [a,.Name "bool" p2] X.env=[(false,eval a X.env),(false,eval (.Name "bool" p2) X.env)]:=by rfl):PV X (.Call (.Name "isinstance" p) [a,.Name "bool" p2] [] pos) (sIs .bool f):=zdb .bool h c z I z2 PyProof.Rows.boot_bool ha J
theorem Wa(ha:PQ X a fq)(he : ∀z,isTrue a X.env z=(do let v <- z;standAt a.pos;holding [v] (truthy v)):=by intro _;rfl):PTD X a (VX fq):=
 XH (Wb ha he) λσ H Q J=>by
  obtain⟨H0,γ,t,rc,O,q⟩:=J;obtain⟨⟨I,ds⟩,e1,e2⟩:=zm O;subst e2;refine⟨H0,γ,I,ds,rc,e1,λp xs H' H0' ext h1 h2 r=>⟨!ds.isEmpty,?_,q H' H0' ext⟩⟩;have e:xs.isEmpty=ds.isEmpty:=by
   have:=r.length;cases xs<;>cases ds<;>simp_all
  rw [<- e];cases I with
  | L=>exact .inl ⟨xs,h1,rfl⟩
  | T=>exact .inr (.inl ⟨xs,h1,rfl⟩)
theorem K3(i:Nat){x:Str}{apos cpos np:Pos}(h:SX X sc N L k)(c:Jy sc N i x=true)(ha:PV X a f)(z:starEach [a] X.env=[(false,eval a X.env)]:=by rfl)
 (I:attributeBase (.Name x np) "append" X.env (eval (.Name x np) X.env)=eval (.Name x np) X.env:=by rfl)
 (J:((backTo cpos (starEach [a] X.env)).all (λx=> !x.1) && (backToKw cpos (keywordEach [] X.env)).all (λx=>x.1.isSome)
   && decide ([a].length+([]:List Keyword).length+(if ([]:List Keyword).isEmpty then 0 else 1)<30))=true:=by rfl)
 (O:(apos.endLine==cpos.line)=true:=by rfl) (Y:swapsWith (.Call (.Attribute (.Name x np) "append" apos) [a] [] cpos) none pos.line X.env=pure false:=by rfl) :
 PSD X (.Expr (.Call (.Attribute (.Name x np) "append" apos) [a] [] cpos) pos) (xo i f):=
 XI i (Wp zji PySem.F.slot_list_append PySem.F.type_list_append ZY (h.var c) (zF ha jp z) I J O z rfl) Y
theorem j6(i:Nat){st:Stmt}{f:CO (List D)}(h:PS X st (Zi (tO X.K f) (xj i))):PSD X st (jv i (qu f)):=qc h λD σ H I=>by
 obtain⟨E0,E,H0,γ,fl,rs,z,J⟩:=I;obtain⟨d,e1,z⟩:=zm z;obtain⟨ds,O,e1⟩:=zm e1;subst z e1;exact⟨H0,γ,ds,rs.rc,O,λa xs H' H0' x h1 h2 Y r=>J _ _ _ ((rs.step (x.show h1 h2 Y rs.rc.sub)).setVal (kT (SqL.of zv) (r.mono (zK h2 _))))⟩
theorem psc{scope:Scope}{own:List Str}{fr:List (Str×Nat)}{elt tg iter:Expr}{cpos z I:Pos}{src:CO (List D)}{T:Tg}{y:Str}(i:Nat)(h:SX X sc N L k)(c:Jz sc N L i y=true)
 (J:X.calm=true) (ok:CompOk X scope fr) (O : ∀i∈T.idx,i<own.length) (hi:PIC X tg iter src) (Y : ∀fp s2 H2,PG (zT X scope (own++fr.map (·.1)) fp s2 H2) tg (gOf X.K T))
 (he : ∀fp s2 H2,PV (zT X scope (own++fr.map (·.1)) fp s2 H2) elt f) (hs : ∀x,foldedSetIterable iter X.env x=pure x:=by intro _;rfl) :
 PS X (.Assign [.Name y I] (.ListComp elt [⟨tg,iter,[],0⟩] scope cpos) z) (Zi (tO X.K (zJ src T own.length (fr.map (·.2)) jF f)) (xj i)):=by
 obtain⟨h1,h2,h3⟩:=h.loc c;exact Wf h.ndX h1 h2 h3 J ok O hi Y he hs
theorem zfo{scope:Scope}{own:List Str}{fr:List (Str×Nat)}{elt tg iter z:Expr}{cpos J O:Pos}{src:CO (List D)}{T:Tg}{y:Str}{I:CO Bool}(i:Nat)(h:SX X sc N L k)(c:Jz sc N L i y=true)
 (Y:X.calm=true) (ok:CompOk X scope fr) (hT : ∀i∈T.idx,i<own.length) (hi:PIC X tg iter src) (hg : ∀fp s2 H2,PG (zT X scope (own++fr.map (·.1)) fp s2 H2) tg (gOf X.K T))
 (hk : ∀fp s2 H2,PTD (zT X scope (own++fr.map (·.1)) fp s2 H2) z I) (he : ∀fp s2 H2,PV (zT X scope (own++fr.map (·.1)) fp s2 H2) elt f) (hs : ∀x,foldedSetIterable iter X.env x=pure x:=by intro _;rfl) :
 PS X (.Assign [.Name y O] (.ListComp elt [⟨tg,iter,[z],0⟩] scope cpos) J) (Zi (tO X.K (zJ src T own.length (fr.map (·.2)) I f)) (xj i)):=by
 obtain⟨h1,h2,h3⟩:=h.loc c;exact XJ h.ndX h1 h2 h3 Y ok hT hi hg hk he hs
theorem Wd{tg:Expr}{T:Tg}(I:PG X tg (gOf X.K T))(he:PV X e f)(J:swapsWithSole [tg] e pos.line X.env=pure false:=by rfl)(hw:swappedStores [tg] e X.env=pure none:=by rfl)
 (h1:(assignEach [tg] X.env).map (·.2)=[assign tg X.env]:=by rfl):PSD X (.Assign [tg] e pos) (KL T f):=
 qc (wc he I J hw h1) λD σ H O=>by
  obtain⟨E0,E,H0,γ,fl,rs,z,Y⟩:=O;obtain⟨d,e1,z⟩:=bind_some z;obtain⟨γ1,e2,z⟩:=zm z;subst z;refine⟨H0,γ,d,rs.rc,e1,λv H' H0' x r=>?_⟩;exact kH x.sub r e2 λσ1 _ a1=>Y σ1 H' H0' (a1 E0 E (rs.step x))
end
structure FnD(P:Program)(w:World)(K:PySem.W.Frag)(mg:Str->Option Value)(base:Heap)(k:Nat)(x:Str)(n:Nat)(F:List D->Option Res):Prop where
 ex : ∃(f:Addr) (fd:FuncData) (ps:List Str),ps.length=n/\FnOk P w K mg base CX0 k f fd ps (spF K ps.length F)/\mg x=some (.ref f)/\PySem.W.keepIn K (.ref f)=true/\Binds K fd ps []
structure DefAt(K:PySem.W.Frag)(mg:Str->Option Value)(x:Str)(st:Stmt)(ps:List Str):Prop where
 ex : ∃(f:Addr) (fd:FuncData),L2.Fun K x x st f fd/\(∀us:List Value,us.length=ps.length->bindArgs fd ⟨us,[]⟩=pure (ps.zip us))/\mg x=some (.ref f)
def PAn(X:Cx)(es:List Expr)(n:Nat)(g:CO (List D)):Prop:=PAD X es g/\∀γ ds,g γ=some ds->ds.length=n
section
variable{X:Cx}{sc:Scope}{N L:List Str}{k:Nat}{e:Expr}{es:List Expr}{f:CO D}{g:CO (List D)}{n:Nat}{pos p:Pos}{x:Str}
theorem zf:PAn X [] 0 zz:=⟨Yh,λγ ds h=>by cases h;rfl⟩
theorem za(ha:PV X e f)(z:PAn X es n g)(I:starEach (e::es) X.env=(false,eval e X.env)::starEach es X.env:=by rfl):PAn X (e::es) (n+1) (zc f g):=
 ⟨kz ha z.1 I,λγ ds h=>by
  obtain⟨y,e1,h⟩:=bind_some h;obtain⟨r,e2,h⟩:=zm h;subst h;rw [zhJ,z.2 γ r e2]⟩
variable{j:Nat}{F:List D->Option Res}
theorem jB(z:FnD X.prog X.w X.K X.mg X.base j x n F)(I:j<=k)(h:SX X sc N L k)(c:xT sc x=true)(ha:PAn X (e::es) n g)
 (he:starEach (e::es) X.env=(false,eval e X.env)::starEach es X.env:=by rfl) (J:(backTo pos (starEach es X.env)).any (·.1)=false:=by rfl):PV X (.Call (.Name x p) (e::es) [] pos) (zE F g):=by
 obtain⟨fa,fd,ps,hn,G,hm,O,Y⟩:=z.ex;subst hn;exact zbo (A0:=[]) G ha.1 ha.2 λ{t} a0=>xt G (h.room.mono I) (h.gl c).1 hm O Y .nil y7 a0 (h.gl c).2.2 he J
theorem vM(z:FnD X.prog X.w X.K X.mg X.base j x n F)(I:j<=k)(h:SX X sc N L k)(c:xT sc x=true)(ha:PAn X (e::es) n g)
 (he:starEach (e::es) X.env=(false,eval e X.env)::starEach es X.env:=by rfl) (J:(backTo pos (starEach es X.env)).any (·.1)=false:=by rfl):PO X (.Call (.Name x p) (e::es) [] pos) (jX F g):=by
 obtain⟨fa,fd,ps,hn,G,hm,O,Y⟩:=z.ex;subst hn;exact zbu G ha.1 ha.2 λ{t} a0=>xt G (h.room.mono I) (h.gl c).1 hm O Y .nil y7 a0 (h.gl c).2.2 he J
end
section
variable{P:Program}{w:World}{K:PySem.W.Frag}{mg:Str->Option Value}{base:Heap}
def vS(N ps:List Str)(st:Stmt):Bool:=
 decide ((defScope st).kind = .function) && decide ((defScope st).isCoroutine=false) && decide ((defScope st).isGenerator=false) && decide N.Nodup && decide (N.take ps.length=ps) &&
 ps.all (λx=>decide ((defScope st).names.lookup x=some .local) || decide ((defScope st).names.lookup x=some .cell)) && (defScope st).names.all (λy=> !(y.2==NameKind.free))
theorem qx{N ps:List Str}{st:Stmt}(h:vS N ps st=true):FnScope N ps (defScope st):=by
 unfold vS at h;simp only [Bool.and_eq_true,decide_eq_true_eq,zhR,zio,zjT]at h;obtain⟨⟨⟨⟨⟨⟨h1,h2⟩,z⟩,I⟩,J⟩,O⟩,Y⟩:=h;exact⟨h1,h2,z,I,J,O,λy hy e=>by have:=Y y hy;rw [e]at this;exact absurd this ⋯⟩
theorem qr{X:Cx}(hx:X.xe=λ_ _=>False):PassesOwn (model X.prog X.w) X.A X.env X.xe:=by rw [hx];exact PassesOwn.never
theorem k7{x:Str}{st:Stmt}{N ps:List Str}{k:Nat}{F:CO Fl}(A:DefAt K mg x st ps)(hd:vS N ps st=true)
 (I : ∀X:Cx,X.prog=P->X.w=w->X.K=K->X.mg=mg->X.base=base->SX X (defScope st) N N k->X.xe=(λ_ _=>False)->Xi X (defBody st) F) :
 FnD P w K mg base (k+1) x ps.length (jy N.length F):=by
 obtain⟨f,fd,z,J,hm⟩:=A.ex;have S:=qx hd;refine⟨f,fd,ps,rfl,zd2 z S λcdv A outer s H E O=>?_,hm,z.kp,.all J⟩;exact I _ rfl rfl rfl rfl rfl ⟨rfl,rfl,S.nd,rfl,O,λ_ _=> .inl rfl⟩ rfl
theorem def_mk{h:Heap}{x:Str}{st:Stmt}{ps:List Str}{f:Addr}{oc:Value}{od an:Option Addr}{osl:Array (Option Value)}{kV doc pm cdv ct:Value}(z:K.In h)(G:h.Ns mainGlobals mg)
 (a:zjC K mainGlobals x=some (some (.ref f))) (l:K.lookup f=some ⟨oc,od,.func (PySem.W.fnOf x x (defArgs st) (defBody st) (defScope st) .none kV doc pm an cdv ct),osl⟩)
 (c:PySem.W.codeIn K cdv x=true) (kp:PySem.W.keepIn K (.ref f)=true)
 (b : ∀(kV doc pm:Value) (an:Option Addr) (cdv ct:Value) (us:List Value),us.length=ps.length->bindArgs (PySem.W.fnOf x x (defArgs st) (defBody st) (defScope st) .none kV doc pm an cdv ct) ⟨us,[]⟩=pure (ps.zip us)):DefAt K mg x st ps:=
 ⟨f,_,Q0 l c kp,b kV doc pm an cdv ct,zkb z G a⟩
theorem zfK{x:Str}{st:Stmt}{f:Addr}{fd:FuncData}{N ps:List Str}{k:Nat}{F:CO Fl}(z:L2.Fun K x x st f fd)(hd:vS N ps st=true)
 (I : ∀X:Cx,X.prog=P->X.w=w->X.K=K->X.mg=mg->X.base=base->SX X (defScope st) N N k->X.xe=(λ_ _=>False)->Xi X (defBody st) F) :
 FnOk P w K mg base CX0 (k+1) f fd ps (spF K ps.length (jy N.length F)):=by
 have S:=qx hd;exact zd2 z S λcdv A outer s H E J=>I _ rfl rfl rfl rfl rfl ⟨rfl,rfl,S.nd,rfl,J,λ_ _=> .inl rfl⟩ rfl
theorem law_true{F:List D->Option Res}{H:Hp}{a:Addr}{ns:List Int}(z:SqL K H a (ns.map V.int))(I:F [.lst (ns.map D.int)]=some (.val (.bl true))) :
 spF K 1 F [.ref a] H (λv _=>v = .bl true) λ_ _ _=>False:=by
 refine⟨H,[.lst (ns.map D.int)],.val (.bl true),Same.refl _,Reps.cons (kT z ?_) Reps.nil,rfl,I,λv H' H0' _ r=>r⟩;clear I z
 induction ns with
 | nil=>exact Reps.nil
 | cons n ns J=>exact Reps.cons rfl J
end
end DL
namespace DL
open PySem PySem.Spec PyProof.Rows L2
open PySem.W (KasT kas_sort kas_ask kat_run kat_snds kat_lt kat_cons kat_no kat_kind KatTups KatGo)
def zeo(h:Heap)(v:Value)(k:Int):Prop:=∃x o xs m t,v = .ref x/\h.get? x=some o/\o.cls = .type "tuple"/\o.data = .seq xs m/\xs[0]? = some (.int k t)
theorem zaz{h:Heap} : ∀{vs:List Value} {ks:Nat->Int},(∀i (hi:i<vs.length),zeo h vs[i] (ks i))->∃fs,KatTups h vs fs/\fs.length=vs.length/\∀f∈fs,∃k t,f=zki k t
 | [],ks,_=>⟨[],KatTups.nil,rfl,λf z=>by cases z⟩
 | v::vs,ks,H=>by
  obtain⟨fs,h1,h2,I⟩:=zaz (vs:=vs) (ks:=λi=>ks (i+1)) λi hi=>H (i+1) (by simpa using hi);obtain⟨x,o,xs,m,t,e1,e2,J,O,Y⟩:=H 0 ⋯;have e1:v = .ref x:=e1;subst e1;exact⟨.int (ks 0) t::fs,KatTups.cons e2 J O Y h1,by simp [h2],λf z=>by
   rcases zhv.mp z with rfl | z
   ·exact⟨_,_,rfl⟩
   ·exact I f z⟩
end DL
namespace DL
open PySem PySem.Spec PyProof.Rows L2
open AutoSeq1 (wpAny_loadPart')
theorem yl:fillsNumberSlot (.type "tuple") "mul" = pure false:=
 PySem.fillsNumberSlot_seq (id:="tuple.__mul__") (r:=some (.builtin "tuple.__rmul__")) zjB.lookup ⋯ F.slot_tuple_rmul.lookup ⋯
theorem ZI:seqRepeat? (.type "tuple")=pure (some (.builtin "tuple.__mul__")):=by
 unfold seqRepeat?;rw [PySem.seqSlot_of (T:="tuple") (name:="__mul__") (id:="tuple.__mul__") zjB.lookup ⋯,PySem.seqSlot_of (T:="tuple") (name:="__rmul__") (id:="tuple.__rmul__") F.slot_tuple_rmul.lookup ⋯];rfl
theorem vP(a:Int)(t:Tok)(l:Addr)(items:Array Value)(n:Nat)(z:Option Addr)(sl:Array (Option Value)) :
 Meets (Builtin.«int.__rmul__» ⟨[.int a t,.ref l],[]⟩) (λ_ R s=>s.heap.get? l=some {cls:= .type "tuple",dict:=z,data:= .seq items n,slots:=sl}/\R (.ok (.ret Value.notImplemented)) s):=
 .of_wp λprog w A R s h=>by obtain⟨I,g,d,tk,os⟩:=s;obtain⟨J,h⟩:=h;wp_walk;exact⟨_,rfl,h⟩
theorem wD(a:Int)(t:Tok)(l:Addr)(items:Array Value)(n:Nat)(I:Option Addr)(sl:Array (Option Value))(h1 : ¬(decide (a < -(2 ^ 63)) || decide (a>=2 ^ 63))=true)(h2 : ¬(items.isEmpty || a==1)=true)
 (J : ¬(decide (a<=0) || items.isEmpty)=true) (O : ¬((items.size:Int)*a>(2 ^ 63 - 1)/8)) (Y : ¬Builtin.Tuple.tupleTooMany ((items.size:Int)*a)=true) (hz:((zhm a.toNat items).foldl (· ++ ·) #[]).size<=sizeLine) :
 Meets (Builtin.«tuple.__mul__» ⟨[.ref l,.int a t],[]⟩) (λ_ R s=>s.heap.get? l=some {cls:= .type "tuple",dict:=I,data:= .seq items n,slots:=sl}/\
  R (.ok (.ret (.ref s.heap.objs.size))) {s with heap:=s.heap.push {cls:= .type "tuple",data:= .seq ((zhm a.toNat items).foldl (· ++ ·) #[])}}):=
 .of_wp λprog w A R s h=>by
  obtain⟨hp,g,d,tk,os⟩:=s;obtain⟨z,h⟩:=h
  wp_walk using zjt z
  rw [if_neg h1];refine zhb (zj6 (s:=⟨hp,g,d,tk,os⟩) ⟨_,z,rfl,n,rfl⟩ ?_);dsimp only;rw [if_neg h2,if_neg J,if_neg O,if_neg Y];refine zhb (m:=ziy _) (zij ?_ hz);exact zhi ⟨_,rfl,h⟩
theorem vJ(a:Int)(t:Tok)(l:Addr)(items:Array Value)(n:Nat)(I:Option Addr)(sl:Array (Option Value))(h1 : ¬(decide (a < -(2 ^ 63)) || decide (a>=2 ^ 63))=true)(h2 : ¬(items.isEmpty || a==1)=true)
 (J:(decide (a<=0) || items.isEmpty)=true) :
 Meets (Builtin.«tuple.__mul__» ⟨[.ref l,.int a t],[]⟩) (λ_ R s=>s.heap.get? l=some {cls:= .type "tuple",dict:=I,data:= .seq items n,slots:=sl}/\
  R (.ok (.ret (.ref s.heap.objs.size))) {s with heap:=s.heap.push {cls:= .type "tuple",data:= .seq #[]}}):=
 .of_wp λprog w A R s h=>by
  obtain⟨O,g,d,tk,os⟩:=s;obtain⟨z,h⟩:=h
  wp_walk using zjt z
  rw [if_neg h1];refine zhb (zj6 (s:=⟨O,g,d,tk,os⟩) ⟨_,z,rfl,n,rfl⟩ ?_);dsimp only;rw [if_neg h2,if_pos J];refine zhb (m:=ziy _) (zij ?_ (zik _));exact zhi ⟨_,rfl,h⟩
theorem vH(a:Int)(t:Tok)(l:Addr)(items:Array Value)(n:Nat)(I:Option Addr)(sl:Array (Option Value))(h1 : ¬(decide (a < -(2 ^ 63)) || decide (a>=2 ^ 63))=true)(h2:(items.isEmpty || a==1)=true) :
 Meets (Builtin.«tuple.__mul__» ⟨[.ref l,.int a t],[]⟩) (λ_ R s=>s.heap.get? l=some {cls:= .type "tuple",dict:=I,data:= .seq items n,slots:=sl}/\R (.ok (.ret (.ref l))) s):=
 .of_wp λprog w A R s h=>by
  obtain⟨J,g,d,tk,os⟩:=s;obtain⟨z,h⟩:=h
  wp_walk using zjt z
  rw [if_neg h1];refine zhb (zj6 (s:=⟨J,g,d,tk,os⟩) ⟨_,z,rfl,n,rfl⟩ ?_);dsimp only;rw [if_pos h2];refine zhb (m:=zi2 _) ?_;unfold zi2;refine zhb (zjW (T:="tuple") ⟨_,z,rfl⟩ (zhi ?_));rw [if_pos ⋯];exact zhb (zkq (zhi ⟨_,rfl,h⟩))
section
variable{X:Cx}
def zc0(K:PySem.W.Frag):R2:=λx y H Q=>∃l k xs,x = .ref l/\y = .int k/\SqT K H l xs/\ -(2 ^ 62)<=k/\k<2 ^ 62/\xs.length*k.toNat<=sizeLine/\(xs=[]\/k=1->Q (.ref l) H)/\
 ∀p,H p=none->Q (.ref p) (upd H p (.tup (zhm k.toNat xs).flatten))
theorem zbE:OpR X (binaryOp .Mult) (zc0 X.K):=by
 intro pins s σ H x y v u Q I rx ry h;obtain⟨l,k,xs,rfl,rfl,hq,h1,h2,hz,q1,q2⟩:=h;cases rx;obtain⟨t,rfl⟩:=ry;obtain⟨z,r,ht,z1⟩:=I.tuple hq;obtain⟨⟨cls,Y,data,sl⟩,J,hc,n,hd⟩:=id ht;simp only at hc hd;subst hc hd;have ae:=r.length;have g1 : ¬(decide (k < -(2 ^ 63)) || decide (k>=2 ^ 63))=true:=by simp;omega
 refine wpAny_binaryOp_repeat_ref (T:="tuple") (U:="int") ⋯ ⟨_,J,rfl⟩ (λs'=>typeIs_int s' k t) yl F.fills_int_mul F.slot_int_rmul ZI F.slot_int_index.lookup
  (zjL F.slot_int_rmul (typeIs_int s k t) F.entry_int_rmul (F.args_int_rmul_2 _ _) (vP k t l z.toArray n Y sl) ⟨J,rfl,⟨_,J,rfl⟩,?_⟩)
 have f0 : ∀m:Nat,List.foldl (λx1 x2=>x1++x2) #[] (zhm m z.toArray)=(zhm m z).flatten.toArray:=λm=>by
  have:=Ja z m [];rw [List.nil_append]at this;exact this
 by_cases g2:(z.toArray.isEmpty || k==1)=true
 ·refine zjL zjB ⟨_,J,rfl⟩ zkM (zkF _ _) (vH k t l z.toArray n Y sl g1 g2) ⟨J,⟨.ref l,H,I,rfl,q1 ?_⟩⟩
  rw [zio]at g2;rcases g2 with g | g
  ·left
   have:z=[]:=by simpa using g
   exact(r.nil_iff).mp this
  ·right;simpa using g
 ·have a2:=g2
  simp only [zio,not_or]at a2;have af:z ≠ []:=by intro e;exact a2.1 (by rw [e];rfl)
  have ai:0<z.length:=List.length_pos_iff.mpr af;by_cases O:(decide (k<=0) || z.toArray.isEmpty)=true
  ·have hk:k.toNat=0:=by
    rw [zio]at O;rcases O with g | g
    ·have:=of_decide_eq_true g;omega
    ·exact absurd g a2.1
   refine zjL zjB ⟨_,J,rfl⟩ zkM (zkF _ _) (vJ k t l z.toArray n Y sl g1 g2 O) ⟨J,?_⟩;refine⟨.ref s.heap.objs.size,_,I.laid (t':=s.toks) (o:= .tup (zhm k.toNat xs).flatten) (λc ob q=>zhc _ q) (zhn _) ?_,rfl,q2 _ (I.hok.fresh (zhn _))⟩;rw [hk];exact⟨zik _,[],.nil,IsTupD.new _ _⟩
  ·have hk : ¬k<=0:=by intro g;exact O (by rw [zio];exact .inl (decide_eq_true g))
   have hsz:z.length*k.toNat<=sizeLine:=by rw [<- ae];exact hz
   have aj:((z.toArray.size:Nat):Int)*k<=(sizeLine:Int):=by
    rw [zho];have e:((z.length*k.toNat:Nat):Int)=(z.length:Int)*k:=by
     rw [Int.natCast_mul,zkn ⋯]
    omega
   have ak:sizeLine=16777216:=zj7;have ah:(List.foldl (λx1 x2=>x1++x2) #[] (zhm k.toNat z.toArray)).size<=sizeLine:=by
    rw [f0,zho,Yw,zkG];exact hsz
   refine zjL zjB ⟨_,J,rfl⟩ zkM (zkF _ _) (wD k t l z.toArray n Y sl g1 g2 O ⋯ (by unfold Builtin.Tuple.tupleTooMany;simp only [decide_eq_true_eq];omega) ah) ⟨J,?_⟩;rw [f0];refine⟨.ref s.heap.objs.size,_,I.laid (t':=s.toks) (o:= .tup (zhm k.toNat xs).flatten) (λc ob q=>zhc _ q) (zhn _) ?_,rfl,q2 _ (I.hok.fresh (zhn _))⟩;exact⟨by rw [Yw,zkG];exact hz,_,r.rep k.toNat,IsTupD.new _ _⟩
theorem za6{K:PySem.W.Frag}:Snd K (λx y H Q=>rI CMul (λi j=> .int (i*j)) x y H Q\/zc0 K x y H Q) qw:=λH0 H x y dx Y d Q s I J z q=>by
 cases dx<;>cases Y<;>simp [qw]at z
 ·obtain⟨e1,e2⟩:=z
  subst e2;exact .inl ⟨_,_,jg I,jg J,W2 e1,q _ H H0 (Ext.refl s) rfl⟩
 ·rename_i ds j
  obtain⟨⟨hl,hj⟩,rfl⟩:=z;obtain⟨a,xs,rfl,h1,h2⟩:=xm I;obtain⟨q1,q2⟩:=wX hj;refine .inr ⟨a,j,xs,rfl,jg J,sameT s h1,q1,q2,qR (by rw [h2.length];exact hl),λe=>?_,λp O=>?_⟩
  ·refine q _ H H0 (Ext.refl s) ?_
   rcases e with e | e
   ·have e2:ds=[]:=by
     have:=h2.length;rw [e]at this;exact zhN this.symm
    subst e2;rw [show(zhm j.toNat ([]:List D)).flatten=[]by simp];exact qb h1 h2
   ·subst e
    rw [show(zhm (1:Int).toNat ds).flatten=ds by simp];exact qb h1 h2
  ·exact q _ _ _ (Ext.alloc s O _) (qb (SqT.of zv) ((Qz h2 _).mono (zK (zS s O) _)))
theorem jO{a b:Expr}{pos:Pos}{fa fb:CO D}(ha:PV X a fa)(z:PV X b fb):PV X (.BinOp a .Mult b pos) (zq qw fa fb):=wa (op_mul.or zbE) za6 ha z
end
end DL
namespace DL
open PySem PySem.Spec PyProof.Rows L2
theorem RC.lendAt{K:PySem.W.Frag}{H0 H:Hp}{σ:St}{γ:Ctx}{i:Nat}{ds:List D}{a:Addr}{xs:List V}(r:RC K H0 H σ γ)(e:γ[i]? = some (.own ds))(h1:σ[i]? = some (some (.ref a)))(h2:H0 a=none)(h3:H a=some (.lst xs))(h4:Reps K H0 ds xs):RC K (L2.upd H0 a (.lst xs)) H σ (γ.set i (.val (.lst ds))):=by
 refine⟨λb o q=>?_,by simp [r.len],λj d g=>?_,λj es g=>?_,λj k b es fs e1 e2 e3 e4=>?_,⟨λj rows g=>?_,λj k r1 r2 e1 e2=>?_⟩⟩
 ·by_cases z:b=a
  ·subst z;rw [zv]at q;rw [h3];exact q
  ·rw [zy z]at q;exact r.sub b o q
 ·rcases zB g with⟨rfl,z,hl⟩ | ⟨I,z⟩
  ·cases z;exact⟨_,h1,kT (SqL.of zv) (h4.mono (zK h2 _))⟩
  ·obtain⟨v,J,g2⟩:=r.val j d z
   exact⟨v,J,g2.mono (zK h2 _)⟩
 ·rcases zB g with⟨_,z,_⟩ | ⟨I,z⟩
  ·cases z
  ·obtain⟨b,ys,J,g2,g3,g4⟩:=r.own j es z
   refine⟨b,ys,J,?_,g3,g4.mono (zK h2 _)⟩;rw [zy (λq=>I (r.ne j i a es ds z e (by rw [J,q]) h1))];exact g2
 ·rcases zB e1 with⟨_,z,_⟩ | ⟨I,z1⟩
  ·cases z
  ·rcases zB e2 with⟨_,z,_⟩ | ⟨hk,z2⟩
   ·cases z
   ·exact r.ne j k b es fs z1 z2 e3 e4
 ·rcases zB g with⟨_,z,_⟩ | ⟨I,z⟩
  ·cases z
  ·obtain⟨b,bs,f1,Y,f3⟩:=r.nst.1 j rows z
   have a9:=f3 i ds a e h1;refine⟨b,bs,f1,Y.move (zK h2 _) (λc O=>by rw [zy (λq=>a9 (by rw [<- q];exact O))];exact(Y.at O).1) (λc O=>rfl),λk fs c e1 e2=>?_⟩;rcases zB e1 with⟨_,z,_⟩ | ⟨_,z1⟩
   ·cases z
   ·exact f3 k fs c z1 e2
 ·rcases zB e1 with⟨_,z,_⟩ | ⟨_,z1⟩
  ·cases z
  ·rcases zB e2 with⟨_,z,_⟩ | ⟨_,z2⟩
   ·cases z
   ·exact r.nst.2 j k r1 r2 z1 z2
end DL
namespace L2
open PySem PySem.Spec PyProof.Rows
open AutoSeq1 (wpAny_loadPart')
theorem kC{prog:Program}{w:World}{A:Around}{E:Value->Shared->Prop}{s:Shared}{z it:Addr}{n:Int}{O:Value}{Q:Value->Shared->Prop}(Y:IsEnum s.heap z it n O)(h:Q (.ref z) s):wpAny (model prog w) A (pyIter (.ref z)) Q E s:=by
 have I:s.TypeIs (.ref z) "enumerate":=⟨_,Y,rfl⟩;refine wpAny_pyIter_slot I F.slot_enumerate_iter (ziI F.slot_enumerate_iter I F.entry_enumerate_iter ?_ (F.args_enumerate_iter_1 _));have J:wpAny (model prog w) A.in1 (ret (.ref z)) (λJ s'=>∃v,J = .done (.ret v)/\∃T m,s'.TypeIs v T/\typeLookup (.type T) "__next__" = pure (some m)/\Q v s') E s:=zhi ⟨_,rfl,"enumerate",_,I,F.slot_enumerate_next.lookup,h⟩;exact J
end L2
namespace DL
open PySem PySem.Spec PyProof.Rows L2
theorem kg : ∀{l:List Int} {us:List Value},Vals (l.map V.int) us->∀i,i<us.toArray.size->∃z u,us.toArray[i]? = some (.int z u)/\l[i]? = some z
 | [],us,r,i,hi=>by cases r;exact absurd hi (zhC _)
 | z::l,u::us,.cons r t,i,hi=>by
  cases i with
  | zero=>
   obtain⟨tk,rfl⟩:=r;exact⟨z,tk,by simp,by simp⟩
  | succ i=>
   obtain⟨I,u',e1,e2⟩:=kg t i (by simpa using hi);exact⟨I,u',by simpa using e1,by simpa using e2⟩
def tN(K:PySem.W.Frag)(f:CO (List (List D))):TE:=λσ H Q=>∃H0 γ rows,RC K H0 H σ γ/\f γ=some rows/\
 ∀a bs H' H0',Ext H0 H H0' H'->(∀b∈a::bs,H b=none)->Nest K H0' H' rows a bs->Q (.ref a) H'
def Rws(K:PySem.W.Frag)(H0 H:Hp)(rows:List (List D))(bs:List Addr):Prop:=bs.length=rows.length/\∀(k:Nat) b row,bs[k]? = some b->rows[k]? = some row->H0 b=none/\∃xs,H b=some (.lst xs)/\Reps K H0 row xs
theorem Rws.at{K:PySem.W.Frag}{H0 H:Hp}{rows:List (List D)}{bs:List Addr}(n:Rws K H0 H rows bs){b:Addr}(J:b∈bs):H0 b=none/\∃xs,H b=some (.lst xs):=by
 obtain⟨k,z⟩:=zjy J;have I:=(zhg.mp z).1;rw [n.1]at I;obtain⟨h1,xs,h2,_⟩:=n.2 k b _ z (zhe I);exact⟨h1,xs,h2⟩
theorem Rws.ext{K:PySem.W.Frag}{H0 H H0' H':Hp}{rows:List (List D)}{bs:List Addr}(n:Rws K H0 H rows bs)(e:Ext H0 H H0' H'):Rws K H0' H' rows bs:=
 ⟨n.1,λk b row h1 h2=>by
  obtain⟨z,xs,g2,I⟩:=n.2 k b row h1 h2;exact⟨e.new b z (by rw [g2];simp),xs,e.s1 _ _ g2,I.mono e.s0⟩⟩
theorem Rws.add{K:PySem.W.Frag}{H0 H:Hp}{rows:List (List D)}{bs:List Addr}{b:Addr}{row:List D}{xs:List V}(n:Rws K H0 H rows bs)(h1:H0 b=none)(h2:H b=some (.lst xs))(J:Reps K H0 row xs):Rws K H0 H (rows++[row]) (bs++[b]):=
 ⟨by simp [n.1],λk c r e1 e2=>by
  rcases zhy k bs.length with z | z
  ·rw [zhL z]at e1
   rw [zhL (by rw [<- n.1];exact z)]at e2;exact n.2 k c r e1 e2
  ·rw [zhS z]at e1
   rw [zhS (by rw [<- n.1];exact z)]at e2;have I:k - bs.length=0:=by
    have:=(zhg.mp e1).1;simp at this;omega
   rw [I]at e1;rw [<- n.1,I]at e2;cases e1;cases e2;exact⟨h1,xs,h2,J⟩⟩
theorem Rws.hide{K:PySem.W.Frag}{H0 H:Hp}{rows:List (List D)}{bs:List Addr}{z:Addr}{o:HO}(n:Rws K H0 H rows bs)(h:z∉bs):Rws K H0 (upd H z o) rows bs:=
 ⟨n.1,λk b row h1 h2=>by
  obtain⟨I,xs,g2,J⟩:=n.2 k b row h1 h2;exact⟨I,xs,by rw [zy (λq=>h (by rw [<- q];exact zhE h1))];exact g2,J⟩⟩
section
variable{K:PySem.W.Frag}{own:List Str}{fr:List (Str×Nat)}{src:CO (List D)}{T:Tg}{f:CO (List D)}
theorem Kb(hT : ∀i∈T.idx,i<own.length){tt:TT}(be : ∀σ H Q,tT K jF σ H Q->tt σ H Q) : ∀σ H Q,tN K (ZB src T own.length (fr.map (·.2)) f) σ H Q->Kv (tIc K src) own fr (gOf K T) tt (tO K f) σ H Q:=λσ H Q hZ=>by
 obtain⟨H0,γ,rows,rc,ef,q⟩:=hZ;obtain⟨items,e1,ef⟩:=bind_some ef;by_cases hl:items.length<=lim
 ·rw [if_pos hl]at ef
  refine⟨H0,γ,items,rc,e1,λJ H1 ae x1 wk D hD=>?_⟩;have ag : ∀(i:Nat) es,(jn own.length (fr.map (·.2)) γ)[i]? ≠ some (.own es):=λi es h=>by rcases jP h with z | ⟨d',j,z,_⟩<;>cases z
  have ah : ∀(i:Nat) es,(jn own.length (fr.map (·.2)) γ)[i]? ≠ some (.nest es):=λi es h=>by rcases jP h with z | ⟨d',j,z,_⟩<;>cases z
  have ao:ae D=none:=zS x1.sub hD;have ap : ∀c,H1 c=none->H c=none:=λc hc=>by
   cases z:H c with
   | none=>rfl
   | some o=>rw [x1.s1 c o z]at hc;cases hc
  refine⟨λi m ys σ' H'=>m=items.length - i/\i<=items.length/\ys.length<=i/\H' D=some (.lst ys)/\∃H0' bs r1 r2,ys=bs.map V.ref/\RC K H0' H' σ' (jn own.length (fr.map (·.2)) γ)/\H0' D=none/\Ext ae H1 H0' H'/\Rws K H0' H' r1 bs/\(D::bs).Nodup/\(∀b∈bs,H1 b=none)/\ka T f (jn own.length (fr.map (·.2)) γ) (items.drop i)=some r2/\rows=r1++r2,
   ⟨_,rfl,zik _,zhn _,zv,ae,[],[],rows,rfl,((rc.ext x1).pull).upd ao ag ah,ao,Ext.hide x1.sub hD _,⟨rfl,λk b row h=>by simp at h⟩,by simp,λb Y=>by simp at Y,ef,rfl⟩,?_⟩
  rintro i m ys σ' H' ⟨rfl,hi,hy,aa,H0',bs,r1,r2,bh,ai,aq,x',ab,nd,ar,I,rfl⟩;subst bh;refine⟨aa,?_⟩;by_cases a3:i<items.length
  ·refine .inr ⟨wk.go i H' x'.s1 a3,?_,λx aj y=>?_⟩
   ·have:=qR (zhn lim);omega
   obtain⟨d,hd,hx⟩:=wk.yld i H' x aj x'.s1 a3 y;obtain⟨G0,O,rg⟩:=hx H0' x'.s0 ai.sub;have bj:items.drop i=d::items.drop (i+1):=by
    have bm:d=items[i]:=by rw [zhe a3]at hd;exact(zhM hd).symm
    rw [bm];exact zje a3
   rw [bj]at I;simp only [ka]at I;obtain⟨γ1,eb,I⟩:=bind_some I;obtain⟨e,ee,I⟩:=bind_some I;obtain⟨j3,er,I⟩:=zm I;have bp:G0 D=none:=O.new D aq (by rw [aa];simp);have au:aj D=some (.lst (bs.map V.ref)):=O.s1 _ _ aa;obtain⟨bl,bg⟩:=Jl eb;have br : ∀{σ2:St} {G2 H2:Hp},RC K G2 H2 σ2 γ1->RC K G2 H2 σ2 (jn own.length (fr.map (·.2)) γ):=λr=>r.weak bl.symm (λj d' hj=>by
    by_cases hm:j∈T.idx
    ·rcases jP hj with z | ⟨d2,j2,_,hn,_⟩
     ·cases z
     ·exact absurd (hT j hm) ⋯
    ·rw [bg j hm];exact hj) ag ah
   refine kH O.sub rg eb λσ1 ay _=>be σ1 aj _ ⟨G0,γ1,true,ay (ai.ext O),rfl,λH3 az x3=>?_⟩;have b0:=(ay (ai.ext O)).ext x3;have xa:=x'.trans (O.trans x3);have bv:az D=none:=x3.new D bp (by rw [au];simp);have ak:H3 D=some (.lst (bs.map V.ref)):=x3.s1 _ _ au;dsimp only;rw [if_pos rfl];refine⟨az,γ1,e,b0,ee,λa4 cb H4 ba x4 g1 g2 g3 g4=>?_⟩;have am:ba D=none:=x4.new D bv (by rw [ak];simp);have c0:H4 D=some (.lst (bs.map V.ref)):=x4.s1 _ _ ak;have xb:=xa.trans x4;have c1:=((ab.ext O).ext x3).ext x4;have c2:=(ab.ext O).ext x3;have bb:D∉bs:=(zit.mp nd).1;have bc:D≠a4:=λz=>by rw [<- z,ak]at g1;cases g1
   have c3:a4∉bs:=λhm=>by
    obtain⟨_,cc,z⟩:=c2.at hm;rw [g1]at z;cases z
   have c4:H1 a4=none:=by
    cases z:H1 a4 with
    | none=>rfl
    | some o=>rw [xa.s1 _ _ z]at g1;cases g1
   refine⟨c0,items.length - (i+1),by omega,rfl,a3,by rw [zhQ,ziO];omega,zv,ba,bs++[a4],r1++[e],j3,by simp,(br (b0.ext x4)).upd am ag ah,am,?_,?_,?_,?_,er,?_⟩
   ·exact⟨xb.s0,λc o z=>by rw [zy (λw=>by rw [w,hD]at z;cases z)];exact xb.s1 c o z,λc o z=>by rw [zy (λw=>by rw [w,am]at z;cases z)];exact xb.sub c o z,xb.new⟩
   ·exact(c1.add g2 g3 g4).hide (by simp [bb,bc])
   ·refine zit.mpr ⟨by simp [bb,bc],List.nodup_append.mpr ⟨(zit.mp nd).2,by simp,λc hc c' c5=>?_⟩⟩
    have:c'=a4:=by simpa using c5
    subst this;exact λz=>c3 (by rw [<- z];exact hc)
   ·intro b Y
    rcases zi5.mp Y with z | z
    ·exact ar b z
    ·have:b=a4:=by simpa using z
     subst this;exact c4
   ·rw [<- I];simp
  ·have e:i=items.length:=by omega
   subst e;rw [zjY]at I;cases I;rw [zjE]at q;refine .inl ⟨wk.stop H' x'.s1,q D bs H' H0' (x1.trans x') (λb Y=>?_) ⟨aq,aa,nd,ab.1,ab.2⟩⟩;rcases zhv.mp Y with rfl | Y
   ·exact ap _ hD
   ·exact ap b (ar b Y)
 ·rw [if_neg hl]at ef;cases ef
end
section
variable{K:PySem.W.Frag}{E0 E H0 H:Hp}{σ:St}{γ:Ctx}
theorem RS.forget{i:Nat}{v:Option V}(r:RS K E0 E H0 H σ γ):RS K E0 E H0 H (σ.set i v) (γ.set i .no):=by
 have J : ∀{j:Nat} {ds:List D} {b:Addr},(γ.set i .no)[j]? = some (.own ds)->γ[j]? = some (.own ds)/\(σ.set i v)[j]? = σ[j]? :=λ{j ds b} g=>by
  rcases zB g with⟨_,z,_⟩ | ⟨O,z⟩
  ·cases z
  ·exact⟨z,zhl (zic O)⟩
 have Y : ∀{j:Nat} {rows:List (List D)},(γ.set i .no)[j]? = some (.nest rows)->γ[j]? = some (.nest rows)/\(σ.set i v)[j]? = σ[j]? :=λ{j rows} g=>by
  rcases zB g with⟨_,z,_⟩ | ⟨O,z⟩
  ·cases z
  ·exact⟨z,zhl (zic O)⟩
 refine⟨⟨r.rc.sub,by simp [r.rc.len],λj d' g=>?_,λj ds g=>?_,λj k b ds fs e1 e2 e3 e4=>?_,⟨λj rows g=>?_,λj k r1 r2 I g2=>r.rc.nst.2 j k r1 r2 (Y I).1 (Y g2).1⟩⟩,r.ext,λj ds b I g2=>?_,λj rows b xs I g2 g3=>?_⟩
 ·rcases zB g with⟨_,z,_⟩ | ⟨O,z⟩
  ·cases z
  ·obtain⟨v',I,g2⟩:=r.rc.val j d' z
   exact⟨v',by rw [zhl (zic O)];exact I,g2⟩
 ·obtain⟨z1,z2⟩:=J (b:=0) g
  rw [z2];exact r.rc.own j ds z1
 ·obtain⟨z1,z2⟩:=J (b:=0) e1
  obtain⟨z3,z4⟩:=J (b:=0) e2;rw [z2]at e3;rw [z4]at e4;exact r.rc.ne j k b ds fs z1 z3 e3 e4
 ·obtain⟨z1,z2⟩:=Y g
  obtain⟨a,bs,h1,h2,h3⟩:=r.rc.nst.1 j rows z1;refine⟨a,bs,by rw [z2];exact h1,h2,λk ds c e1 e2=>?_⟩;obtain⟨z3,z4⟩:=J (b:=0) e1;rw [z4]at e2;exact h3 k ds c z3 e2
 ·obtain⟨z1,z2⟩:=J (b:=0) I
  rw [z2]at g2;exact r.fresh j ds b z1 g2
 ·obtain⟨z1,z2⟩:=Y I
  rw [z2]at g2;exact r.fr2 j rows b xs z1 g2 g3
theorem ZW : ∀{l:List Addr} {m t:Nat} {b:Addr},l.Nodup->l[m]? = some b->l[t]? = some b->m=t
 | [],m,t,b,_,h,_=>by simp at h
 | c::l,m,t,b,nd,h1,h2=>by
  obtain⟨n1,n2⟩:=zit.mp nd;cases m with
  | zero=>
   cases t with
   | zero=>rfl
   | succ t=>
    have e1:c=b:=by simpa using h1
    have e2:l[t]? = some b:=by simpa using h2
    exact absurd (zhE e2) (e1 ▸ n1)
  | succ m=>
   cases t with
   | zero=>
    have e1:c=b:=by simpa using h2
    have e2:l[m]? = some b:=by simpa using h1
    exact absurd (zhE e2) (e1 ▸ n1)
   | succ t=>exact congrArg (· + 1) (ZW (b:=b) n2 (by simpa using h1) (by simpa using h2))
end
section
variable{K:PySem.W.Frag}{E0 E H0 H:Hp}{σ:St}{γ:Ctx}
theorem RS.freeze{i:Nat}{ds:List D}(r:RS K E0 E H0 H σ γ)(e:γ[i]? = some (.own ds)) : ∃H0',RS K E0 E H0' H σ (γ.set i (.val (.lst ds))):=by
 obtain⟨a,xs,h1,h2,Y,h4⟩:=r.rc.own i ds e;have ea:=r.fresh i ds a e h1;obtain⟨H0',s0,O⟩ : ∃H0',H0'=upd H0 a (.lst xs)/\RC K H0' H σ (γ.set i (.val (.lst ds))):=by
  refine⟨_,rfl,?_⟩;exact RC.lendAt r.rc e h1 h2 Y h4
 subst s0;refine⟨_,O,⟨r.ext.s0.trans (zK h2 _),r.ext.s1,O.sub,λc q1 I=>?_⟩,λj es b J g2=>?_,λj rows b ys J g2 g3=>?_⟩
 ·rw [zy (λz=>by rw [z,ea]at I;exact I rfl)];exact r.ext.new c q1 I
 ·rcases zB J with⟨_,z,_⟩ | ⟨_,z⟩
  ·cases z
  ·exact r.fresh j es b z g2
 ·rcases zB J with⟨_,z,_⟩ | ⟨_,z⟩
  ·cases z
  ·exact r.fr2 j rows b ys z g2 g3
end
section
variable{X:Cx}{st:Stmt}{F:CO Fl}
theorem zbp(i:Nat)(h:PSD X st F):PSD X st (zes i F):=qc h λD σ H I=>by
 obtain⟨E0,E,H0,γ,J,rs,z,O⟩:=I;obtain⟨ds,e1,z⟩:=bind_some z;obtain⟨H0',Y⟩:=rs.freeze (xy e1);exact⟨E0,E,H0',_,J,Y,z,O⟩
end
section
variable{X:Cx}{sc:Scope}{N L:List Str}{k:Nat}{o e a b:Expr}{apos cpos pos p:Pos}{f g:CO D}{q:CO (Sk×List D)}
theorem wI{x:Str}(h:ja x=true):x.length<=1000:=of_decide_eq_true h
theorem v6{x:Str}(h:ja x=true):x.length<=sizeLine:=zh3 (wI h) ⋯
theorem V7(ha:PV X a f)(O:PV X b g)(Y:Ze b:=by intro _ _;rfl):PV X (.Subscript a b pos) (Zw f g):=
 jK (zbA zdP ha O Y) λσ H Q hZ=>by
  obtain⟨H0,γ,d,rc,I,q⟩:=hZ;obtain⟨d1,e1,I⟩:=bind_some I;obtain⟨i,e2,I⟩:=bind_some I;obtain⟨di,e3,e2⟩:=bind_some e2;cases d1 with
  | str z=>
   by_cases J:ja z=true
   ·have I:(if ja z=true then (ixD z.cps.toList.length i).bind λk=>z.cps.toList[k]?.map λc=>D.str ⟨#[c]⟩else none)=some d:=I
    rw [if_pos J]at I;obtain⟨j,e4,I⟩:=bind_some I;obtain⟨c,e5,rfl⟩:=zm I;refine⟨H0,γ,_,rc,e1,λv H' H0' x r=>⟨H0',γ,di,rc.ext x,e3,λv2 H2 a6 x2 r2=>?_⟩⟩;rw [jR e2]at r2;refine⟨z,i,c,r,jg r2,v6 J,?_,q _ H2 a6 (x.trans x2) rfl⟩;unfold atI;rw [wm e4];exact e5
   ·have I:(if ja z=true then (ixD z.cps.toList.length i).bind λk=>z.cps.toList[k]?.map λc=>D.str ⟨#[c]⟩else none)=some d:=I
    rw [if_neg J]at I;cases I
  | _=>cases I
theorem zbl(h:SX X sc N L k)(c:xT sc "len" = true)(z:X.mg "len" = none)(ha:PV X e f)(O:starEach [e] X.env=[(false,eval e X.env)]:=by rfl):PV X (.Call (.Name "len" p) [e] [] pos) (Xx f):=
 jK (qP Jh (h.gl c).1 z PySem.boot_len (zF ha jp O) ⋯ ⋯ O rfl) λσ H Q Y=>by
  obtain⟨H0,γ,d,rc,I,q⟩:=Y;obtain⟨d1,e1,I⟩:=bind_some I;cases d1 with
  | str z=>
   by_cases J:ja z=true
   ·have I:(if ja z=true then some (D.int z.length)else none)=some d:=I
    rw [if_pos J]at I;cases I;refine⟨H0,γ,_,rc,e1,λv H' H0' x r=>⟨z,by rw [show v = .str z from r],v6 J,q _ H' H0' x rfl⟩⟩
   ·have I:(if ja z=true then some (D.int z.length)else none)=some d:=I
    rw [if_neg J]at I;cases I
  | _=>cases I
end
section
variable{X:Cx}{sc:Scope}{N L:List Str}{k:Nat}{b:Expr}{f:CO D}
theorem zda{a:Expr}{g:CO D}{p pos:Pos}(h:SX X sc N L k)(c:xT sc "min" = true)(z:X.mg "min" = none)(ha:PV X a f)(hb:PV X b g)(Y:starEach [a,b] X.env=[(false,eval a X.env),(false,eval b X.env)]:=by rfl)(J:starEach [b] X.env=[(false,eval b X.env)]:=by rfl) :
 PV X (.Call (.Name "min" p) [a,b] [] pos) (zbd f g):=
 jK (qP (Y1 h.calm) (h.gl c).1 z PyProof.Rows.boot_min (zF ha (zF hb jp J) (by rw [Y,J])) ⋯ ⋯ (by rw [Y,J]) (by rw [J];rfl)) λσ H Q hZ=>by
  obtain⟨H0,γ,d,rc,I,q⟩:=hZ;obtain⟨i,e1,I⟩:=bind_some I;obtain⟨d1,e0,e1⟩:=bind_some e1;obtain⟨j,O,I⟩:=zm I;obtain⟨d2,e2,O⟩:=bind_some O;subst I;refine⟨H0,γ,d1,rc,e0,λv H' H0' x r=>⟨H0',γ,d2,rc.ext x,e2,λv2 H2 a5 x2 r2=>⟨i,j,?_,q _ H2 a5 (x.trans x2) rfl⟩⟩⟩;rw [jR e1]at r;rw [jR O]at r2;rw [jg r,jg r2]
end
def zfs(c:Xn)(od:Option Addr)(H0:Hp):Prop:=match c.2 with
 | none=>od=none
 | some i=>∃d,od=some d/\H0 d=some (.xd [(zg2 c.1,.int i)])
def spX(K:PySem.W.Frag)(n:Nat)(G:List D->Option Xn):Sp:=λvs H _ E=>∃H0 ds c,Same H0 H/\Reps K H0 ds vs/\ds.length=n/\G ds=some c/\
 ∀C H' H0' od,xAll K=true->c.1∈xNames->xCls K c.1=some C->zfs c od H0'->Ext H0 H H0' H'->E (.ref C) od H'
section ap
variable(γ:Ctx)
@[simp] theorem qj(f):zH f γ=(f γ).bind jL:=rfl
@[simp] theorem Vi(f):qu f γ=(f γ).map D.lst:=rfl
@[simp] theorem Vh(f):jZ f γ=(f γ).map λds=>(Sk.L,ds):=rfl
@[simp] theorem jk(i):ze i γ=J3 γ[i]? :=rfl
@[simp] theorem jT(i):zk i γ=kc γ[i]? :=rfl
@[simp] theorem xh(d):zo d γ=some d:=rfl
@[simp] theorem Xf(F a b):zq F a b γ=(a γ).bind λx=>(b γ).bind λy=>F x y:=rfl
@[simp] theorem zg9(f):sB f γ=(f γ).bind asB:=rfl
@[simp] theorem zf9(f g):yU f g γ=(f γ).bind λb=>if b=true then g γ else some false:=rfl
@[simp] theorem zaH(f g):Xw f g γ=(f γ).bind λb=>if b=true then some true else g γ:=rfl
@[simp] theorem zfY(f):qa f γ=(f γ).map λb=> !b:=rfl
@[simp] theorem zgD(f g):zco f g γ=((f γ).bind asB).bind λb=>if b=true then g γ else some (.bl false):=rfl
@[simp] theorem zgy(f):zcV f γ=((f γ).bind asB).map λb=> .bl (!b):=rfl
@[simp] theorem zgB(c f g):zcn c f g γ=(c γ).bind λb=>if b=true then f γ else g γ:=rfl
@[simp] theorem yh:zz γ=some []:=rfl
@[simp] theorem xB(f g):zc f g γ=(f γ).bind λx=>(g γ).map λr=>x::r:=rfl
@[simp] theorem zei(f):jC f γ=(f γ).bind λds=>if ds.length<=lim then some (.tup ds)else none:=rfl
@[simp] theorem zf1(f):x6 f γ=(f γ).bind λds=>if ds.length<=lim then some ds else none:=rfl
@[simp] theorem zfZ:qF γ=some (.next γ):=rfl
@[simp] theorem zek(f):qo f γ=(f γ).map λd=> .ret (.val d):=rfl
@[simp] theorem zfX(f):Zy f γ=(f γ).map λd=> .ret (.own d):=rfl
@[simp] theorem zfW(i):yN i γ=Za γ[i]? :=rfl
@[simp] theorem zf6:VZ γ=some (.cont γ):=rfl
@[simp] theorem zg4(k F G):sIf k F G γ=(k γ).bind λb=>if b=true then F γ else G γ:=rfl
@[simp] theorem Vg(i f):jv i f γ=(f γ).map λd=> .next (γ.set i (.val d)):=rfl
@[simp] theorem J5(i f):xN i f γ=(f γ).map λds=> .next (γ.set i (.own ds)):=rfl
@[simp] theorem Vj(i f):xo i f γ=(qV γ[i]?).bind λds=>(f γ).bind λd=>if ds.length<lim then some (.next (γ.set i (.own (ds++[d]))))else none:=rfl
@[simp] theorem xC(F g):zE F g γ=(g γ).bind λds=>(F ds).map V2:=rfl
@[simp] theorem zeW(F g):jX F g γ=(g γ).bind λds=>(F ds).bind zcp:=rfl
@[simp] theorem qW(f):zG f γ=(f γ).map (·.2):=rfl
@[simp] theorem xA(f):zY f γ=((f γ).bind asI).bind λn=>if inR n=true then some (qy 0 n.toNat)else none:=rfl
@[simp] theorem zel(f g):qA f g γ=((f γ).bind asI).bind λm=>((g γ).bind asI).bind λn=>if inR m=true/\inR n=true then some (qy m (n - m).toNat)else none:=rfl
@[simp] theorem zeh(f g):VW f g γ=((f γ).bind jL).bind λm=>((g γ).bind jL).map λn=>Jv m.2 n.2:=rfl
@[simp] theorem Xe(src T F):vK src T F γ=(src γ).bind λds=>xl T F ds γ:=rfl
@[simp] theorem qX(src T n fr k f):zJ src T n fr k f γ=(src γ).bind λds=>if ds.length<=lim then z7 T k f (jn n fr γ) ds else none:=rfl
@[simp] theorem zgw:jF γ=some true:=rfl
@[simp] theorem zf7(f g):Xy f g γ=(f γ).bind λa=>(g γ).bind λb=>match a.1,b.1 with
 | .L,.L=>if a.2.length+b.2.length<=lim then some (a.2++b.2)else none
 | _,_=>none:=rfl
@[simp] theorem kM(f g):sIx f g γ=(f γ).bind λa=>((g γ).bind asI).bind λi=>(ixD a.2.length i).bind λk=>a.2[k]? :=rfl
@[simp] theorem zgz:Ki γ=some none:=rfl
@[simp] theorem zf8(f):sBd f γ=((f γ).bind asI).map some:=rfl
@[simp] theorem zej(f l h):Qt f l h γ=(f γ).bind λd=>(l γ).bind λlo=>(h γ).bind λhi=>match d with
 | .tup xs=>some (.tup (Xb xs lo hi))
 | _=>none:=rfl
@[simp] theorem zem(f):yP f γ=(f γ).map λa=> .int a.2.length:=rfl
@[simp] theorem zg3(T f):sIs T f γ=(f γ).map λd=> .bl (zaB T d):=rfl
@[simp] theorem Kf(f):zU f γ=(f γ).map λa=> .tup a.2:=rfl
@[simp] theorem zgx(f):zcT f γ=(f γ).bind λa=>(Vq a.2).map D.int:=rfl
@[simp] theorem zgE(f):zeu f γ=(f γ).bind λa=>(wE a.2).map λs=> .bl (s.all id):=rfl
@[simp] theorem zgC(f):zet f γ=(f γ).bind λa=>(wE a.2).map λs=> .bl (s.any id):=rfl
@[simp] theorem zf3(f):VY f γ=(f γ).bind λd=>match d with
 | .int i=>some (.int i)
 | .bl b=>some (.int (if b then 1 else 0))
 | _=>none:=rfl
@[simp] theorem zfV(f):VX f γ=(f γ).map λa=> !a.2.isEmpty:=rfl
theorem jm(F G):zZ F G γ=(F γ).bind λz=>match z with
 | .next γ'=>G γ'
 | f=>some f:=rfl
end ap
@[simp] theorem Ve(ds):jL (.tup ds)=some (.T,ds):=rfl
@[simp] theorem xU(ds):jL (.lst ds)=some (.L,ds):=rfl
@[simp] theorem zx(d):J3 (some (.val d))=some d:=rfl
@[simp] theorem zM(d):kc (some (.val d))=jL d:=rfl
@[simp] theorem zb7(d):kc (some (.own d))=some (.L,d):=rfl
@[simp] theorem ke(d):qV (some (.own d))=some d:=rfl
@[simp] theorem zb8(d):Za (some (.val d))=some (.ret (.val d)):=rfl
@[simp] theorem zb9(d):Za (some (.own d))=some (.ret (.own d)):=rfl
@[simp] theorem zgv(b):asB (.bl b)=some b:=rfl
@[simp] theorem jh(b):asI (.int b)=some b:=rfl
@[simp] theorem qM(d):V2 (.val d)=d:=rfl
@[simp] theorem zev(d):V2 (.own d) = .lst d:=rfl
@[simp] theorem Qy(d):zcp (.own d)=some d:=rfl
@[simp] theorem zeM(i j):ye (.int i) (.int j)=some (.int (i - j)):=rfl
@[simp] theorem Q8(i j):jH (.int i) (.int j)=some (.int (i+j)):=rfl
@[simp] theorem zeO(i j):qm (.int i) (.int j)=if 0<j then some (.int (i%j))else none:=by
 show(if Vt i j=true then _ else _)=_;simp [Vt]
@[simp] theorem WY(i j):yf (.int i) (.int j)=if 0<j/\j<1073741824 then some (.int (i/j))else none:=by
 show(if Y6 i j=true then _ else _)=_;have e:(Y6 i j=true)=(0<j/\j<1073741824):=by
  unfold Y6;rw [Bool.and_eq_true,decide_eq_true_eq,decide_eq_true_eq];apply propext;constructor<;>intro h<;>exact⟨h.1,by omega⟩
 simp only [e]
@[simp] theorem Q6(i j):qw (.int i) (.int j)=if vE i j=true then some (.int (i*j))else none:=rfl
@[simp] theorem zeN(i j):zb2 (.int i) (.int j)=if zee i j=true then some (.int (i ^ j.toNat))else none:=rfl
@[simp] theorem zfP(i j):dLt (.int i) (.int j)=some (.bl (decide (i<j))):=rfl
@[simp] theorem zfQ(i j):dLe (.int i) (.int j)=some (.bl (decide (i<=j))):=rfl
@[simp] theorem zfR(i j):dGt (.int i) (.int j)=some (.bl (decide (j<i))):=rfl
@[simp] theorem zfS(i j):dGe (.int i) (.int j)=some (.bl (decide (j<=i))):=rfl
@[simp] theorem zfT(i j):dEq (.int i) (.int j)=some (.bl (decide (i=j))):=by
 unfold dEq;rw [if_pos ⟨rfl,rfl⟩];exact congrArg (λb=>some (D.bl b)) (by rw [ziU];simp [eqD])
@[simp] theorem zfO(i j):dNe (.int i) (.int j)=some (.bl (!decide (i=j))):=by
 unfold dNe;rw [if_pos ⟨rfl,rfl⟩];exact congrArg (λb=>some (D.bl !b)) (by rw [ziU];simp [eqD])
@[simp] theorem zcS(i is d ds γ):jW (i::is) (d::ds) γ=jW is ds (γ.set i (.val d)):=rfl
@[simp] theorem zcR(ds γ):jW [] ds γ=γ:=by cases ds<;>rfl
@[simp] theorem yC(i d γ):jN (.nm i) d γ=some (γ.set i (.val d)):=rfl
@[simp] theorem vv(i j a b γ):jN (.tp [i,j]) (.tup [a,b]) γ=some ((γ.set i (.val a)).set j (.val b)):=rfl
@[simp] theorem kl(γ:Ctx)(G:CO Fl):(some (Fl.next γ)).bind (λz=>match z with
 | .next γ'=>G γ'
 | f=>some f)=G γ:=rfl
theorem Y5(i j:Int)(h1 : -(2 ^ 64)<j)(h2:j<2 ^ 64):vE i j=true:=by
 unfold vE;rw [zio];right;exact decide_eq_true ⋯
theorem qL(i j:Int)(h1 : -(2 ^ 64)<i)(h2:i<2 ^ 64):vE i j=true:=by
 unfold vE;rw [zio];left;exact decide_eq_true ⋯
theorem QX{i:Int}(h1 : -(2 ^ 62)<i)(h2:i<2 ^ 62):inR i=true:=by
 unfold inR;exact decide_eq_true ⋯
@[simp] theorem jt(n k:Nat):ixD n (k:Int)=if k<n then some k else none:=by
 unfold ixD;by_cases h:k<n
 ·rw [if_pos ⟨Int.natCast_nonneg k,by omega⟩,if_pos h];simp
 ·rw [if_neg ⋯,if_neg ⋯,if_neg h]
theorem jM:lim=2500:=rfl
@[simp] theorem zeJ:0<=lim:=zik _
@[simp] theorem zeI:1<=lim:=by decide
@[simp] theorem zeH:2<=lim:=by decide
@[simp] theorem zeG:3<=lim:=by decide
@[simp] theorem zeF:4<=lim:=by decide
@[simp] theorem zeE:5<=lim:=by decide
@[simp] theorem zeD:6<=lim:=by decide
@[simp] theorem zeC:7<=lim:=by decide
@[simp] theorem zeB:8<=lim:=by decide
@[simp] theorem zez:0<lim:=by decide
@[simp] theorem x9{n:Nat}(h:n<=lim):inR (n:Int)=true:=QX ⋯ (by have:=jM;omega)
@[simp] theorem ix0(n:Nat):ixD (n+1) 0=some 0:=jt (n+1) 0 ▸ rfl
@[simp] theorem ix1(n:Nat):ixD (n+2) 1=some 1:=by
 have:=jt (n+2) 1;simpa using this
@[simp] theorem ix2(n:Nat):ixD (n+3) 2=some 2:=by
 have:=jt (n+3) 2;simpa using this
theorem zA{α:Type}{T:Tg}{k:CO Bool}{f:CO D}{γ:Ctx}{g:α->D}(r:α->D) : ∀(l:List α),(∀x∈l,z7 T k f γ [g x]=some [r x])->z7 T k f γ (l.map g)=some (l.map r)
 | [],_=>rfl
 | x::l,h=>by
  have h1:=h x zhq;have h2:=zA r l λy z=>h y (zhs _ z);simp only [zhI,z7]at h1 ⊢;cases e1:jN T (g x) γ with
  | none=>rw [e1]at h1;simp at h1
  | some γ1=>
   rw [e1]at h1;simp only [zhd]at h1 ⊢;cases e2:k γ1 with
   | none=>rw [e2]at h1;simp at h1
   | some b=>
    rw [e2]at h1;simp only [zhd]at h1 ⊢;cases b with
    | false=>simp at h1
    | true=>
     simp only [if_pos]at h1 ⊢;cases e3:f γ1 with
     | none=>rw [e3]at h1;simp at h1
     | some e=>
      rw [e3]at h1;simp at h1;rw [h2];simp [h1]
theorem zC{k:CO Bool}{f:CO D}{γ γ1:Ctx}{T:Tg}{d e:D}(h1:jN T d γ=some γ1)(h2:k γ1=some true)(z:f γ1=some e):z7 T k f γ [d]=some [e]:=by
 simp [z7,h1,h2,z]
theorem j4(T F d ds γ):xl T F (d::ds) γ=(jN T d γ).bind λγ1=>(F γ1).bind λI=>match I with
 | .next z=>xl T F ds z
 | .cont z=>xl T F ds z
 | .brk z=>some (.next z)
 | .ret r=>some (.ret r):=rfl
theorem vn{T:Tg}{F:CO Fl}(P:Nat->Ctx->Prop) : ∀(ds:List D) (k:Nat) (γ:Ctx),P k γ->(∀i d γ,ds[i]? = some d->P (k+i) γ->∃γ',((jN T d γ).bind F=some (.next γ')\/(jN T d γ).bind F=some (.cont γ'))/\P (k+i+1) γ')->
 ∃γ',xl T F ds γ=some (.next γ')/\P (k+ds.length) γ'
 | [],k,γ,h,_=>⟨γ,rfl,h⟩
 | d::ds,k,γ,h,step=>by
  obtain⟨γ1,e,h1⟩:=step 0 d γ rfl h;obtain⟨γ',e2,h2⟩:=vn P ds (k+1) γ1 (by simpa using h1) (λi d' z hd I=>by
   have:=step (i+1) d' z (by simpa using hd) (by rw [show k+(i+1)=k+1+i by omega];exact I);rw [show k+(i+1)+1=k+1+i+1 by omega]at this;exact this)
  refine⟨γ',?_,by rw [show k+(d::ds).length=k+1+ds.length by simp;omega];exact h2⟩;rw [j4];cases eb:jN T d γ with
  | none=>rw [eb]at e;simp at e
  | some J=>
   rw [eb]at e;simp only [zhd]at e ⊢;rcases e with e | e<;>rw [e]<;>exact e2
def zQ(n:Nat)(f:Nat->Int):List D:=(zhf n).map λi=>D.int (f i)
theorem zW(n f):zQ n f=(zhf n).map λi=>D.int (f i):=rfl
def jb(h w:Nat)(f:Nat->Nat->Int):List D:=(zhf h).map λi=>D.tup (zQ w (f i))
def xv(h w:Nat)(f:Nat->Nat->Int):D:= .tup [.int h,.int w,.tup (jb h w f)]
@[simp] theorem xL(n f):(zQ n f).length=n:=by simp [zQ]
@[simp] theorem WV(h w f):(jb h w f).length=h:=by simp [jb]
@[simp] theorem zfM{n i:Nat}(f)(h:i<(zQ n f).length):(zQ n f)[i] = .int (f i):=by simp [zQ]
theorem yw{n i:Nat}(f)(h:i<n):(zQ n f)[i]? = some (.int (f i)):=by simp [zQ,h]
@[simp] theorem zfN{h w i:Nat}(f)(hi:i<(jb h w f).length):(jb h w f)[i] = .tup (zQ w (f i)):=by simp [jb]
theorem w4{n:Nat}{f g:Nat->Int}(h : ∀i,i<n->f i=g i):zQ n f=zQ n g:=by
 unfold zQ;apply zht;intro i hi;rw [h i (zhp.mp hi)]
theorem jQ(n:Nat):qy 0 n=zQ n λi=>(i:Int):=by simp [qy,zQ]
theorem wy(n:Nat)(f g:Nat->Int):Jv (zQ n f) (zQ n g)=(zhf n).map λi=>D.tup [.int (f i),.int (g i)]:=by
 unfold Jv zQ;rw [List.zip_map'];simp
def sumTo(f:Nat->Int):Nat->Int
 | 0=>0
 | n+1=>sumTo f n+f n
theorem yI : ∀(xs:List Int) (y:Int),Vq (xs.map D.int++[.int y])=(Vq (xs.map D.int)).map λs=>s+y
 | [],y=>by simp [Vq]
 | x::xs,y=>by
  simp only [zhI,List.cons_append,Vq];rw [yI xs y];cases e:Vq (xs.map D.int)<;>simp [Int.add_assoc]
theorem Zq(f:Nat->Int) : ∀n,Vq (zQ n f)=some (sumTo f n)
 | 0=>rfl
 | n+1=>by
  have z:=Zq f n;have e : ∀m,zQ m f=((zhf m).map f).map D.int:=λm=>by simp [zQ]
  rw [e]at z ⊢;rw [ziD,zhZ,zhZ,List.map_singleton,List.map_singleton,yI,z];simp [sumTo]
def F_rests:List D->Option Res:=jy 2 (qo (zU (jZ (zJ (zG (zk 1)) (.nm 0) 1 [0] jF (zq qm (ze 0) (ze 1))))))
def F_led:List D->Option Res:=jy 3 (qo (zE F_rests (zc (ze 0) (zc (qu (zJ (zG (zH (sIx (zk 1) (zo (.int 2))))) (.nm 0) 1 [2] jF (zcT (jZ (zJ (VW (ze 0) (ze 1)) (.tp [0,1]) 2 [] jF (zq qw (ze 0) (ze 1))))))) zz))))
def F_turned_over:List D->Option Res:=jy 2 (zZ (jv 1 (qu (zJ (zY (sIx (zk 0) (zo (.int 1)))) (.nm 0) 1 [0] jF (zU (jZ (zJ (zG (zH (sIx (zk 1) (zo (.int 2))))) (.nm 0) 1 [0] jF (sIx (zk 0) (ze 1)))))))) (qo (jC (zc (sIx (zk 0) (zo (.int 1))) (zc (sIx (zk 0) (zo (.int 0))) (zc (zU (zk 1)) zz))))))
def F_same_table:List D->Option Res:=jy 2 (zZ (jv 1 (qu (zJ (zY (ze 0)) (.nm 0) 1 [0] jF (zU (jZ (zJ (zY (ze 1)) (.nm 0) 1 [0] jF (zcn (sB (zq dEq (ze 1) (ze 0))) (zo (.int 1)) (zo (.int 0))))))))) (qo (jC (zc (ze 0) (zc (ze 0) (zc (zU (zk 1)) zz))))))
def F_nought_table:List D->Option Res:=jy 2 (qo (jC (zc (ze 0) (zc (ze 1) (zc (zq qw (jC (zc (zq qw (jC (zc (zo (.int 0)) zz)) (ze 1)) zz)) (ze 0)) zz)))))
def F_law_whole:List D->Option Res:=jy 1 (qo (zco (sIs .int (ze 0)) (zcV (sIs .bool (ze 0)))))
def F_inverse:List D->Option Res:=jy 3 (zZ (vK (qA (zo (.int 1)) (ze 0)) (.nm 2) (sIf (sB (zq dEq (zq qm (zq qw (ze 1) (ze 2)) (ze 0)) (zo (.int 1)))) (yN 2) qF)) Zz)
def F_cleared:List D->Option Res:=jy 5 (zZ (jv 4 (sIx (zk 1) (ze 3))) (zZ (sIf (sB (zq dEq (ze 4) (zo (.int 0)))) (yN 1) qF) (qo (zE F_rests (zc (ze 0) (zc (qu (zJ (VW (ze 1) (ze 2)) (.tp [0,1]) 2 [4] jF (zq ye (ze 0) (zq qw (ze 2) (ze 1))))) zz))))))
def F_base_of:List D->Option Res:=jy 9 (zZ (jv 3 (qu (zJ (zG (zk 2)) (.nm 0) 1 [0] jF (zE F_rests (zc (ze 1) (zc (ze 0) zz)))))) (zZ (xN 4 (x6 zz)) (zZ (vK (zY (ze 1)) (.nm 5) (zZ (jv 6 (qu (zJ (zG (zk 3)) (.nm 0) 1 [5] (sB (zq dNe (sIx (zk 0) (ze 1)) (zo (.int 0)))) (ze 0)))) (zZ (sIf (qa (VX (zk 6))) VZ qF) (zZ (jv 7 (zE F_inverse (zc (ze 0) (zc (sIx (zH (sIx (zk 6) (zo (.int 0)))) (ze 5)) zz)))) (zZ (jv 8 (zE F_rests (zc (ze 0) (zc (qu (zJ (zG (zH (sIx (zk 6) (zo (.int 0))))) (.nm 0) 1 [7] jF (zq qw (ze 1) (ze 0)))) zz)))) (zZ (jv 3 (qu (zJ (zG (zk 3)) (.nm 0) 1 [0,5,8] jF (zE F_cleared (zc (ze 1) (zc (ze 0) (zc (ze 3) (zc (ze 2) zz)))))))) (xN 4 (Xy (jZ (zJ (zG (zk 4)) (.nm 0) 1 [0,5,8] jF (zE F_cleared (zc (ze 1) (zc (ze 0) (zc (ze 3) (zc (ze 2) zz))))))) (jZ (x6 (zc (ze 8) zz))))))))))) (yN 4))))
def F_behind_noughts:List D->Option Res:=jy 2 (Zy (zJ (zG (zk 1)) (.nm 0) 1 [0] (qa (sB (zet (zH (Qt (ze 0) Ki (sBd (ze 1))))))) (Qt (ze 0) (sBd (ze 1)) Ki)))
def F_led_into:List D->Option Res:=jy 5 (zZ (jv 3 (qu (zJ (VW (sIx (zH (zE F_turned_over (zc (ze 1) zz))) (zo (.int 2))) (sIx (zH (zE F_same_table (zc (sIx (zk 1) (zo (.int 1))) zz))) (zo (.int 2)))) (.tp [0,1]) 2 [] jF (zq jH (ze 0) (ze 1))))) (zZ (jv 4 (qu (zJ (zG (zk 2)) (.nm 0) 1 [1] jF (zq jH (ze 0) (zq qw (jC (zc (zo (.int 0)) zz)) (sIx (zk 1) (zo (.int 1)))))))) (Zy (jX F_behind_noughts (zc (sIx (zk 1) (zo (.int 0))) (zc (qu (jX F_base_of (zc (ze 0) (zc (zq jH (sIx (zk 1) (zo (.int 0))) (sIx (zk 1) (zo (.int 1)))) (zc (qu (Xy (zk 3) (zk 4))) zz))))) zz))))))
section
variable(γ:Ctx)
@[simp] theorem zeV(F G a b c):yc F G a b c γ=(a γ).bind λx=>(b γ).bind λy=>((F x y).bind asB).bind λk=>if k=true then (c γ).bind λz=>G y z else some (.bl false):=rfl
@[simp] theorem zci(T f):KL T f γ=(f γ).bind λd=>(jN T d γ).map .next:=rfl
end
section
variable(γ:Ctx)
@[simp] theorem zeU(src T n fr f):ZB src T n fr f γ=(src γ).bind λds=>if ds.length<=lim then ka T f (jn n fr γ) ds else none:=rfl
@[simp] theorem zaI(i F):zes i F γ=(qV γ[i]?).bind λds=>F (γ.set i (.val (.lst ds))):=rfl
end
section
variable(γ:Ctx)
@[simp] theorem W8(f g):Zw f g γ=(f γ).bind λd=>((g γ).bind asI).bind λi=>match d with
 | .str z=>if ja z=true then (ixD z.cps.toList.length i).bind λk=>z.cps.toList[k]?.map λc=> .str ⟨#[c]⟩else none
 | _=>none:=rfl
@[simp] theorem zcj(f):Xx f γ=(f γ).bind λd=>match d with
 | .str z=>if ja z=true then some (.int z.length)else none
 | _=>none:=rfl
end
def vU:List D->Option Res:=jy 2 (qo (zcn (sB (zq dEq (ze 1) (zo (.str "r")))) (ze 0) (zq jH (ze 0) (zo (.int 1)))))
def zad:List D->Option Res:=jy 2 (qo (zcn (sB (zq dEq (ze 1) (zo (.str "r")))) (zq jH (ze 0) (zo (.int 1))) (ze 0)))
def zfh(f:CO D):CO D:=λγ=>(f γ).map λd=> .bl (zaB .list d || zaB .tuple d)
def Kh:List D->Option Res:=jy 1 (qo (zco (sIs .int (ze 0)) (zcV (sIs .bool (ze 0)))))
def Jr:List D->Option Res:=jy 2 (qo (zco (zE Kh (zc (ze 1) zz)) (yc dLe dLt (zo (.int 0)) (ze 1) (ze 0))))
def Qa:List D->Option Res:=jy 2 (qo (zco (zfh (ze 0)) (zq dEq (yP (zk 0)) (ze 1))))
section
variable{X:Cx}{sc:Scope}{N L:List Str}{k:Nat}{a e:Expr}{es:List Expr}{f:CO D}{g:CO (List D)}{pos p p2:Pos}
structure GL(K:PySem.W.Frag)(mg:Str->Option Value)(x:Str)(d:D):Prop where
 ex : ∃u v,mg x=some u/\RelV v u/\∀H,Rep K H d v
end
theorem qQ{X:Cx}{es:List Expr}{n:Nat}{g:CO (List D)}(h:PAn X es n g):PAD X es g:=h.1
section
variable{K:PySem.W.Frag}{E0 E H0 H:Hp}{σ:St}{γ:Ctx}
theorem Reps.dropLast : ∀{ds:List D} {xs:List V},Reps K H ds xs->Reps K H ds.dropLast xs.dropLast
 | [],xs,r=>by rw [r.inv_nil];exact Reps.nil
 | [d],xs,r=>by
  obtain⟨x,r',e,_,r2⟩:=r.inv_cons;rw [e,r2.inv_nil];exact Reps.nil
 | d::d2::ds,xs,r=>by
  obtain⟨x,r',e,z,r2⟩:=r.inv_cons;obtain⟨I,J,e2,_,_⟩:=r2.inv_cons;subst e e2;exact Reps.cons z (Reps.dropLast r2)
end
end DL
namespace L2
open PySem PySem.Spec PyProof.Rows
theorem zfB(z:Str):strIterType z = "str_ascii_iterator"\/strIterType z = "str_iterator":=by unfold strIterType;split<;>simp
theorem Q3{X:Cx}{pins:List (Addr×Obj)}{σ:St}{H:Hp}{s:Shared}{E:Value->Shared->Prop}{z it:Addr}{i tk:Nat}{x:Value}{v:V}{g:Heap}{elts:List Expr}{x1:Nat}{tpos:Pos}{Q:Unit->Shared->Prop}
 (I:Inv X pins σ H s) (hf : ∀b ∈ [z,it],FpOk X pins H b) (hz:z<s.heap.objs.size) (hi:it<s.heap.objs.size) (a1:IsEnumOut g z it ((i:Int)+1) x s.heap.objs.size)
 (a3:IsPair g s.heap.objs.size (.int i tk) x) (a5 : ∀b o,b≠z->b≠it->s.heap.get? b=some o->g.get? b=some o) (rx:RelV v x)
 (a9 : ∀g2,IsEnum g2 z it ((i+1:Nat):Int) x->zju z g g2->Inv X pins σ (upd H s.heap.objs.size (.tup [.int i,v])) {s with heap:=g2,toks:=tk+1}->H s.heap.objs.size=none->
   (∀b ∈ [z,it],upd H s.heap.objs.size (.tup [.int i,v]) b=none)->Q () {s with heap:=g2,toks:=tk+1}) :
 wpAny (model X.prog X.w) X.A (letOwnedTupleGo (.Tuple elts x1 tpos) (.ref z) (.ref s.heap.objs.size)) Q E {s with heap:=g,toks:=tk+1}:=by
 refine wpAny_letOwnedTupleGo_enum a1 λg2 aa Y=>?_;have ab:IsPair g2 s.heap.objs.size (.int i tk) x:=Y.extBut _ _ (ziW hz) a3;have kk : ∀J u,J ∉ [z,it]->s.heap.get? J=some u->g2.get? J=some u:=λJ u O e=>by
  simp only [zhv,zhU,or_false,not_or]at O;exact Y.extBut _ _ O.1 (a5 J u O.1 O.2 e)
 refine a9 g2 (by have:=aa;rwa [show((i:Int)+1)=((i+1:Nat):Int)by omega]at this) Y (I.turnLaid (fp:=[z,it]) kk hf (zhn _) ⟨by show 2<=sizeLine;decide,[.int i tk,x],.cons ⟨_,rfl⟩ (.cons rx .nil),⟨_,ab,rfl,_,rfl⟩⟩) I.fresh λJ O=>?_;have ae:J≠s.heap.objs.size:=by
  simp only [zhv,zhU,or_false]at O;rcases O with rfl | rfl
  ·exact zhG hz
  ·exact zhG hi
 rw [zy ae];exact(hf J O).1
def zge(K:PySem.W.Frag)(a:Addr):It:=
 ⟨λi H=>∃xs,SqL K H a xs/\i<xs.length,
  λi H x H'=>∃p u,x = .ref p/\H p=none/\H'=upd H p (.tup [.int i,u])/\(∀xs,SqL K H a xs->xs[i]? = some u),
  λi H=>∃xs,SqL K H a xs/\xs.length=i⟩
theorem Xp{P:Program}{w:World}{K:PySem.W.Frag}{elts:List Expr}{x1:Nat}{tpos:Pos}{z it a:Addr}(aa:z≠it) :
 Turn P w K (.Tuple elts x1 tpos) (zge K a) [z,it] z (λi h=>(∃Y,IsEnum h z it i Y)/\h.IsListIter it a i) where
 mem:=by simp
 obj:=λi h ⟨⟨Y,J⟩,h1⟩ y hy=>by
  simp only [zhv,zhU,or_false]at hy;rcases hy with rfl | rfl
  ·exact⟨_,J,λv q=>by cases q⟩
  ·obtain⟨o,e,c,d⟩:=h1
   exact⟨o,e,λv q=>by rw [d]at q;cases q⟩
 keep:=λi h h' ⟨⟨Y,J⟩,h1⟩ k=>⟨⟨Y,k z ⋯ _ J⟩,h1.at λo e=>k it ⋯ o e⟩
 item:=by
  rintro X rfl rfl rfl hc i pins s σ H E I hf ⟨⟨Y,J⟩,h1⟩ ⟨xs,a6,am⟩;obtain⟨a7,a8,p1,z1⟩:=I.list a6;have hl:=p1.isList;have hx:xs[i]? = some xs[i]:=zhe am;have l1:=a8.length;have af:a≠it:=λe=>by
   obtain⟨o,e1,O,_⟩:=hl;obtain⟨o2,e2,c2,_⟩:=h1;rw [e,e2]at e1;cases e1;rw [c2]at O;exact absurd O ⋯
  have ao:z≠a:=λe=>by
   obtain⟨o,e1,O,_⟩:=hl;have aj:s.heap.get? z=some _:=J;rw [e,e1]at aj;cases aj;exact absurd O ⋯
  have ap:it<s.heap.objs.size:=by obtain⟨o2,e2,_⟩:=h1;exact zhu e2
  have Dr:=Draws.list (prog:=X.prog) (w:=X.w) (A:=X.A.in1) (show X.A.in1.handled=none from I.ok.hd hc) it a af a7.toArray;refine wpAny_pyNext_enum_itemD Dr J ⟨h1,hl⟩ (by simp;omega) aa (by simp;exact⟨aa,ao⟩) λx g tk hP a1 a2 a3 a4 a5=>⟨_,rfl,?_⟩;obtain⟨u1,aw,ax⟩:=a8.get hx;obtain rfl:u1=x:=by have:=hP;simp [aw]at this;exact this
  refine Q3 I hf (zhu J) ap a1 a3 a5 ax λg2 b1 b2 I1 az hn=>⟨.ref s.heap.objs.size,_,I1,rfl,⟨_,_,rfl,az,rfl,λbd b0=>by rw [I.list_inj b0 a6];exact hx⟩,⟨⟨_,b1⟩,a2.1.at λo e=>b2.extBut _ _ aa.symm e⟩,hn⟩
 done:=by
  rintro X rfl rfl rfl hc i pins s σ H E I hf ⟨⟨Y,J⟩,h1⟩ ⟨xs,a6,hi⟩;obtain⟨a7,a8,p1,z1⟩:=I.list a6;have hl:=p1.isList;have l1:=a8.length;have af:a≠it:=λe=>by
   obtain⟨o,e1,O,_⟩:=hl;obtain⟨o2,e2,c2,_⟩:=h1;rw [e,e2]at e1;cases e1;rw [c2]at O;exact absurd O ⋯
  have Dr:=Draws.list (prog:=X.prog) (w:=X.w) (A:=X.A.in1) (show X.A.in1.handled=none from I.ok.hd hc) it a af a7.toArray;have en:a7.toArray.size=i:=by simp;omega
  rw [en]at Dr;refine wpAny_pyNext_enum_endD Dr J ⟨h1,hl⟩ λg hk=>⟨rfl,?_⟩;refine I.turnedL (t':=s.toks) (fp:=[z,it]) (λb' u hb e=>?_) hf;simp only [zhv,zhU,or_false,not_or]at hb;exact hk b' u hb.2 e
 self:=λ_ _ _ _ _ st h=>kC st.1.choose_spec h
def zgd(z:Str):It:=
 ⟨λi _=>i<z.cps.size,λi H x H'=>∃p c,x = .ref p/\H p=none/\H'=upd H p (.tup [.int i,.str ⟨#[c]⟩])/\z.cps[i]? = some c,λi _=>i=z.cps.size⟩
theorem Jc{prog:Program}{w:World}{A:Around}(z:A.handled=none)(it:Addr)(x:Str)(t:Tok) :
 Draws prog w A it [it] x.cps.size (λi v=>∃c u,x.cps[i]? = some c/\v = .str ⟨#[c]⟩ u) (λi h=>h.IsStrIter it (strIterType x) x t i):=by
 rcases zfB x with q | q
 ·rw [q];exact Draws.strAscii z it x t
 ·rw [q];exact Draws.strWide z it x t
theorem Xo{P:Program}{w:World}{K:PySem.W.Frag}{elts:List Expr}{x1:Nat}{tpos:Pos}{z it:Addr}(x:Str)(t:Tok)(Y:z≠it) :
 Turn P w K (.Tuple elts x1 tpos) (zgd x) [z,it] z (λi h=>(∃O,IsEnum h z it i O)/\h.IsStrIter it (strIterType x) x t i) where
 mem:=by simp
 obj:=λi h ⟨⟨O,J⟩,h1⟩ y hy=>by
  simp only [zhv,zhU,or_false]at hy;rcases hy with rfl | rfl
  ·exact⟨_,J,λv q=>by cases q⟩
  ·obtain⟨o,e,c,d⟩:=h1
   exact⟨o,e,λv q=>by rw [d]at q;cases q⟩
 keep:=λi h h' ⟨⟨O,J⟩,h1⟩ k=>⟨⟨O,k z ⋯ _ J⟩,by obtain⟨o,e,r⟩:=h1;exact⟨o,k it ⋯ o e,r⟩⟩
 item:=by
  rintro X rfl rfl rfl hc i pins s σ H E I hf ⟨⟨O,J⟩,h1⟩ aa;have ab:it<s.heap.objs.size:=by obtain⟨o2,e2,_⟩:=h1;exact zhu e2
  have Dr:=Jc (prog:=X.prog) (w:=X.w) (A:=X.A.in1) (show X.A.in1.handled=none from I.ok.hd hc) it x t;refine wpAny_pyNext_enum_itemD Dr J h1 aa Y (by simp;exact Y) λu g tk hP a1 a2 a3 a4 a5=>⟨_,rfl,?_⟩;obtain⟨c,tu,ai,rfl⟩:=hP;refine Q3 (v:= .str ⟨#[c]⟩) I hf (zhu J) ab a1 a3 a5 ⟨_,rfl⟩ λg2 b1 b2 I1 ak hn=>⟨.ref s.heap.objs.size,_,I1,rfl,⟨_,_,rfl,ak,rfl,ai⟩,⟨⟨_,b1⟩,?_⟩,hn⟩;obtain⟨o,e,r⟩:=a2;exact⟨o,b2.extBut _ _ Y.symm e,r⟩
 done:=by
  rintro X rfl rfl rfl hc i pins s σ H E I hf ⟨⟨O,J⟩,h1⟩ hi;have hi:i=x.cps.size:=hi;subst hi;have Dr:=Jc (prog:=X.prog) (w:=X.w) (A:=X.A.in1) (show X.A.in1.handled=none from I.ok.hd hc) it x t;refine wpAny_pyNext_enum_endD Dr J h1 λg hk=>⟨rfl,?_⟩;refine I.turnedL (t':=s.toks) (fp:=[z,it]) (λb' u hb e=>?_) hf;simp only [zhv,zhU,or_false,not_or]at hb;exact hk b' u hb.2 e
 self:=λ_ _ _ _ _ st h=>kC st.1.choose_spec h
def zdX(K:PySem.W.Frag)(ta:TA):TI:=λσ H R=>ta σ H λvs H1=>∃a,vs=[.ref a]/\(∃xs,SqL K H1 a xs)/\R (zge K a) H1
def zdW(ta:TA):TI:=λσ H R=>ta σ H λvs H1=>∃z,vs=[.str z]/\R (zgd z) H1
section
variable{X:Cx}{e1:Expr}{ta:TA}{p pos:Pos}{elts:List Expr}{x1:Nat}{tpos:Pos}
theorem Wn(Y:Gl X "enumerate")(hm:X.mg "enumerate" = none)(ha:PA X [e1] ta)
 (hv:bootBuiltins "enumerate" = some (.type "enumerate")) (hs:starEach [e1] X.env=[(false,eval e1 X.env)]:=by rfl) :
 PI X (.Tuple elts x1 tpos) (.Call (.Name "enumerate" p) [e1] [] pos) (zdX X.K ta):=by
 intro pins s σ H R I h;refine Call_ (qJ I Y hm hv (zh2 (thn (ha pos pins s σ H _ I h) λus s1 hZ=>?_) (by rw [hs];rfl) rfl));obtain⟨vs,H1,z,r1,q1⟩:=hZ;obtain⟨a,rfl,⟨xs,a5⟩,q⟩:=q1;obtain⟨w1,rfl,a6⟩:=kh r1;cases a6;obtain⟨a8,a9,p1,z1⟩:=z.list a5;refine call_enumerate_list p1.isList λg b1 b2 b3 b4=>kC (s:={s1 with heap:=g}) b1 ?_;refine⟨_,[s1.heap.objs.size+1,s1.heap.objs.size],_,_,H1,rfl,z.kept (t':=s1.toks) b4,Xp (ziW (zir _)),⟨⟨_,b1⟩,b2⟩,λc J=>?_,q⟩;have O:s1.heap.objs.size<=c:=by
  simp only [zhv,zhU,or_false]at J;rcases J with rfl | rfl
  ·exact zh8 _ _
  ·exact zhn _
 exact z.fpOk O (z.hok.fresh O)
theorem Wm(hg:Gl X "enumerate")(hm:X.mg "enumerate" = none)(ha:PA X [e1] ta)
 (hv:bootBuiltins "enumerate" = some (.type "enumerate")) (hs:starEach [e1] X.env=[(false,eval e1 X.env)]:=by rfl) :
 PI X (.Tuple elts x1 tpos) (.Call (.Name "enumerate" p) [e1] [] pos) (zdW ta):=by
 intro pins s σ H R I h;refine Call_ (qJ I hg hm hv (zh2 (thn (ha pos pins s σ H _ I h) λus s1 hZ=>?_) (by rw [hs];rfl) rfl));obtain⟨vs,H1,J,r1,q1⟩:=hZ;obtain⟨z,rfl,q⟩:=q1;obtain⟨w1,rfl,a6⟩:=kh r1;obtain⟨t,rfl⟩:=a6;refine call_enumerate_str λg b1 b2 b3 b4=>kC (s:={s1 with heap:=g}) b1 ?_;refine⟨_,[s1.heap.objs.size+1,s1.heap.objs.size],_,_,H1,rfl,J.kept (t':=s1.toks) b4,Xo z t (ziW (zir _)),⟨⟨_,b1⟩,b2⟩,λc O=>?_,q⟩;have Y:s1.heap.objs.size<=c:=by
  simp only [zhv,zhU,or_false]at O;rcases O with rfl | rfl
  ·exact zh8 _ _
  ·exact zhn _
 exact J.fpOk Y (J.hok.fresh Y)
end
end L2
namespace DL
open PySem PySem.Spec PyProof.Rows L2
theorem Zu(z:Str):(qe z).length=z.cps.size:=by simp [qe]
theorem VU(z:Str){i c:Nat}(h:z.cps[i]? = some c):(qe z)[i]? = some (.str ⟨#[c]⟩):=by simp [qe,h]
theorem Xj{K:PySem.W.Frag}{H0 Hs:Hp}(z:Str):Walk K H0 Hs (zgd z) (qT (qe z)):=by
 have I:(qT (qe z)).length=z.cps.size:=by simp [qT,Zu]
 refine⟨λi H1 s hi=>?_,λH1 s=>?_,λi H1 x H1' s hi y=>?_⟩
 ·rw [I]at hi;exact hi
 ·rw [I];exact rfl
 ·obtain⟨p,c,rfl,J,rfl,O⟩:=y
  refine⟨.tup [.int i,.str ⟨#[c]⟩],?_,λG0 s1 s2=>⟨upd G0 p (.tup [.int i,.str ⟨#[c]⟩]),Ext.alloc s2 J _,?_⟩⟩
  ·rw [I]at hi
   unfold qT;rw [zhz,ziX (by rw [Zu];exact hi),zhF,VU z O];rfl
  ·exact qb (SqT.of zv) (Reps.cons (show V.int i = .int i from rfl) (Reps.cons (show V.str ⟨#[c]⟩ = .str ⟨#[c]⟩from rfl) Reps.nil))
theorem Xk{K:PySem.W.Frag}{H0 Hs:Hp}{a:Addr}{xs:List V}{ds:List D}(h:SqL K Hs a xs)(r:Reps K H0 ds xs):Walk K H0 Hs (zge K a) (qT ds):=by
 have O:=r.length;have Y:(qT ds).length=ds.length:=by simp [qT]
 refine⟨λi H1 s hi=>?_,λH1 s=>?_,λi H1 x H1' s hi y=>?_⟩
 ·exact⟨xs,s.seq h,by omega⟩
 ·exact⟨xs,s.seq h,by omega⟩
 ·obtain⟨p,u,rfl,z,rfl,I⟩:=y
  obtain⟨d,hd,J⟩:=r.getV (I xs (s.seq h));refine⟨.tup [.int i,d],?_,λG0 s1 s2=>⟨upd G0 p (.tup [.int i,u]),Ext.alloc s2 z _,?_⟩⟩
  ·unfold qT
   rw [zhz,ziX ⋯,zhF,hd];rfl
  ·exact qb (SqT.of zv) (Reps.cons (show V.int i = .int i from rfl) (Reps.cons ((J.mono s1).mono (zK (zS s2 z) _)) Reps.nil))
section
variable{X:Cx}{sc:Scope}{N L:List Str}{k:Nat}{a b e:Expr}{pos p p2:Pos}{f fa fb:CO D}
theorem JN{elts:List Expr}{x1:Nat}{tpos:Pos}(h:SX X sc N L k)(c:xT sc "enumerate" = true)(z:X.mg "enumerate" = none)(ha:PV X a f)(J:starEach [a] X.env=[(false,eval a X.env)]:=by rfl) :
 PIF X (.Tuple elts x1 tpos) (.Call (.Name "enumerate" p) [a] [] pos) (qp f):=
 ZS (Wm (h.gl c).1 z (zF ha jp J) boot_enumerate J) λσ H R Y=>by
  obtain⟨H0,γ,ds,rc,I,q⟩:=Y;obtain⟨d,e0,I⟩:=bind_some I;cases d with
  | str z=>
   by_cases O:ja z=true
   ·have I:(if ja z=true then some (qT (qe z))else none)=some ds:=I
    rw [if_pos O]at I;cases I;exact⟨H0,γ,_,rc,e0,λv H' H0' x r=>⟨z,by rw [show v = .str z from r],q _ H' H0' x (Xj z)⟩⟩
   ·have I:(if ja z=true then some (qT (qe z))else none)=some ds:=I
    rw [if_neg O]at I;cases I
  | _=>cases I
theorem zbx{elts:List Expr}{x1:Nat}{tpos:Pos}(h:SX X sc N L k)(c:xT sc "enumerate" = true)(z:X.mg "enumerate" = none)(ha:PV X a f)(J:starEach [a] X.env=[(false,eval a X.env)]:=by rfl) :
 PIF X (.Tuple elts x1 tpos) (.Call (.Name "enumerate" p) [a] [] pos) (yQ f):=
 ZS (Wn (h.gl c).1 z (zF ha jp J) boot_enumerate J) λσ H R Y=>by
  obtain⟨H0,γ,ds,rc,I,q⟩:=Y;obtain⟨d,e0,I⟩:=bind_some I;cases d with
  | lst es=>
   cases I;refine⟨H0,γ,_,rc,e0,λv H' H0' x r=>?_⟩;obtain⟨a1,xs,rfl,O,g2⟩:=Ys r;exact⟨a1,rfl,⟨xs,x.sub.seq O⟩,q _ H' H0' x (Xk O g2)⟩
  | _=>cases I
theorem zbn(ha:PV X a fa)(J:PV X b fb):PV X (.BinOp a .Add b pos) (V0 fa fb):=
 jK (zby XO ha J) λσ H Q O=>by
  obtain⟨H0,γ,d,rc,z,q⟩:=O;obtain⟨x,e1,z⟩:=bind_some z;obtain⟨y,e2,z⟩:=bind_some z;cases x with
  | str u=>
   cases y with
   | str w=>
    by_cases I:ja u=true/\ja w=true
    ·have z:(if ja u=true/\ja w=true then some (D.str (u++w))else none)=some d:=z
     rw [if_pos I]at z;cases z;refine⟨H0,γ,_,rc,e1,λv1 H1 Y x1 r1=>⟨Y,γ,_,rc.ext x1,e2,λv2 H2 a1 x2 r2=>⟨u,w,r1,r2,?_,q _ H2 a1 (x1.trans x2) rfl⟩⟩⟩;have h1:=wI I.1;have h2:=wI I.2;have:2000<=sizeLine:=by decide
     omega
    ·have z:(if ja u=true/\ja w=true then some (D.str (u++w))else none)=some d:=z
     rw [if_neg I]at z;cases z
   | _=>cases z
  | _=>cases z
end
end DL
namespace DL
open PySem L2 PyProof.Rows
open PySem.W (KasT kas_sort kas_asc kas_desc kas_tail3 kas_descPart kas_count kas_place kas_bin kas_rev)
def Good{α:Type}(n:Nat)(P:α->Prop):KasT α->Prop
 | .ret a=>P a
 | .ask i j k=>i<n/\j<n/\∀b,Good n P (k b)
theorem Good.mono{α:Type}{n:Nat}{P z:α->Prop}(h : ∀a,P a->z a) : ∀{t:KasT α},Good n P t->Good n z t
 | .ret a,g=>h a g
 | .ask i j k,g=>⟨g.1,g.2.1,λb=>(g.2.2 b).mono h⟩
theorem Good.bind{α β:Type}{n:Nat}{P:α->Prop}{z:β->Prop}{f:α->KasT β}(I : ∀a,P a->Good n z (f a)) : ∀{t:KasT α},Good n P t->Good n z (t.bind f)
 | .ret a,g=>I a g
 | .ask i j k,g=>⟨g.1,g.2.1,λb=>(g.2.2 b).bind I⟩
theorem Good.run{α:Type}{n:Nat}{P:α->Prop}{lt:Nat->Nat->Bool} : ∀{t:KasT α},Good n P t->P (zcX lt t)
 | .ret a,g=>g
 | .ask i j k,g=>(g.2.2 _).run
def Pm(n:Nat)(p:Array Nat):Prop:=p.toList.Perm (zhf n)
theorem Pm.lt{n:Nat}{p:Array Nat}(h:Pm n p)(hn:0<n)(i:Nat):p.getD i 0<n:=by
 by_cases hi:i<p.size
 ·have e:p.getD i 0=p[i]:=by simp [Array.getD,hi]
  rw [e];exact zhp.mp (h.mem_iff.mp ⋯)
 ·have e:p.getD i 0=0:=by simp [Array.getD,hi]
  rw [e];exact hn
theorem Pm.rev{n:Nat}{p:Array Nat}(h:Pm n p)(i j:Nat):Pm n (kas_rev p i j):=(Array.perm_iff_toList_perm.mp (mirror_perm p i j _)).trans h
theorem Pm.bub{n:Nat}{p:Array Nat}(h:Pm n p)(i j:Nat):Pm n (bubble p i j):=(Array.perm_iff_toList_perm.mp (bubble_perm p i j)).trans h
theorem wY{n:Nat}{p:Array Nat}(h:Pm n p)(hn:0<n) : ∀f m,Good n (λ_=>True) (kas_asc p f m)
 | 0,m=>trivial
 | f+1,m=>⟨h.lt hn _,h.lt hn _,λb=>by
  cases b with
  | true=>exact trivial
  | false=>exact wY h hn f (m+1)⟩
theorem kE{n:Nat}(hn:0<n) : ∀f p m q,Pm n p->Good n (λr=>Pm n r.1) (kas_desc f p m q)
 | 0,p,m,q,h=>h
 | f+1,p,m,q,h=>⟨h.lt hn _,h.lt hn _,λb=>by
  cases b with
  | true=>
   show Good n _ (if q>0 then _ else _);split
   ·exact kE hn f _ _ _ (h.rev _ _)
   ·exact kE hn f _ _ _ h
  | false=>exact⟨h.lt hn _,h.lt hn _,λd=>by
   cases d with
   | true=>exact h
   | false=>exact kE hn f _ _ _ h⟩⟩
theorem Z5{n:Nat}(hn:0<n)(m r:Nat){p:Array Nat}(h:Pm n p):Good n (λr=>Pm n r.2) (kas_tail3 m r p):=by
 unfold kas_tail3;refine Good.bind (P:=λ_=>True) (λa _=>?_) (wY (h.rev _ _) hn _ _);exact(show Pm n (kas_rev p 0 m)from h.rev _ _)
theorem Z7{n:Nat}(hn:0<n)(m r:Nat){p:Array Nat}(h:Pm n p):Good n (λr=>Pm n r.2) (kas_descPart m r p):=
 (kE hn _ _ _ _ h).bind λa ha=>by
   show Good n _ (if a.2.2>0 then _ else _);split
   ·exact Z5 hn _ _ (Pm.rev ha _ _)
   ·exact Z5 hn _ _ ha
theorem X5{n:Nat}(hn:0<n)(r:Nat){p:Array Nat}(h:Pm n p):Good n (λr=>Pm n r.2) (kas_count r p):=
 (wY h hn _ _).bind λm _=>by
   show Good n _ (if (m==r)=true then _ else if m>1 then _ else _);split
   ·exact h
   ·split
    ·exact⟨h.lt hn _,h.lt hn _,λc=>by
      cases c with
      | true=>exact h
      | false=>exact Z7 hn _ _ (h.rev _ _)⟩
    ·exact Z7 hn _ _ h
theorem k5{n:Nat}(hn:0<n){p:Array Nat}(h:Pm n p)(k:Nat) : ∀f l r,Good n (λ_=>True) (kas_place p k f l r)
 | 0,l,r=>trivial
 | f+1,l,r=>by
  show Good n _ (if l>=r then _ else _);split
  ·exact trivial
  ·exact⟨h.lt hn _,h.lt hn _,λc=>by
    cases c with
    | true=>exact k5 hn h k f _ _
    | false=>exact k5 hn h k f _ _⟩
theorem QY{n:Nat}(hn:0<n) : ∀f p k,Pm n p->Good n (Pm n) (kas_bin f p k)
 | 0,p,k,h=>h
 | f+1,p,k,h=>(k5 hn h k k 0 k).bind λl _=>QY hn f _ _ (h.bub _ _)
theorem Z6{n:Nat}(hn:0<n):Good n (Pm n) (kas_sort n):=
 (X5 hn n (show Pm n (zkE (zhf n))from List.Perm.refl _)).bind λr z=>by
   show Good n _ (if r.1<n then _ else _);split
   ·exact QY hn _ _ _ z
   ·exact z
theorem ql(ps:List (Int×Int)):(qv ps).Perm (zhf ps.length):=by
 unfold qv;split
 ·exact List.Perm.refl _
 ·exact(Z6 ⋯).run
theorem ZU : ∀{ds:List D} {ps:List (Int×Int)},yd ds=some ps->ps.length=ds.length
 | [],ps,h=>by cases h;rfl
 | d::ds,ps,h=>by
  unfold yd at h;cases e1:Wq d with
  | none=>rw [e1]at h;cases h
  | some x=>
   cases e2:yd ds with
   | none=>rw [e1,e2]at h;cases h
   | some l=>rw [e1,e2]at h;cases h;simp [ZU e2]
theorem xR{α:Type}(d:α) : ∀ds:List α,(zhf ds.length).map (λi=>ds.getD i d)=ds:=λds=>by
 apply zjb;intro i;by_cases hi:i<ds.length
 ·simp [hi]
 ·simp [hi,Nat.not_lt.mp hi]
end DL
namespace DL
open PySem PySem.Spec PyProof.Rows L2
open PySem.W (KasT kas_sort kas_ask kat_run kat_snds kat_lt kat_cons kat_no kat_yes kat_nil kat_go kat_one kat_kind KatTups KatGo)
theorem YH{α:Type}{n:Nat}{P:α->Prop}{lt:Nat->Nat->Bool}{z:Nat->Nat->(Bool->Shared->Prop)->Shared->Prop}{s:Shared}(I : ∀i j C,i<n->j<n->C (lt i j) s->z i j C s){Q:α->Shared->Prop} :
 ∀{t:KasT α},Good n P t->Q (zcX lt t) s->t.kasWp z Q s
 | .ret _,_,q=>q
 | .ask i j k,g,q=>I i j _ g.1 g.2.1 (YH I (g.2.2 _) q)
def TupAt2(h:Heap)(v:Value)(k l:Int):Prop:=∃x o xs m t u,v = .ref x/\h.get? x=some o/\o.cls = .type "tuple"/\o.data = .seq xs m/\xs.toList=[.int k t,.int l u]
theorem TupAt2.keep{h h':Heap}{v:Value}{k l:Int}(a:TupAt2 h v k l)(e : ∀b o,h.get? b=some o->o.cls = .type "tuple"->h'.get? b=some o):TupAt2 h' v k l:=by
 obtain⟨x,o,xs,m,t,u,h1,h2,z,I,J⟩:=a;exact⟨x,o,xs,m,t,u,h1,e x o h2 z,z,I,J⟩
theorem TupAt2.one{h:Heap}{v:Value}{k l:Int}(a:TupAt2 h v k l):zeo h v k:=by
 obtain⟨x,o,xs,m,t,u,h1,h2,z,I,J⟩:=a;exact⟨x,o,xs,m,t,h1,h2,z,I,by rw [<- Array.getElem?_toList,J];rfl⟩
section
variable{prog:Program}{w:World}{A:Around}{E:Value->Shared->Prop}{s:Shared}
theorem vf{a:Addr}{vs:List Value}{ps:List (Int×Int)}{n:Nat}{P:PySem.Fin->Shared->Prop}(ho:s.heap.get? a=some (seqObj "list" vs.toArray n))(a8:ps.length=vs.length)(ah:vs.length<64)
 (hT : ∀i (hi:i<vs.length),TupAt2 s.heap vs[i] (ps.getD i (0,0)).1 (ps.getD i (0,0)).2)
 (h:P (.done (.ret .none)) {s with heap:=sortedHeap s.heap a vs (zkE ((qv ps).map λi=>vs.getD i zh7))}) :
 wpAny (model prog w) A (Builtin.«list.sort» ⟨[.ref a],[]⟩) P E s:=by
 rw [list_sort_plain];have ha:a<s.heap.objs.size:=zhu ho;have hz:vs.length<=sizeLine:=by rw [zj7];omega
 refine zhb (listItems_at ho rfl ?_);refine zhb (listUpdate_at ho rfl ?_ (by rw [zho];exact hz) (zik _));obtain⟨e1,aa⟩ : ∃e1,(s.heap.update a (ziB λ_=>#[])).get? a=some (seqObj "list" #[] e1):=⟨_,get?_update_seq ho (λ_=>#[])⟩;refine zhb (seqEpoch_at aa rfl ?_);refine zhb (wpAny_newTuple ?_ (by show vs.length<=_;exact hz));refine zhb (wpAny_newList ?_ (zik _));refine ziv ?_;have a5:(((s.heap.update a (ziB λ_=>#[])).push (seqObj "tuple" vs.toArray 0)).push (seqObj "list" #[] 0)).get? a=some (seqObj "list" #[] e1):=by
  rw [zjS _ _ _ (by rw [size_push',zkI];exact zhG (zhY ha)),zjS _ _ _ (by rw [zkI];exact zhG ha)];exact aa
 show wpAny (model prog w) A _ P E {s with heap:=((s.heap.update a (ziB λ_=>#[])).push (seqObj "tuple" vs.toArray 0)).push (seqObj "list" #[] 0)};dsimp only;have hsz:vs.toArray.size=vs.length:=by simp
 by_cases h2:vs.toArray.size<2
 ·rw [if_pos h2,if_pos h2]
  refine zhb (zhi ?_);rw [StateT.run_pure];refine zhb (zhi ?_);dsimp only;refine zhb (seqEpoch_at a5 rfl ?_);have e7:Array.map (λx=>x.snd) (arrOf (SortSt.mk' general' (vs.toArray.zip vs.toArray) #[] 7 none))=vs.toArray:=by
   show Array.map (λx=>x.snd) (vs.toArray.zip vs.toArray)=_;apply Array.ext';simp [Array.toList_map,Array.toList_zip];rw [List.map_snd_zip (zhn _)]
  have ev:(qv ps).map (λi=>vs.getD i zh7)=vs:=by
   unfold qv;rw [if_pos ⋯,a8];exact xR _ _
  rw [ev]at h;refine zhb (listUpdate_at a5 rfl ?_ (zik _) (by rw [e7,hsz];exact zkD hz));simp only [bne_self_eq_false,zkt,if_false];have e8:({s with heap:=(((s.heap.update a (ziB λx=>#[])).push (seqObj "tuple" vs.toArray 0)).push (seqObj "list" #[] 0)).update a (ziB λx=>Array.map (λx=>x.snd) (arrOf (SortSt.mk' general' (vs.toArray.zip vs.toArray) #[] 7 none)))}:Shared) = {s with heap:=sortedHeap s.heap a vs vs.toArray}:=by
   rw [e7];rfl
  refine zhi ?_;rw [<- e8]at h;exact h
 ·rw [if_neg h2,if_neg h2]
  have n2:2<=vs.length:=by rw [<- hsz];omega
  have keep : ∀b o,s.heap.get? b=some o->o.cls = .type "tuple"->(((s.heap.update a (ziB λ_=>#[])).push (seqObj "tuple" vs.toArray 0)).push (seqObj "list" #[] 0)).get? b=some o:=λb o e hc=>by
   have an:b≠a:=λz=>by rw [z,ho]at e;cases e;exact absurd hc (by show ¬(zjg "list" = zjg "tuple");decide)
   exact zhc _ (zhc _ ((Heap.get?_update_ne _ _ _ _ an).trans e))
  generalize hg:((s.heap.update a (ziB λ_=>#[])).push (seqObj "tuple" vs.toArray 0)).push (seqObj "list" #[] 0)=g at a5 keep ⊢;have a9 : ∀i (hi:i<vs.length),TupAt2 g vs[i] (ps.getD i (0,0)).1 (ps.getD i (0,0)).2:=λi hi=>(hT i hi).keep keep;obtain⟨fs,f1,f2,f3⟩:=zaz (ks:=λi=>(ps.getD i (0,0)).1) λi hi=>(a9 i hi).one;refine zhb (kat_kind (T:=zjg "int") (s:={s with heap:=g}) f1 ⋯ (λv hv=>?_) ⋯ ?_)
  ·obtain⟨k,t,rfl⟩:=f3 v hv
   exact PySem.W.Looks.of_pure rfl
  have ep:(zcX (λi j=>zeA (ps.getD i (0,0)) (ps.getD j (0,0))) (kas_sort vs.length)).toList=qv ps:=by
   unfold qv;rw [if_neg ⋯,a8]
  refine zhb (ziZ (kat_run (E:=E) (ks:=vs) (Q:=λa7 s'=>∃p:Array Nat,arrOf a7=p.map (PySem.W.kas_item (vs.toArray.zip vs.toArray))/\failedOf a7=none/\p.toList=qv ps/\s' = {s with heap:=g})
   (G:=λp s'=>p.toList=qv ps/\s' = {s with heap:=g})
   rfl n2 ah (λp a7 s' a1 a2 a3 a4=>⟨p,a2,a3,a4.1,a4.2⟩) (YH (lt:=λi j=>zeA (ps.getD i (0,0)) (ps.getD j (0,0))) (λi j C hi hj I=>?_) (Z6 ⋯) ⟨ep,rfl⟩)) ?_ λ_ _ e=>e)
  ·show wpAny _ _ (keyLt' _ (vs.getD i zh7) (vs.getD j zh7)) C _ _
   rw [show vs.getD i zh7=vs[i]by simp [hi],show vs.getD j zh7=vs[j]by simp [hj]];obtain⟨x,ox,xs,m,t,u,e1,e2,e3,e4,e5⟩:=a9 i hi;obtain⟨y,oy,ys,m',t',u',d1,d2,d3,d4,d5⟩:=a9 j hj;rw [e1,d1];refine kat_lt e2 e4 d2 d4 ?_;have b0:xs.size=2:=by rw [<- ziK,e5];rfl
   have b9:ys.size=2:=by rw [<- ziK,d5];rfl
   rw [e5,d5,b0,b9,List.zip_cons_cons,List.zip_cons_cons];unfold zeA at I;generalize ps.getD i (0,0)=O at I ⊢;generalize ps.getD j (0,0)=Y at I ⊢;refine kat_cons (SeqAt.EqAt.int_int O.1 t Y.1 t' _ _ _ _ ?_);refine kat_go (λJ=>?_) λJ=>?_
   ·have J:O.1=Y.1:=by simpa using J
    rw [if_pos J]at I;refine kat_yes (kat_cons (SeqAt.EqAt.int_int O.2 u Y.2 u' _ _ _ _ (kat_go (λhd=>?_) λhd=>?_)))
    ·have hd:O.2=Y.2:=by simpa using hd
     refine kat_yes (kat_nil ?_);rw [show decide (O.2<Y.2)=false by rw [hd];simp]at I;exact I
    ·exact kat_no (kat_one _ _ (lt_int I))
   ·have J:O.1≠Y.1:=by simpa using J
    rw [if_neg J]at I;exact kat_no (oneLt_int I)
  rintro⟨⟨⟩,a7⟩ s' ⟨p,ba,hf,hp,rfl⟩;dsimp only;have bd:=kat_snds rfl ba;have be:((qv ps).map λi=>vs.getD i zh7).length=vs.length:=by
   rw [zhB,(ql ps).length_eq,zhX,a8]
  rw [bd,hp];refine zhb (seqEpoch_at a5 rfl ?_);refine zhb (listUpdate_at a5 rfl ?_ (zik _) (by rw [zho];show((qv ps).map λi=>vs.getD i zh7).length<=_;rw [be];exact zkD hz));rw [hf];simp only [bne_self_eq_false,zkt,if_false];subst hg;exact zhi h
theorem Zt{l:Addr}{vs:List Value}{ps:List (Int×Int)}{Q:Value->Shared->Prop}(O:s.heap.IsList l vs.toArray)(Y:ps.length=vs.length)(a0:vs.length<64)
 (hT : ∀i (hi:i<vs.length),TupAt2 s.heap vs[i] (ps.getD i (0,0)).1 (ps.getD i (0,0)).2)
 (h:Q (.ref (s.heap.objs.size+1)) {s with heap:=sortedAll s.heap vs (zkE ((qv ps).map λi=>vs.getD i zh7))}) :
 wpAny (model prog w) A (call (.builtin "sorted") [.ref l]) Q E s:=by
 have I:vs.length<=sizeLine:=by rw [zj7];omega
 refine Calls.call_function_entry kind_sorted plain_sorted entry_sorted (args_sorted1 _) ?_;unfold Builtin.«sorted»;refine zhb (m:=checkCount "sorted" 1 1 _) (zhi ?_);refine zhb (collect_list O ?_ I);refine zhb (wpAny_newList ?_ I);have hsz:((s.heap.push (seqObj "list" #[] 0)).update s.heap.objs.size (ziB (· ++ vs.toArray))).objs.size=s.heap.objs.size+1:=by
  rw [zkI,size_push']
 have J:(((s.heap.push (seqObj "list" #[] 0)).update s.heap.objs.size (ziB (· ++ vs.toArray))).push (seqObj "list" vs.toArray 0)).get? (s.heap.objs.size+1)=some (seqObj "list" vs.toArray 0):=by
  rw [<- hsz];exact zhw _ rfl
 have keep : ∀b o,s.heap.get? b=some o->(((s.heap.push (seqObj "list" #[] 0)).update s.heap.objs.size (ziB (· ++ vs.toArray))).push (seqObj "list" vs.toArray 0)).get? b=some o:=λb o q=>by
  have z:b<s.heap.objs.size:=zhu q;rw [zjS _ _ _ (by rw [hsz];exact zhG (zhY z)),Heap.get?_update_ne _ _ _ _ (zhG z),zjS _ _ _ (zhG z)];exact q
 show wpAny _ _ _ _ _ {s with heap:=((s.heap.push (seqObj "list" #[] 0)).update s.heap.objs.size (ziB (· ++ vs.toArray))).push (seqObj "list" vs.toArray 0)};rw [hsz];refine zhb (ziv (ziI slot_list_sort ⟨_,J,rfl⟩ entry_list_sort (vf (s:={s with heap:=((s.heap.push (seqObj "list" #[] 0)).update s.heap.objs.size (ziB (· ++ vs.toArray))).push (seqObj "list" vs.toArray 0)}) J Y a0 (λi hi=>(hT i hi).keep λb o e _=>keep b o e) ⟨_,rfl,?_⟩) (args_list_sort _)));exact zhi ⟨_,rfl,h⟩
end
section
variable{X:Cx}
def zcZ(K:PySem.W.Frag):List V->Hp->VK->Prop:=λxs H Q=>∃l ys ps,xs=[.ref l]/\SqL K H l ys/\ps.length=ys.length/\ys.length<64/\
 (∀i (hi:i<ys.length),∃a,ys[i]=V.ref a/\SqT K H a [.int ((ps:List (Int×Int)).getD i (0,0)).1,.int (ps.getD i (0,0)).2])/\∀p,H p=none->Q (.ref p) (upd H p (.lst ((qv ps).map λi=>ys.getD i .non)))
theorem Jg:vB X (.builtin "sorted") (zcZ X.K):=by
 intro pins s σ H vs us Q I rv h;obtain⟨l,ys,ps,rfl,hq,a3,aj,hT,a8⟩:=h;obtain⟨u,rfl,ru⟩:=kh rv;cases ru;obtain⟨z,r,pl,hz⟩:=I.list hq;have ak:=r.length;refine Zt (ps:=ps) pl.isList ⋯ ⋯ (λi hi=>?_) ?_
 ·obtain⟨a,e1,e2⟩:=hT i ⋯
  obtain⟨v,J,g2⟩:=r.get (i:=i) (x:=V.ref a) (by rw [zhe ⋯,e1]);have hv:z[i]=v:=by rw [zhe hi]at J;exact zhM J
  rw [hv];cases g2;obtain⟨ac,r2,⟨o,ho,hc,n,hd⟩,_⟩:=I.tuple e2;obtain⟨O,Y,rfl,q1,q2⟩ : ∃O Y,ac=O::Y/\RelV (.int (ps.getD i (0,0)).1) O/\Vals [.int (ps.getD i (0,0)).2] Y:=by
   cases r2 with
   | cons q1 q2=>exact⟨_,_,rfl,q1,q2⟩
  obtain⟨v2,rfl,q3⟩:=kh q2;obtain⟨t,rfl⟩:=q1;obtain⟨u,rfl⟩:=q3;exact⟨a,o,_,n,t,u,rfl,ho,hc,hd,rfl⟩
 ·obtain⟨e,he⟩:=sortedAll_at s.heap z (zkE ((qv ps).map λi=>z.getD i zh7))
  have a4:((qv ps).map λi=>ys.getD i V.non).length=ys.length:=by rw [zhB,(ql ps).length_eq,zhX,a3]
  refine⟨.ref (s.heap.objs.size+1),_,I.laid (t':=s.toks) (o:= .lst ((qv ps).map λi=>ys.getD i .non)) (λb o q=>sortedAll_old q) (zkm _) ?_,rfl,a8 _ (I.hok.fresh (zkm _))⟩;refine⟨by rw [a4];exact hz,(qv ps).map λi=>z.getD i zh7,e,?_,he⟩;have a2 : ∀i∈qv ps,i<ys.length:=λi hi=>by
   have:=(ql ps).mem_iff.mp hi;rw [a3]at this;exact zhp.mp this
  generalize qv ps=o at a2;clear a4 he
  induction o with
  | nil=>exact .nil
  | cons i o ih=>
   have hi:=a2 i zhq;refine .cons ?_ (ih λj hj=>a2 j (zhs _ hj));obtain⟨v,J,g2⟩:=r.get (i:=i) (x:=ys[i]) (zhe hi);show RelV (ys.getD i V.non) (z.getD i zh7);rw [zhh,zhh,zhe hi,J];exact g2
theorem QJ : ∀{ds:List D} {ps:List (Int×Int)},yd ds=some ps->∀(i:Nat) d,ds[i]? = some d->d = .tup [.int (ps.getD i (0,0)).1,.int (ps.getD i (0,0)).2]
 | [],ps,h,i,d,hd=>by simp at hd
 | c::ds,ps,h,i,d,hd=>by
  obtain⟨k,e1,h⟩:=bind_some h;obtain⟨l,e2,h⟩:=zm h;subst h;cases i with
  | zero=>
   simp at hd;subst hd;unfold Wq at e1;split at e1
   ·cases e1;rfl
   ·cases e1
  | succ i=>simpa using QJ e2 i d (by simpa using hd)
theorem ZE{K:PySem.W.Frag}{H:Hp}{ds:List D}{xs:List V}(r:Reps K H ds xs) : ∀(o:List Nat),(∀i∈o,i<xs.length)->Reps K H (o.map λi=>ds.getD i .non) (o.map λi=>xs.getD i .non)
 | [],_=>Reps.nil
 | i::o,h=>by
  have hi:=h i zhq;obtain⟨d,hd,z⟩:=r.getV (zhe hi);refine Reps.cons ?_ (ZE r o λj I=>h j (zhs _ I));show Rep K H (ds.getD i .non) (xs.getD i .non);rw [zhh,zhh,zhe hi,hd];exact z
theorem Wg{sc:Scope}{N L:List Str}{k:Nat}{e:Expr}{pos p:Pos}{fq:CO (Sk×List D)}(h:SX X sc N L k)(c:xT sc "sorted" = true)(z:X.mg "sorted" = none)(hq:PQ X e fq)(O:starEach [e] X.env=[(false,eval e X.env)]:=by rfl) :
 PO X (.Call (.Name "sorted" p) [e] [] pos) (Zx fq):=
 jK (qP Jg (h.gl c).1 z ⋯ (zF hq jp O) ⋯ ⋯ O rfl) λσ H Q hZ=>by
  obtain⟨H0,γ,ds,rc,I,q⟩:=hZ;obtain⟨⟨kk,es⟩,e1,I⟩:=bind_some I;cases kk with
  | T=>cases I
  | L=>
   have I:Xu es=some ds:=I;unfold Xu at I;obtain⟨ps,e2,I⟩:=bind_some I;by_cases Y:es.length<64
   ·rw [if_pos Y]at I
    cases I;have af:=ZU e2;refine⟨H0,γ,.L,es,rc,e1,λa xs H' H0' ext h1 h2 r=>?_⟩;have ag:=r.length;refine⟨a,xs,ps,rfl,h1,by omega,by omega,λi hi=>?_,λl J=>?_⟩
    ·obtain⟨d,hd,rd⟩:=r.getV (zhe hi)
     have ed:=QJ e2 i d hd;subst ed;obtain⟨b,zs,eb,h3,h4⟩:=xm rd;refine⟨b,eb,?_⟩;obtain⟨y,yr,e5,h5,h6⟩:=h4.inv_cons;obtain⟨y2,aj,e6,h7,h8⟩:=h6.inv_cons;rw [h8.inv_nil]at e6;rw [e5,e6,jg h5,jg h7]at h3;exact sameT ext.sub h3
    ·refine q l _ _ H0' (ext.trans (Ext.hide ext.sub J _)) (qH ext.s1 J) (zS ext.sub J) zv ?_
     refine ZE r _ λi hi=>?_;have:=(ql ps).mem_iff.mp hi;have:=zhp.mp this;omega
   ·rw [if_neg Y]at I;cases I
end
section
variable{X:Cx}{a b c:Expr}{pos:Pos}{fa fb fc:CO D}
theorem K0{O Y:CmpOp}{r r':R2}{F G:D->D->Option D}(ho:OpR X (compareOp O) r)(a7:OpR X (compareOp Y) r')(s1:Snd X.K r F)(s2:Snd X.K r' G)(ha:PV X a fa)(hb:PV X b fb)(hc:PV X c fc)
 (hm:lastMarks [O,Y] [b,c]=false:=by with_unfolding_all rfl):PTD X (.Compare a [O,Y] [b,c] pos) (sB (yc F G fa fb fc)):=
 XH (Wc ho a7 ha hb hc hm) λσ H Q hZ=>by
  obtain⟨H0,γ,kq,rc,ac,q0⟩:=hZ;obtain⟨d,I,e9⟩:=bind_some ac;have q : ∀v H' H0',Ext H0 H H0' H'->Rep X.K H0' d v->∃k,v = .bl k/\Q k H':=λv H' H0' x rr=>by
   rw [yD e9]at rr;exact⟨kq,rr,q0 H' H0' x⟩
  obtain⟨x,e1,I⟩:=bind_some I;obtain⟨y,e2,I⟩:=bind_some I;obtain⟨k,e3,I⟩:=bind_some I;obtain⟨bb,e4,e5⟩:=bind_some e3;refine⟨H0,γ,x,rc,e1,λv1 H1 aj x1 r1=>⟨aj,γ,y,rc.ext x1,e2,λv2 H2 am J r2=>s1 am H2 v1 v2 x y bb _ J.sub (r1.mono J.s0) r2 e4 λv3 H3 a5 x3 r3=>?_⟩⟩;cases bb with
  | bl k'=>
   cases e5;refine⟨k,show v3 = .bl k from r3,?_⟩;cases k with
   | true=>
    rw [if_pos rfl];rw [if_pos rfl]at I;obtain⟨z,e6,e7⟩:=bind_some I;exact⟨a5,γ,z,((rc.ext x1).ext J).ext x3,e6,λv4 H4 av x4 r4=>s2 av H4 v2 v4 y z d _ x4.sub ((r2.mono x3.s0).mono x4.s0) r4 e7 λv5 H5 az x5 r5=>q v5 H5 az (((x1.trans J).trans x3).trans (x4.trans x5)) r5⟩
   | false=>
    rw [if_neg ⋯];rw [if_neg ⋯]at I;cases I;exact q _ H3 a5 ((x1.trans J).trans x3) rfl
  | _=>cases e5
end
end DL
namespace DL
open PySem PySem.Spec PyProof.Rows L2
def fs2(z I:V):List (Str×V):=wO "table" I (wO "p" z [])
theorem zfG(z I:V):(fs2 z I).lookup ("p" : Str)=some z:=by
 unfold fs2;rw [jS,jS,if_neg ⋯,if_pos rfl]
theorem zfF(I z:V):(fs2 I z).lookup ("table" : Str)=some z:=by
 unfold fs2;rw [jS,if_pos rfl]
theorem zfH(z I:V):(fs2 z I).lookup ("forth" : Str)=none:=by
 unfold fs2;rw [jS,jS,if_neg ⋯,if_neg ⋯];rfl
theorem yG{H:Hp}{x:Addr}{o o':HO}:upd (upd H x o) x o'=upd H x o':=by
 funext b;by_cases h:b=x
 ·subst h;rw [zv,zv]
 ·rw [zy h,zy h,zy h]
structure ClsA(K:PySem.W.Frag)(C:Addr):Prop where
 cls:Cls K C
 np:NoAttr K C "p"
 nt:NoAttr K C "table"
def yK(C:Addr):Sp:=λvs H Q _=>∃x dx z I,vs=[.ref x,z,I]/\H x=some (.ins C dx [])/\Q .non (upd H x (.ins C dx (fs2 z I)))
def spForth(K:PySem.W.Frag)(C:Addr)(F:List D->Option Res):Sp:=λvs H Q _=>∃x dx z I J H0 p t b ds,vs=[.ref x,J]/\H x=some (.ins C dx (fs2 z I))/\Same H0 H/\Rep K H0 p z/\Rep K H0 t I/\Rep K H0 b J/\F [p,t,b]=some (.own ds)/\zgG K H0 H Q (.own ds)
section
variable{P:Program}{w:World}{K:PySem.W.Frag}{mg:Str->Option Value}{base:Heap}{k:Nat}
theorem zbX{q:Str}{st:Stmt}{f C:Addr}{fd:FuncData}(J:L2.Fun K "__init__" q st f fd)(hd:vS ["self","p","table"] ["self","p","table"] st=true)(c:ClsA K C)
 (O : ∀X:Cx,X.prog=P->X.w=w->X.K=K->X.mg=mg->X.base=base->SX X (defScope st) ["self","p","table"] ["self","p","table"] k->PSs X (defBody st) (zgf (zfi X.K (ki 0) (ki 1) "p") (zfi X.K (ki 0) (ki 2) "table"))) :
 FnOk P w K mg base CX0 (k+1) f fd ["self","p","table"] (yK C):=by
 have S:=qx hd;refine J.ok S (λvs H Q E h=>by obtain⟨x,dx,z,I,rfl,_⟩:=h;rfl) λcdv A outer s H vs Q E Y a0=>⟨_,O _ rfl rfl rfl rfl rfl ⟨rfl,rfl,S.nd,rfl,Y,λ_ _=> .inl rfl⟩,?_⟩;obtain⟨x,dx,z,I,rfl,hx,q⟩:=a0;refine⟨z,rfl,.ref x,rfl,x,C,dx,[],rfl,hx,c.cls,c.np,by decide,?_⟩;refine⟨I,rfl,.ref x,rfl,x,C,dx,wO "p" z [],rfl,zv,c.cls,c.nt,by show 1<1000;decide,?_⟩;rw [yG];exact q
theorem Q1{q:Str}{st:Stmt}{f C:Addr}{fd:FuncData}{F:List D->Option Res}(O:L2.Fun K "forth" q st f fd)(hd:vS ["self","base"] ["self","base"] st=true)(c:ClsA K C)
 (Y : ∀X:Cx,X.prog=P->X.w=w->X.K=K->X.mg=mg->X.base=base->SX X (defScope st) ["self","base"] ["self","base"] k->
   PSs X (defBody st) (ze5 (VQ (spF X.K 3 F) [] E0 (yk (zfb X.K (ki 0) "p") (yk (zfb X.K (ki 0) "table") (yk (ki 1) zag)))))) :
 FnOk P w K mg base CX0 (k+1) f fd ["self","base"] (spForth K C F):=by
 have S:=qx hd;refine O.ok S (λvs H Q E h=>by obtain⟨x,dx,z,I,J,H0,p,t,b,ds,rfl,_⟩:=h;rfl) λcdv A outer s H vs Q E hr a1=>⟨_,Y _ rfl rfl rfl rfl rfl ⟨rfl,rfl,S.nd,rfl,hr,λ_ _=> .inl rfl⟩,?_⟩;obtain⟨x,dx,z,I,J,H0,p,t,b,ds,rfl,hx,h0,r1,r2,r3,hF,a5⟩:=a1;refine⟨.ref x,rfl,x,C,dx,_,z,rfl,hx,c.cls,c.np,zfG z I,.ref x,rfl,x,C,dx,_,I,rfl,hx,c.cls,c.nt,zfF z I,J,rfl,?_⟩;exact⟨H0,[p,t,b],.own ds,h0,Reps.cons r1 (Reps.cons r2 (Reps.cons r3 Reps.nil)),rfl,hF,a5⟩
def spBy(CR CL:Addr):Sp:=λvs H Q _=>∃z s I,vs=[z,.str s,I]/\∀x dx,H x=none->H dx=none->dx≠x->Q (.ref x) (upd (upd H dx (.own x)) x (.ins (if s=("r" : Str)then CR else CL) dx (fs2 z I)))
theorem zfJ{x:Str}{st:Stmt}{f CR CL:Addr}{fd:FuncData}(O:L2.Fun K x x st f fd)(hd:vS ["p","way","table"] ["p","way","table"] st=true)
 (Y : ∀X:Cx,X.prog=P->X.w=w->X.K=K->X.mg=mg->X.base=base->SX X (defScope st) ["p","way","table"] ["p","way","table"] k->
   PSs X (defBody st) (ze5 (L2.tIf (zaX (tOp rEq (ki 1) (tC (.str "r")))) (VP CR (yK CR) [] E0 (yk (ki 0) (yk (ki 2) zag))) (VP CL (yK CL) [] E0 (yk (ki 0) (yk (ki 2) zag)))))) :
 FnOk P w K mg base CX0 (k+1) f fd ["p","way","table"] (spBy CR CL):=by
 have S:=qx hd;refine O.ok S (λvs H Q E h=>by obtain⟨I,s,J,rfl,_⟩:=h;rfl) λcdv A outer s H vs Q E hr a1=>⟨_,Y _ rfl rfl rfl rfl rfl ⟨rfl,rfl,S.nd,rfl,hr,λ_ _=> .inl rfl⟩,?_⟩;obtain⟨I,z,J,rfl,q⟩:=a1;have go : ∀C,(∀x dx,H x=none->H dx=none->dx≠x->Q (.ref x) (upd (upd H dx (.own x)) x (.ins C dx (fs2 I J))))->VP C (yK C) [] E0 (yk (ki 0) (yk (ki 2) zag)) (start ["p","way","table"] [I,.str z,J]) H Q:=λC q=>by
  refine⟨I,rfl,J,rfl,λx dx hx a2 a3=>⟨x,dx,I,J,rfl,zv,rfl,?_⟩⟩;rw [yG];exact q x dx hx a2 a3
 refine⟨.str z,rfl,rfl,_,rfl,?_⟩;show(if decide (V.str z=V.str "r")=true then _ else _);by_cases h:z=("r" : Str)
 ·rw [if_pos (decide_eq_true (by rw [h]))]
  refine go CR λx dx a b c=>?_;have:=q x dx a b c
  rwa [if_pos h]at this
 ·rw [if_neg (by simpa using h)]
  refine go CL λx dx a b c=>?_;have:=q x dx a b c
  rwa [if_neg h]at this
end
section
variable{X:Cx}{sc:Scope}{N L:List Str}{k j jr jl:Nat}{a b c d:Expr}{p pos1 apos pos2:Pos}{fa fb fc fd:CO D}{F G:List D->Option Res}{x:Str}{CR CL:Addr}
structure FnBy(P:Program)(w:World)(K:PySem.W.Frag)(mg:Str->Option Value)(base:Heap)(j:Nat)(x:Str)(CR CL:Addr):Prop where
 ex : ∃(f:Addr) (fd:FuncData),FnOk P w K mg base CX0 j f fd ["p","way","table"] (spBy CR CL)/\mg x=some (.ref f)/\PySem.W.keepIn K (.ref f)=true/\Binds K fd ["p","way","table"] []
structure MethAt(P:Program)(w:World)(K:PySem.W.Frag)(mg:Str->Option Value)(base:Heap)(j:Nat)(C:Addr)(F:List D->Option Res):Prop where
 cls:ClsA K C
 ex : ∃(f:Addr) (fd:FuncData),Meth K C "forth" f/\FnOk P w K mg base CX0 j f fd ["self","base"] (spForth K C F)/\Binds K fd ["self","base"] []
theorem Wh(an:FnBy X.prog X.w X.K X.mg X.base j x CR CL)(hR:MethAt X.prog X.w X.K X.mg X.base jr CR F)(hL:MethAt X.prog X.w X.K X.mg X.base jl CL G)(h1:j<=k)(h2:jr<=k)(h3:jl<=k)(h:SX X sc N L k)(cx:xT sc x=true)
 (ha:PV X a fa) (hb:PV X b fb) (hc:PV X c fc) (hd:PV X d fd)
 (he:starEach [a,b,c] X.env=(false,eval a X.env)::starEach [b,c] X.env:=by rfl) (au:(backTo pos1 (starEach [b,c] X.env)).any (·.1)=false:=by rfl)
 (av:starEach [b,c] X.env=(false,eval b X.env)::starEach [c] X.env:=by rfl) (aw:starEach [c] X.env=(false,eval c X.env)::starEach [] X.env:=by rfl)
 (ag:starEach [d] X.env=(false,eval d X.env)::starEach [] X.env:=by rfl) (ax:(backTo pos2 (starEach [] X.env)).any (·.1)=false:=by rfl)
 {pl:Sem Bool} (ht:eval (.Call (.Attribute (.Call (.Name x p) [a,b,c] [] pos1) "forth" apos) [d] [] pos2) X.env=(do
  let ov <- eval (.Call (.Name x p) [a,b,c] [] pos1) X.env
  standAt apos.atName
  let (f,first) <- holding [ov] (getMethod ov "forth" pl)
  callWith pos2 f first (backTo pos2 (starEach [d] X.env)) (backToKw pos2 (keywordEach [] X.env))):=by rfl) :
 PO X (.Call (.Attribute (.Call (.Name x p) [a,b,c] [] pos1) "forth" apos) [d] [] pos2) (Qv F G (zc fa (zc fb (zc fc (zc fd zz))))):=by
 intro pins s σ H Q I ⟨H0,γ,ds,rc,J,q⟩;obtain⟨l,e0,J⟩:=bind_some J;obtain⟨dp,e1,e0⟩:=bind_some e0;obtain⟨l1,e2,rfl⟩:=zm e0;obtain⟨dw,e3,e2⟩:=bind_some e2;obtain⟨l2,e4,rfl⟩:=zm e2;obtain⟨dt,e5,e4⟩:=bind_some e4;obtain⟨l3,e6,rfl⟩:=zm e4;obtain⟨db,e7,e6⟩:=bind_some e6;obtain⟨l4,e8,rfl⟩:=zm e6;cases e8;cases dw with
 | str z=>
  have J:((if z=("r" : Str)then F else G) [dp,dt,db]).bind zcp=some ds:=J;obtain⟨r,e9,ai⟩:=bind_some J;cases r with
  | val _=>cases ai
  | own c6=>
   cases ai;obtain⟨c7,ca,Gy,my,ky,bf⟩:=an.ex;have call:=xt (p:=p) (pos:=pos1) Gy (h.room.mono h1) (h.gl cx).1 my ky bf .nil y7 (zF ha (zF hb (zF hc jp aw) av) he) (h.gl cx).2.2 he au;have go : ∀(C:Addr) (jc:Nat) (Fc:List D->Option Res),(if z=("r" : Str)then CR else CL)=C->MethAt X.prog X.w X.K X.mg X.base jc C Fc->jc<=k->Fc [dp,dt,db]=some (.own ds)->
    wpAny (model X.prog X.w) X.A (eval (.Call (.Attribute (.Call (.Name x p) [a,b,c] [] pos1) "forth" apos) [d] [] pos2) X.env) (EP X pins σ Q) X.xe s:=λC jc Fc hC M hj hF=>by
    obtain⟨fm,cc,Mm,Gm,bm⟩:=M.ex;refine zbz (pl:=pl) (E:=E0) call M.cls.cls Mm Gm (h.room.mono hj) bm .nil y7 (zF hd jp ag) ag ax ht pins s σ H Q I ?_;refine⟨H0,γ,dp,rc,e1,λO H1 bo x1 r1=>⟨bo,γ,_,rc.ext x1,e3,λv2 H2 br x2 r2=>⟨br,γ,dt,(rc.ext x1).ext x2,e5,λY H3 a4 x3 r3=>?_⟩⟩⟩;refine⟨O,z,Y,by rw [show v2 = .str z from r2];rfl,λo a5 n1 n2 bu=>?_⟩;rw [hC];have xe:Ext a4 H3 a4 (upd (upd H3 a5 (.own o)) o (.ins C a5 (fs2 O Y))):=(Ext.hide x3.sub n2 (.own o)).trans (Ext.hide (x3.sub.trans (zK n2 _)) (by rw [zy (zic bu)];exact n1) _);have xa:=(x1.trans (x2.trans x3)).trans xe;refine⟨o,a5,fs2 O Y,rfl,zv,zfH O Y,a4,γ,db,rc.ext xa,e7,λv4 H4 ak x4 r4=>?_⟩;have am:Same a4 ak:=x4.s0;refine⟨o,a5,O,Y,v4,ak,dp,dt,db,ds,rfl,x4.s1 _ _ zv,x4.sub,((r1.mono x2.s0).mono x3.s0).mono am,r3.mono am,r4,hF,?_⟩;exact λa' xs H' H0' x5 g1 g2 g3 g4=>q a' xs H' H0' (xa.trans (x4.trans x5)) (qH (xa.trans x4).s1 g1) g2 g3 g4
   by_cases hz:z=("r" : Str)
   ·rw [if_pos hz]at e9
    exact go CR jr F (if_pos hz) hR h2 e9
   ·rw [if_neg hz]at e9
    exact go CL jl G (if_neg hz) hL h3 e9
 | _=>cases J
end
section
variable{X:Cx}{sc:Scope}{N L:List Str}{k:Nat}{a:Expr}{pos:Pos}{f:CO (List D)}
theorem zbq(i:Nat){x:Str}{apos cpos np:Pos}(h:SX X sc N L k)(c:Jy sc N i x=true)(ha:PO X a f)(I:starEach [a] X.env=[(false,eval a X.env)]:=by rfl)
 (a1:attributeBase (.Name x np) "extend" X.env (eval (.Name x np) X.env)=eval (.Name x np) X.env:=by rfl)
 (a2:((backTo cpos (starEach [a] X.env)).all (λx=> !x.1) && (backToKw cpos (keywordEach [] X.env)).all (λx=>x.1.isSome)
   && decide ([a].length+([]:List Keyword).length+(if ([]:List Keyword).isEmpty then 0 else 1)<30))=true:=by rfl)
 (a3:(apos.endLine==cpos.line)=true:=by rfl) (a4:swapsWith (.Call (.Attribute (.Name x np) "extend" apos) [a] [] cpos) none pos.line X.env=pure false:=by rfl) :
 PSD X (.Expr (.Call (.Attribute (.Name x np) "extend" apos) [a] [] cpos) pos) (JD i f):=
 qc (wP (Wp zji PySem.F.slot_list_extend PySem.F.type_list_extend Yp (h.var c) (zF ha jp I) a1 a2 a3 I rfl) a4) λD σ H hZ=>by
  obtain⟨E0,E,H0,γ,fl,rs,z,a6⟩:=hZ;obtain⟨ds,e1,z⟩:=bind_some z;obtain⟨es,e2,z⟩:=bind_some z;have e1:=xy e1;by_cases J:ds.length+es.length<=lim
  ·rw [if_pos J]at z;cases z
   obtain⟨l,xs,h1,h2,O,Y⟩:=rs.rc.own i ds e1;refine⟨_,h1,.inl ⟨rfl,_,SqL.of O⟩,H0,γ,es,rs.rc,e2,λb zs H' H0' x g1 g2 g3 g4=>?_⟩;have hl:xs.length+zs.length<=sizeLine:=by
    rw [Y.length,g4.length];have:lim<=sizeLine:=by decide
    omega
   refine⟨l,b,xs,zs,rfl,rfl,x.s1 _ _ O,g3,hl,?_⟩;have a9:=rs.step x;exact a6 _ _ _ (a9.rewrite (xs:=xs) e1 h1 ((Y.mono x.s0).append g4))
  ·rw [if_neg J]at z;cases z
end
def W1(K:PySem.W.Frag)(C:Addr):Bool:=PySem.W.makesIn K C && PySem.W.keepIn K (.ref C) && PySem.W.plainGet K C Str.empty && PySem.W.hasDictIn K C && PySem.W.plainOver K C &&
 PySem.W.findIn K (.ref C) "__setattr__" == some (some (.builtin "object.__setattr__")) && PySem.W.findIn K (.ref C) "p" == some none && PySem.W.findIn K (.ref C) "table" == some none
structure ArrAt(K:PySem.W.Frag)(mg:Str->Option Value)(sI sR sL:Stmt):Prop where
 ex : ∃(CR CL fI fR fL:Addr) (dI dR dL:FuncData),mg "Right" = some (.ref CR)/\mg "Left" = some (.ref CL)/\Mk K CR fI/\Mk K CL fI/\ClsA K CR/\ClsA K CL/\Meth K CR "forth" fR/\Meth K CL "forth" fL/\
  L2.Fun K "__init__" "Arrow.__init__" sI fI dI/\L2.Fun K "forth" "Right.forth" sR fR dR/\L2.Fun K "forth" "Left.forth" sL fL dL/\
  Binds K dI ["self","p","table"] []/\Binds K dR ["self","base"] []/\Binds K dL ["self","base"] []
section
variable{K:PySem.W.Frag}{mg:Str->Option Value}{h:Heap}
theorem YX{C:Addr}(b:W1 K C=true):ClsA K C/\PySem.W.makesIn K C=true/\PySem.W.keepIn K (.ref C)=true:=by
 unfold W1 at b;simp only [Bool.and_eq_true,beq_iff_eq]at b;obtain⟨⟨⟨⟨⟨⟨⟨b1,b2⟩,b3⟩,b4⟩,b5⟩,b6⟩,b7⟩,b8⟩:=b;exact⟨⟨⟨b3,b4,b5,b6⟩,b7,b8⟩,b1,b2⟩
theorem arr_mk{sI sR sL:Stmt}{CR CL fI fR fL:Addr}{oI oR oL:Value}{eI eR eL aI aR aL:Option Addr}{lI lR lL:Array (Option Value)}{kI dI pI z tI kR dR pR I tR kL dL pL J tL:Value}(O:K.In h)(G:h.Ns mainGlobals mg)
 (nR:zjC K mainGlobals "Right" = some (some (.ref CR))) (nL:zjC K mainGlobals "Left" = some (some (.ref CL)))
 (iR:PySem.W.findIn K (.ref CR) "__init__" = some (some (.ref fI))) (iL:PySem.W.findIn K (.ref CL) "__init__" = some (some (.ref fI)))
 (mR:PySem.W.findIn K (.ref CR) "forth" = some (some (.ref fR))) (mL:PySem.W.findIn K (.ref CL) "forth" = some (some (.ref fL)))
 (uI:K.lookup fI=some ⟨oI,eI,.func (PySem.W.fnOf "__init__" "Arrow.__init__" (defArgs sI) (defBody sI) (defScope sI) .none kI dI pI aI z tI),lI⟩)
 (uR:K.lookup fR=some ⟨oR,eR,.func (PySem.W.fnOf "forth" "Right.forth" (defArgs sR) (defBody sR) (defScope sR) .none kR dR pR aR I tR),lR⟩)
 (uL:K.lookup fL=some ⟨oL,eL,.func (PySem.W.fnOf "forth" "Left.forth" (defArgs sL) (defBody sL) (defScope sL) .none kL dL pL aL J tL),lL⟩)
 (vI:PySem.W.codeIn K z "Arrow.__init__" = true) (vR:PySem.W.codeIn K I "Right.forth" = true) (vL:PySem.W.codeIn K J "Left.forth" = true)
 (w1:PySem.W.keepIn K (.ref fI)=true) (w2:PySem.W.keepIn K (.ref fR)=true) (w3:PySem.W.keepIn K (.ref fL)=true)
 (z1:PySem.W.isFn K (.ref fI)=true) (z2:PySem.W.isFn K (.ref fR)=true) (z3:PySem.W.isFn K (.ref fL)=true)
 (bR:W1 K CR=true) (bL:W1 K CL=true)
 (gI : ∀(kV doc pm:Value) (an:Option Addr) (cdv ct:Value) (us:List Value),us.length=3->bindArgs (PySem.W.fnOf "__init__" "Arrow.__init__" (defArgs sI) (defBody sI) (defScope sI) .none kV doc pm an cdv ct) ⟨us,[]⟩=pure ((["self","p","table"]:List Str).zip us))
 (gR : ∀(kV doc pm:Value) (an:Option Addr) (cdv ct:Value) (us:List Value),us.length=2->bindArgs (PySem.W.fnOf "forth" "Right.forth" (defArgs sR) (defBody sR) (defScope sR) .none kV doc pm an cdv ct) ⟨us,[]⟩=pure ((["self","base"]:List Str).zip us))
 (gL : ∀(kV doc pm:Value) (an:Option Addr) (cdv ct:Value) (us:List Value),us.length=2->bindArgs (PySem.W.fnOf "forth" "Left.forth" (defArgs sL) (defBody sL) (defScope sL) .none kV doc pm an cdv ct) ⟨us,[]⟩=pure ((["self","base"]:List Str).zip us)):ArrAt K mg sI sR sL:=by
 obtain⟨c1,c2,c3⟩:=YX bR;obtain⟨d1,d2,d3⟩:=YX bL;have Y:=Q0 uI vI w1;have FR:=Q0 uR vR w2;have FL:=Q0 uL vL w3;exact⟨CR,CL,fI,fR,fL,_,_,_,zkb O G nR,zkb O G nL,⟨c2,iR,z1,c3⟩,⟨d2,iL,z1,d3⟩,c1,d1,⟨mR,z2,w2⟩,⟨mL,z3,w3⟩,Y,FR,FL,Y.binds gI,FR.binds gR,FL.binds gL⟩
end
def zb5:Stmt->List Stmt
 | .ClassDef _ _ _ b _ _ _ _ _ _ _=>b
 | _=>[]
def inCls(st:Stmt)(j:Nat):Stmt:=(zb5 st).getD j (.Pass ⟨0,0,0,0⟩)
theorem k4{K:PySem.W.Frag}{H:Hp} : ∀{ds:List D} {ns:List Int} {xs:List V},xi ds=some ns->Reps K H ds xs->xs=(ns.map zkj).map kV
 | [],ns,xs,e,r=>by cases e;exact r.inv_nil
 | d::ds,ns,xs,e,r=>by
  cases d with
  | int i=>
   obtain⟨l,e1,e2⟩:=zm e;subst e2;obtain⟨x,t,rfl,h1,h2⟩:=r.inv_cons;rw [k4 e1 h2,show x = .int i from h1];rfl
  | _=>cases e
def yT(g:CO (Sk×List D))(fa:CO D):CO D:=λγ=>(g γ).bind λks=>(fa γ).bind λx=>match ks.1 with
 | .L=>if okD x=true/\okSs ks.2=true then some (.int (ks.2.countP λd=>eqD d x:Nat))else none
 | .T=>none
theorem XB{X:Cx}{pins:List (Addr×Obj)}{σ:St}{H0 H:Hp}{s:Shared}(I:Inv X pins σ H s)(sub:Same H0 H){p:Addr}{xs:List V}{ds:List D}(J:SqL X.K H p xs)(r:Reps X.K H0 ds xs)(o:okSs ds=true) : ∃z,Reads s.heap (.ref p) (.list (toPs ds)) z:=by
 obtain⟨a2,O,q,hz⟩:=I.list J;obtain⟨ob,Y,hc,n,hd⟩:=q.isList;obtain⟨z,ra⟩:=readsAll_of I sub o r O;exact⟨_,.list Y hc hd (by simpa using ra)⟩
section
variable{X:Cx}{sc:Scope}{N L:List Str}{k:Nat}{a b:Expr}{pos:Pos}{fa:CO D}{g:CO (Sk×List D)}
theorem SX.u66(h:SX X sc N L k):X.A.units+66<cLine:=by have:=h.room.un;omega
end
def zbi(K:PySem.W.Frag):V->List V->Hp->VK->Prop:=λx vs H Q=>∃H0 dx v p xs ds,Same H0 H/\x = .ref p/\vs=[v]/\Rep K H0 dx v/\SqL K H p xs/\Reps K H0 ds xs/\okD dx=true/\okSs ds=true/\Q (.int (ds.countP λd=>eqD d dx:Nat)) H
theorem wp{x:D}(hx:okS x=true) : ∀ds:List D,okSs ds=true->(toPs ds).countP (λy=>PyData.eqv y (toP x))=ds.countP λd=>eqD d x
 | [],_=>by simp [toPs]
 | d::ds,h=>by
  simp only [okSs,Bool.and_eq_true]at h;simp only [toPs,zjZ];rw [eqv_toP d x h.1 hx,wp hx ds h.2]
theorem Yq{X:Cx}(hu:X.A.units+66<cLine):MtR X "list.count" (zbi X.K):=by
 intro pins s σ H x vs v us Q I rx rv h;obtain⟨H0,dx,y,p,xs,ds,sub,rfl,rfl,r1,hq,r2,z,J,q⟩:=h;cases rx;obtain⟨w1,rfl,rw⟩:=kh rv;obtain⟨as,ra⟩:=reads_of I sub (qs z) r1 rw;obtain⟨bs,rb⟩:=XB I sub hq r2 J;have hs:=PySem.SeqAt.depth_of_shaped (xn z);have O:=lays_toP ds J;cases rb with
 | list h1 h2 h3 Y=>
  rename_i ob a0 n ac
  obtain⟨oc,od,ae,osl⟩:=ob;subst h2 h3;refine zjL F.slot_list_count ⟨_,h1,rfl⟩ F.entry_list_count (F.args_list_count_2 _ _) (PySem.SeqAt.list_countAt p a0 n od osl w1 (λy=>PyData.eqv (PySem.SeqAt.readOf s.heap y) (toP dx))) ⟨h1,PySem.SeqAt.items_eqAt Y ra O (lay_toP dx (qs z)) ?_,?_⟩
  ·have:min (PyData.depthAll (toPs ds)) (toP dx).depth<=(toP dx).depth:=zkL _ _
   omega
  ·have e:a0.toList.countP (λy=>PyData.eqv (PySem.SeqAt.readOf s.heap y) (toP dx))=ds.countP λd=>eqD d dx:=by
    rw [<- wp (qs z) ds J,<- PySem.SeqAt.readsAll_map _ _ _ O Y,zjD];rfl
   rw [e];exact⟨.int _,H,I.tok _,⟨_,rfl⟩,q⟩
section
variable{X:Cx}{sc:Scope}{N L:List Str}{k:Nat}{o e:Expr}{apos cpos:Pos}{fa:CO D}{g:CO (Sk×List D)}
theorem KW(h:SX X sc N L k)(ho:PQ X o g)(he:PV X e fa)(a1:attributeBase o "count" X.env (eval o X.env)=eval o X.env:=by rfl)
 (a2:((backTo cpos (starEach [e] X.env)).all (λx=> !x.1) && (backToKw cpos (keywordEach [] X.env)).all (λx=>x.1.isSome) && decide ([e].length+([]:List Keyword).length+(if ([]:List Keyword).isEmpty then 0 else 1)<30))=true:=by rfl)
 (a3:(apos.endLine==cpos.line)=true:=by rfl) (O:starEach [e] X.env=[(false,eval e X.env)]:=by rfl):PV X (.Call (.Attribute o "count" apos) [e] [] cpos) (yT g fa):=
 jK (Wp zji PySem.F.slot_list_count PySem.F.type_list_count (Yq h.u66) ho (zF he jp O) a1 a2 a3 O rfl) λσ H Q hZ=>by
  obtain⟨H0,γ,d,rc,z,q⟩:=hZ;obtain⟨⟨kk,ds⟩,e2,z⟩:=bind_some z;obtain⟨x,e1,z⟩:=bind_some z;cases kk with
  | T=>cases z
  | L=>
   have z:(if okD x=true/\okSs ds=true then some (D.int (ds.countP λd=>eqD d x:Nat))else none)=some d:=z;by_cases I:okD x=true/\okSs ds=true
   ·rw [if_pos I]at z;cases z
    refine⟨H0,γ,.L,ds,rc,e2,λp xs H1 a6 x1 h1 h2 r=>⟨.inl ⟨rfl,xs,h1⟩,a6,γ,x,rc.ext x1,e1,λv2 H2 Y J r2=>?_⟩⟩;exact⟨Y,x,v2,p,xs,ds,J.sub,rfl,rfl,r2,J.s1.seq h1,r.mono J.s0,I.1,I.2,q _ H2 Y (x1.trans J) rfl⟩
   ·rw [if_neg I]at z;cases z
end
theorem ZZ:typeLookup (.type "list") "keys" = pure none:=by rw [typeLookup_type,builtinLookup_eq_fast];kernel_rfl
theorem vQ:entryFor table "list.__getattribute__" = some Builtin.«object.__getattribute__» :=
 entryFor_alias (id':="object.__getattribute__") (by kernel_rfl) (by first | rfl | decide +kernel) ⋯ (by kernel_rfl)
section
variable{prog:Program}{w:World}{A:Around}{E:Value->Shared->Prop}{h:Heap}{g:Array GenState}{d:Drawn}{t:Nat}{os:OsState}{a:Addr}{o:Obj}
theorem vg{tk:Tok}{Q:Fin->Shared->Prop}{vs:Array Value}{O:Nat}{sl:Array (Option Value)}(hx:h.get? a=some ⟨.type "list",none,.seq vs O,sl⟩)(Y:A.handled=none)
 (hE : ∀h' e t',(∀b u,h.get? b=some u->h'.get? b=some u)->(∃I,h'.get? e=some I/\I.cls = .type "AttributeError")->E (.ref e) ⟨h',g,d,t',os⟩) :
 wpAny (model prog w) A (Builtin.«object.__getattribute__» ⟨[.ref a,.str "keys" tk],[]⟩) Q E ⟨h,g,d,t,os⟩:=by
 have hT:(⟨h,g,d,t,os⟩:Shared).TypeIs (.ref a) "list":=⟨_,hx,rfl⟩;have f4:=ZZ
 repeat (any_goals (first | assumption | wp_step))
 unfold raiseAttrError;have hm:((zii (toString "'" ++ toString ((Manifest.find? "list").elim "list" λx=>x.tpName)++toString "' object has no attribute '")++zii "keys" ++ zii "'"):Str).length<=sizeLine:=by decide +kernel
 generalize (zii (toString "'" ++ toString ((Manifest.find? "list").elim "list" λx=>x.tpName)++toString "' object has no attribute '")++zii "keys" ++ zii "'")=z at hm ⊢;refine zhb (wpAny_mkStr (hx:=hm) ?_);refine zhb ?_;unfold newExc newTuple;refine zhb (zij ?_ (by size_fits));refine zhb (m:=firstArgMember _ _) (wpAny_of_eq (a:=zh7) (by first | rfl | (simp only [firstArgMember];rfl)) ?_);refine zij ?_ (by size_fits);simp only [zia];have he:((h.push {cls:= .type "tuple",data:= .seq #[.str z t]}).push {cls:= .type "AttributeError",data:= .fields (#[.ref h.objs.size,.none,.none,.none,.bool false,.none]++ownMembersOf (.type "AttributeError") [.str z t])}).get? (h.objs.size+1) =
  some {cls:= .type "AttributeError",data:= .fields (#[.ref h.objs.size,.none,.none,.none,.bool false,.none]++ownMembersOf (.type "AttributeError") [.str z t])}:=by heap_get
 have J : ∀b u,h.get? b=some u->((h.push {cls:= .type "tuple",data:= .seq #[.str z t]}).push {cls:= .type "AttributeError",data:= .fields (#[.ref h.objs.size,.none,.none,.none,.bool false,.none]++ownMembersOf (.type "AttributeError") [.str z t])}).get? b=some u:=λb u e=>zhc _ (zhc _ e);have hn:h.get? (h.objs.size+1)=none:=Heap.get?_none_of_le (zkm _);generalize ((h.push {cls:= .type "tuple",data:= .seq #[.str z t]}).push {cls:= .type "AttributeError",data:= .fields (#[.ref h.objs.size,.none,.none,.none,.bool false,.none]++ownMembersOf (.type "AttributeError") [.str z t])})=h2 at he J ⊢;refine zhb (wpAny_mkText ?_);unfold noteAttr lacksNameAndObj;have a3:(⟨h2,g,d,t+1+1,os⟩:Shared).TypeIs (.ref (h.objs.size+1)) "AttributeError":=⟨_,he,rfl⟩;have ft:isSubtype (.type "AttributeError") (.type "AttributeError")=pure true:=by rw [isSubtype_type];kernel_rfl
 repeat (any_goals (first | assumption | with_reducible refine wpAny_loadPart_at he ?_ | with_reducible refine wpAny_load he ?_ | wp_step))
 refine wpAny_raiseNew_none Y (hE _ _ _ (λb u e=>?_) ⟨_,zj5 _ he (Obj.isFreed_of_fields (zkx rfl _)),Obj.cls_mapFields ..⟩);rw [zj2 _ _ (λq=>by rw [<- q]at e;rw [hn]at e;cases e)];exact J b u e
theorem vN{tk:Tok}{R:Result->Shared->Prop}{vs:Array Value}{I:Nat}{sl:Array (Option Value)}(hx:h.get? a=some ⟨.type "list",none,.seq vs I,sl⟩)(J:A.handled=none)
 (O : ∀h' e t',(∀b u,h.get? b=some u->h'.get? b=some u)->(∃z,h'.get? e=some z/\z.cls = .type "AttributeError")->R (.error (.ref e)) ⟨h',g,d,t',os⟩) :
 codeAny (model prog w) A (.call (.builtin "list.__getattribute__") ⟨[.ref a,.str "keys" tk],[]⟩) R ⟨h,g,d,t,os⟩:=
 zkv zjq.plain vQ (zjq.check _ _ _ _ _ _ _ _ (show(⟨h,g,d,t,os⟩:Shared).TypeIs (.ref a) "list" from⟨_,hx,rfl⟩) (F.args_list_getattribute_2 _ _) (vg hx J O))
theorem XX:typeLookup (.type "list") "__getattr__" = pure none:=by rw [typeLookup_type,builtinLookup_eq_fast];kernel_rfl
theorem Yu{Q:Option Value->Shared->Prop}{vs:Array Value}{z:Nat}{sl:Array (Option Value)}(hx:h.get? a=some ⟨.type "list",none,.seq vs z,sl⟩)(I:A.handled=none)
 (J : ∀h' t',(∀b u,h.get? b=some u->h'.get? b=some u)->Q none ⟨h',g,d,t',os⟩):wpAny (model prog w) A (getAttr? (.ref a) "keys") Q E ⟨h,g,d,t,os⟩:=by
 have hT:(⟨h,g,d,t+1,os⟩:Shared).TypeIs (.ref a) "list":=⟨_,hx,rfl⟩;have f2:=zjq.lookup;have f3:=zjq.bind (.ref a);have f5:=XX;have ft:isSubtype (.type "AttributeError") (.type "AttributeError")=pure true:=by rw [isSubtype_type];kernel_rfl
 unfold getAttr? getAttrBy? getAttrBy
 repeat (any_goals (first | assumption | wp_step))
 refine vN (g:=g) (d:=d) (os:=os) hx I λh' e t' O he=>?_;obtain⟨Y,he,hc⟩:=he;have a6:(⟨h',g,d,t',os⟩:Shared).TypeIs (.ref e) "AttributeError":=⟨Y,he,hc⟩;have a7:=J h' t' O;show wpAny _ _ (getattributeRaised _ _ _ _ _ _ _) _ _ _;unfold getattributeRaised hookOrError attributeErrorLeaves
 repeat (any_goals (first | assumption | wp_step))
end
def yH:List D->Option (List D×List D)
 | []=>some ([],[])
 | d::r=>match d with
  | .tup ds=>match ds with
   | [k,v]=>(yH r).map λp=>(k::p.1,v::p.2)
   | _=>none
  | _=>none
def Vs:D->Option (List Int)
 | .tup ds=>xi ds
 | _=>none
def XZ:List D->Option (List (List Int))
 | []=>some []
 | d::ds=>(Vs d).bind λk=>(XZ ds).map λr=>k::r
def yR(f:CO (List D)):CO D:=λγ=>(f γ).bind λps=>(yH ps).bind λp=>(XZ p.1).bind λks=>if ks.Nodup/\ks.length<=lim then some (.dct ks p.2)else none
def QZ:List (List Int)->List D->List Int->Option D
 | k::ks,v::vs,i=>if k=i then some v else QZ ks vs i
 | _,_,_=>none
def yS(fd fk:CO D):CO D:=λγ=>(fd γ).bind λd=>(fk γ).bind λk=>match d with
 | .dct ks vs=>(Vs k).bind λi=>QZ ks vs i
 | _=>none
def WR(d k x:D):Option D:=match d with
 | .dct ks vs=>(Vs k).map λi=>(QZ ks vs i).getD x
 | _=>none
def ZA(fd fk fx:CO D):CO D:=λγ=>(fd γ).bind λd=>(fk γ).bind λk=>(fx γ).bind λx=>WR d k x
section
variable(γ:Ctx)
@[simp] theorem zeT(f):yR f γ=(f γ).bind λps=>(yH ps).bind λp=>(XZ p.1).bind λks=>if ks.Nodup/\ks.length<=lim then some (.dct ks p.2)else none:=rfl
@[simp] theorem zf5(fd fk):yS fd fk γ=(fd γ).bind λd=>(fk γ).bind λk=>match d with
 | .dct ks vs=>(Vs k).bind λi=>QZ ks vs i
 | _=>none:=rfl
@[simp] theorem zf4(fd fk fx):ZA fd fk fx γ=(fd γ).bind λd=>(fk γ).bind λk=>(fx γ).bind λx=>WR d k x:=rfl
end
theorem wn{P:Program}{w:World} : ∀{k:List Int} {us:List Value},Vals (k.map V.int) us->PySem.ItemsAre (intKind P w) k us
 | [],us,h=>by cases h;exact .nil
 | i::k,us,h=>by
  cases h with
  | cons h1 h2=>
   obtain⟨t,rfl⟩:=h1;exact .cons (by show Value.isInt i (.int i t)=true;simp [Value.isInt]) (wn h2)
section
variable{X:Cx}{pins:List (Addr×Obj)}{σ:St}{H:Hp}{s:Shared}
theorem k0{b:Addr}{k:List Int}(I:Inv X pins σ H s)(h:SqT X.K H b (k.map V.int)):(tupleKind (intKind X.prog X.w)).is s.heap k b:=by
 obtain⟨z,J,⟨o,O,Y,n,hd⟩,_⟩:=I.tuple h;exact⟨o,z.toArray,n,O,Y,hd,wn J⟩
theorem k9{a:Addr}{o:Obj}{xs:List (List Int×Addr×Value)}(I:Inv X pins σ H s)(e:H a=some (atO a o))(d:DObj o xs)(z : ∀x∈xs,SqT X.K H x.2.1 (x.1.map V.int)):s.heap.DictOfH (tupleKind (intKind X.prog X.w)) a xs:=by
 obtain⟨J,_⟩:=(show ObjOk X.prog X.w H s.heap a (atO a o)from I.hok a _ e);obtain⟨O,es,Y,d2,d3,d4⟩:=d;exact⟨o,es,Y,J,O,d2,d3,λx hx=>k0 I (z x hx),d4⟩
theorem zaw{h:Heap}{P:Program}{w:World}{a:Addr}{xs:List (List Int×Addr×Value)}(d:h.DictOfH (tupleKind (intKind P w)) a xs) : ∃o,h.get? a=some o/\DObj o xs:=by
 obtain⟨o,es,z,h1,h2,I,J,_,O⟩:=d;exact⟨o,h1,h2,es,z,I,J,O⟩
end
theorem Vd{P:Program}{w:World}{H:Hp}{h:Heap}{a:Addr}{o:Obj}(e:h.get? a=some o):ObjOk P w H h a (atO a o):=⟨e,⟨o,e⟩,λh1 h2 p q=>q o p⟩
theorem Zd{K:Type} [DecidableEq K]{k:K} : ∀{xs:List (K×Addr×Value)},k∉xs.map (·.1)->atKey xs k=none
 | xs,h=>by
  unfold atKey;rw [Option.map_eq_none_iff,zkr];intro x hx z;exact h (ziJ.mpr ⟨x,hx,by simpa using z⟩)
section
variable{X:Cx}{pins:List (Addr×Obj)}{σ:St}{A:Around}{R:Result->Shared->Prop}{H0:Hp}{l it d:Addr}{ks:List (List Int)}{ys xs:List V}
theorem X9(hh:A.handled=none)(hu:A.units+8<cLine)(hx:xs.length=ks.length)(hy:ys.length=ks.length)(nd:ks.Nodup)(hz:ks.length<=sizeLine)
 (hp : ∀(n:Nat) (h1:n<xs.length) (h2:n<ks.length) (h3:n<ys.length),∃p b,xs[n] = .ref p/\SqT X.K H0 p [.ref b,ys[n]]/\SqT X.K H0 b (ks[n].map V.int)) (au:H0 d=none) (av:l≠d) : ∀(m n:Nat) (s:Shared) (H:Hp) (o:Obj) (es:List (List Int×Addr×Value)) (i:Int) (t:Tok),n+m=ks.length->
 Inv X pins σ H s->Same H0 H->H l=some (.lst xs)->s.heap.IsListIter it l n->FpOk X pins H it->H d=some (atO d o)->DObj o es->es.map (·.1)=ks.take n->(∀x∈es,SqT X.K H0 x.2.1 (x.1.map V.int))->Vals (ys.take n) (es.map (·.2.2))->
 (∀s' o' a0,DObj o' a0->a0.map (·.1)=ks->(∀x∈a0,SqT X.K H0 x.2.1 (x.1.map V.int))->Vals ys (a0.map (·.2.2))->Inv X pins σ (upd H d (atO d o')) s'->R (.ok (.ret .none)) s')->
 codeAny (model X.prog X.w) A (.builtin "dict.update.loop" ⟨[.ref d,.ref it,.int i t,.none],[]⟩) R s:=by
 intro m
 induction m with
 | zero=>
  intro n s H o es i t hn I sub hl st O hd od Y a6 a7 hR;obtain⟨z1,aa,c,rv,ll,el⟩:=I.lstM hl;refine codeAny_builtin xu ?_;unfold Builtin.«dict.update.loop»;have il:s.heap.IsList l aa.toArray:=⟨_,el,rfl,_,rfl⟩;refine zhb (wpAny_pyNext_list_end (s:=s) hh st il (by simp;omega) λh' eb=>?_);refine zhb (zhi ?_);have e0:upd H d (atO d o)=H:=by
   funext c;by_cases q:c=d
   ·rw [q,zv,hd]
   ·rw [zy q]
  have I':Inv X pins σ H {s with heap:=h'}:=I.turnedL (t':=s.toks) (fp:=[it]) (λb o J e=>eb b o (by simpa using J) e) (λb J=>by rw [zil.mp J];exact O);have:=hR {s with heap:=h'} o es od (by rw [Y,ziM ⋯]) a6 (by rw [ziM ⋯]at a7;exact a7);rw [e0]at this;exact zhi (this I')
 | succ m ih=>
  intro n s H o es i t hn I sub hl st O hd od Y a6 a7 hR;obtain⟨z1,aa,c,rv,ll,el⟩:=I.lstM hl;have il:s.heap.IsList l aa.toArray:=⟨_,el,rfl,_,rfl⟩;have ae:n<ks.length:=by omega
  obtain⟨p,b,ep,ba,ai⟩:=hp n ⋯ ae ⋯;obtain⟨u,bb,ru⟩:=rv.get (zhe (show n<xs.length by omega));rw [ep]at ru;have eu:u = .ref p:=ru;subst eu;refine codeAny_builtin xu ?_;unfold Builtin.«dict.update.loop»;refine zhb (wpAny_pyNext_list_item (s:=s) st il (x:= .ref p) (by simpa using bb) λh' bd sb=>?_);have I1:=I.turnedL (h':=h') (t':=s.toks) (fp:=[it]) (λb o J e=>(sb.2 b (by simpa using J)).trans e) (λb J=>by rw [zil.mp J];exact O);obtain⟨ts,rt,⟨o1,eo,co,nn,bg⟩,zt⟩:=I1.tuple (sameT sub ba);obtain⟨u1,r3,rfl,bh,q2⟩ : ∃u1 r3,ts=u1::r3/\RelV (.ref b) u1/\Vals [ys[n]] r3:=by
   cases rt with
   | cons q1 q2=>exact⟨_,_,rfl,q1,q2⟩
  obtain⟨u2,rfl,bj⟩:=kh q2;have bl:u1 = .ref b:=bh;subst bl;have bm:({s with heap:=h'}:Shared).TypeIs (.ref p) "tuple":=⟨_,eo,co⟩;refine zhb (ziv (zhb (wpAny_tryCatch ?_)));unfold Builtin.Dict.pairItems;refine zhb (zjW bm ?_);rw [if_pos ⋯];refine zhb (ziV eo bg (zhi ?_));show wpAny _ _ (holding [.ref b,u2] (dictSet d (.ref b) u2)) _ _ _;have dH:=k9 I1 hd od λx hx=>sameT sub (a6 x hx);have bo:=k0 I1 (sameT sub ai);have ca:es.length=n:=by
   have:=congrArg ziQ Y;rw [zhB,ziG]at this;omega
  have bp:ks[n]∉es.map (·.1):=by
   rw [Y];intro z;obtain⟨j,hj,e⟩:=List.getElem_of_mem z;rw [List.getElem_take]at e;rw [ziG]at hj;exact List.pairwise_iff_getElem.mp nd j n ⋯ ae ⋯ e
  refine ziv (wpAny_dictSet_heap (hsz:=by omega) (show(A.under _).units<cLine from by rw [show(A.under (Code.builtin "dict.update.loop" _)).units=A.units+1 from rfl];omega) bo dH λbr am hs=>?_);rw [storedH_new (Zd bp)]at am;obtain⟨o',ao,bt⟩:=zaw am;have I2:=I1.write (x:=d) (e:=d) (o:=atO d o') (t':=s.toks+(tupleKind (intKind X.prog X.w)).draws ks[n]) (h':=br) (by rw [hd];exact zh6) (.inl rfl) (λb q J z=>(hs.2 b J).trans z) ⟨_,ao⟩ (Vd ao);have ap:it≠d:=λq=>by have:=O.1;rw [q,hd]at this;cases this
  have tk:ks.take (n+1)=ks.take n++[ks[n]]:=by rw [List.take_succ,zhe ae];rfl
  have ty:ys.take (n+1)=ys.take n++[ys[n]]:=by rw [List.take_succ,zhe ⋯];rfl
  refine zhi ⟨xq _,ih (n+1) _ _ o' _ (i+1) 0 ⋯ I2 (λc o e=>?_) (by rw [zy av];exact hl) (bd.at λo q=>(hs.2 it ap).trans q) ⟨by rw [zy ap];exact O.1,O.2⟩ zv bt ?_ ?_ ?_ λs' o3 bw a1 a2 a3 a4 I3=>hR s' o3 bw a1 a2 a3 a4 ?_⟩
  ·rw [zy (λq=>by rw [q,au]at e;cases e)];exact sub _ _ e
  ·rw [zhZ,Y,tk];rfl
  ·intro x hx
   rcases zi5.mp hx with z | z
   ·exact a6 x z
   ·rw [zil.mp z];exact ai
  ·rw [zhZ,ty]
   exact a7.append (.cons bj .nil)
  ·rw [yG]at I3;exact I3
theorem wr{Q:Value->Shared->Prop}{H:Hp}{s:Shared}(I:Inv X pins σ H s)(hh:X.A.handled=none)(hu:X.A.units+64<cLine)(sub:Same H0 H)(z:H l=some (.lst xs))(hx:xs.length=ks.length)(hy:ys.length=ks.length)(nd:ks.Nodup)
 (hp : ∀(n:Nat) (h1:n<xs.length) (h2:n<ks.length) (h3:n<ys.length),∃p b,xs[n] = .ref p/\SqT X.K H0 p [.ref b,ys[n]]/\SqT X.K H0 b (ks[n].map V.int)) (hz:ks.length<=sizeLine)
 (hQ : ∀s' p o es,H p=none->(p==sysModules)=false->DObj o es->es.map (·.1)=ks->(∀x∈es,SqT X.K H0 x.2.1 (x.1.map V.int))->Vals ys (es.map (·.2.2))->Inv X pins σ (upd H p (atO p o)) s'->Q (.ref p) s'):wpAny (model X.prog X.w) X.A (call (.type "dict") [.ref l]) Q X.xe s:=by
 have J:H s.heap.objs.size=none:=I.fresh;have af:H0 s.heap.objs.size=none:=zS sub J;have a5:l≠s.heap.objs.size:=λq=>by rw [q,J]at z;cases z
 have ag:(s.heap.objs.size==sysModules)=false:=beq_eq_false_iff_ne.mpr (ziW I.big);refine callType_codes (Q₁:=λobj s₁=>obj = .ref s.heap.objs.size/\s₁ = {s with heap:=s.heap.push {cls:= .type "dict",data:= .dict #[]}}) F.kt_called_dict (F.kt_typeCall_dict_1 _) F.entry_dict_init (kt_code_dict_new _ ⟨rfl,rfl⟩) ?_;rintro obj s₁ ⟨rfl,rfl⟩;have I1:=I.laid (a:=s.heap.objs.size) (o:=atO s.heap.objs.size {cls:= .type "dict",data:= .dict #[]}) (t':=s.toks) (λ_ _ q=>zhc {cls:= .type "dict",data:= .dict #[]} q) (zhn _) (Vd (zhw _ rfl));have a7:({s with heap:=s.heap.push {cls:= .type "dict",data:= .dict #[]}}:Shared).TypeIs (.ref s.heap.objs.size) "dict":=⟨_,zhw _ rfl,rfl⟩;obtain⟨z1,a8,c,rv,ll,el⟩:=I.lstM z;have O:(s.heap.push {cls:= .type "dict",data:= .dict #[]}).get? l=some {cls:= .type "list",data:= .seq a8.toArray c}:=zhc _ el;refine⟨a7,F.args_dict_init_2 _ _,?_⟩;unfold Builtin.«dict.__init__»;refine zhb ?_;unfold Builtin.Dict.selfAndRest;refine zhb (wpAny_notOrdered_dict a7 ?_);show wpAny _ _ (pure (s.heap.objs.size,[zhH l])) _ _ _;refine zhi ?_;show wpAny _ _ (Builtin.Dict.updateFrom "dict.__init__" s.heap.objs.size (.ref l) [] .none) _ _ _;unfold Builtin.Dict.updateFrom;refine zhb (zjW (T:="list") ⟨_,O,rfl⟩ ?_);rw [if_pos ⋯];refine zhb (Yu (g:=s.gens) (d:=s.drawn) (t:=s.toks) (os:=s.os) O (show X.A.in1.in1.handled=none from hh) λh' t' k=>?_);have Y:Inv X pins σ (upd H s.heap.objs.size (atO s.heap.objs.size {cls:= .type "dict",data:= .dict #[]})) {s with heap:=h',toks:=t'}:=I1.kept k;have aj:=k _ _ O;simp only [Option.isNone_none,if_true];refine zhb (zkq (zhb (zkN (items:=a8.toArray) ⟨_,aj,rfl,_,rfl⟩ ?_)));refine zhi ⟨xq _,?_⟩;have I3:=Y.kept (h':=h'.push {cls:= .type "list_iterator",data:= .fields #[.ref l,.int 0 0]}) (t':=t') λb o e=>zhc _ e;have fp:=Y.fpOk (b:=h'.objs.size) (H':=upd H s.heap.objs.size (atO s.heap.objs.size {cls:= .type "dict",data:= .dict #[]})) (zhn _) Y.fresh;refine X9 (H0:=H0) (l:=l) (it:=h'.objs.size) (ks:=ks) (ys:=ys) (xs:=xs) (show X.A.in1.handled=none from hh) (by show X.A.in1.units+8<cLine;rw [units_in1];omega) hx hy nd hz hp af a5 ks.length 0 _ (upd H s.heap.objs.size (atO s.heap.objs.size {cls:= .type "dict",data:= .dict #[]})) {cls:= .type "dict",data:= .dict #[]} [] 0 0 (zjM _) I3 (sub.trans (zK J _)) (by rw [zy a5];exact z) ⟨_,zhw _ rfl,rfl,rfl⟩ fp zv ⟨⟨rfl,rfl,rfl⟩,#[],0,rfl,rfl,List.nodup_nil⟩ rfl (λx hx=>nomatch hx) .nil λs' o' am a1 a2 a3 a4 I4=>?_;rw [yG]at I4;exact⟨rfl,hQ s' _ o' am J ag a1 a2 a3 a4 I4⟩
end
theorem kB{K:PySem.W.Frag}{H:Hp}{d:D}{k:List Int}{v:V}(e:Vs d=some k)(r:Rep K H d v) : ∃b,v = .ref b/\SqT K H b (k.map V.int):=by
 cases d with
 | tup ds=>
  obtain⟨b,zs,rfl,z,I⟩:=xm r;have:=k4 e I;refine⟨b,rfl,?_⟩;rw [this]at z;simpa [kV,zim,zjp]using z
 | _=>cases e
theorem kP{K:PySem.W.Frag}{H:Hp} : ∀{ps ks vs:List D} {xs:List V} {ns:List (List Int)},yH ps=some (ks,vs)->Reps K H ps xs->XZ ks=some ns->
 ∃ys,Reps K H vs ys/\ys.length=ns.length/\xs.length=ns.length/\∀(n:Nat) (h1:n<xs.length) (h2:n<ns.length) (z:n<ys.length),∃p b,xs[n] = .ref p/\SqT K H p [.ref b,ys[n]]/\SqT K H b (ns[n].map V.int)
 | [],ks,vs,xs,ns,h,r,hi=>by
  cases h;cases hi;rw [r.inv_nil];exact⟨[],Reps.nil,rfl,rfl,λn h1=>by cases h1⟩
 | d::ps,ks,vs,xs,ns,h,r,hi=>by
  unfold yH at h;split at h
  ·split at h
   ·rename_i k v
    obtain⟨⟨a,b⟩,e1,e2⟩:=zm h;cases e2;obtain⟨x,xr,rfl,h1,h2⟩:=r.inv_cons;obtain⟨j,I,J⟩:=bind_some hi;obtain⟨nr,O,Y⟩:=zm J;subst Y;obtain⟨ys,i1,i2,i3,i4⟩:=kP e1 h2 O;obtain⟨q,zs,rfl,z,h4⟩:=xm h1;obtain⟨y1,yr,rfl,h5,h6⟩:=h4.inv_cons;obtain⟨y2,aj,rfl,h7,h8⟩:=h6.inv_cons;obtain⟨kb,rfl,ab⟩:=kB I h5;rw [h8.inv_nil]at z;refine⟨y2::ys,Reps.cons h7 i1,by simp [i2],by simp [i3],λn g1 g2 g3=>?_⟩;cases n with
    | zero=>exact⟨q,kb,rfl,z,ab⟩
    | succ n=>exact i4 n (by simpa using g1) (by simpa using g2) (by simpa using g3)
   ·cases h
  ·cases h
section
variable{X:Cx}{sc:Scope}{N L:List Str}{k:Nat}{a o i:Expr}{f:CO (List D)}{fd fk:CO D}{p pos:Pos}
theorem wM(h:SX X sc N L k)(cd:xT sc "dict" = true)(zd:X.mg "dict" = none)(ha:PO X a f)(hs:starEach [a] X.env=[(false,eval a X.env)]:=by rfl) :
 PV X (.Call (.Name "dict" p) [a] [] pos) (yR f):=by
 intro pins s σ H Q I Y;obtain⟨H0,γ,d,rc,J,q⟩:=Y;obtain⟨ps,e1,J⟩:=bind_some J;obtain⟨⟨ds,es⟩,e2,J⟩:=bind_some J;obtain⟨ks,e3,J⟩:=bind_some J;have hh:X.A.handled=none:=I.ok.hd h.calm;by_cases hc:ks.Nodup/\ks.length<=lim
 ·rw [if_pos hc]at J
  cases J;refine Call_ (qJ I (h.gl cd).1 zd zjI (zh2 ?_ (by rw [hs];rfl) rfl));rw [hs];show wpAny _ _ (spliced ((false,eval a X.env)::[])) _ _ s;refine zis (thn (ha pins s σ H (λv H1=>∃l xs z,v = .ref l/\Ext H0 H z H1/\z l=none/\H1 l=some (.lst xs)/\Reps X.K z ps xs) I ⟨H0,γ,ps,rc,e1,λl xs H1 z x1 g1 g2 g3 g4=>⟨l,xs,z,rfl,x1,g2,g3,g4⟩⟩) λv s1 Y=>?_);obtain⟨y,H1,I1,ry,l,xs,z,rfl,x1,g2,g3,g4⟩:=Y;cases ry;refine zi9 ?_;obtain⟨ys,r1,r2,r3,r4⟩:=kP e2 g4 e3;have:lim<=sizeLine:=by decide
  refine wr (H0:=z) (ks:=ks) (ys:=ys) (xs:=xs) I1 hh h.u64 x1.sub g3 r3 r2 hc.1 r4 ⋯ λs' p ob zs O am a1 a2 a3 a4 I3=>?_;have aa:Same z (upd z p (atO p ob)):=zK (zS x1.sub O) _;exact⟨.ref p,_,I3,rfl,q (.ref p) _ _ ((x1.trans (Ext.hide x1.sub O _)).show (qH x1.s1 O) (zS x1.sub O) zv rc.sub)
   (show ∃a xs,V.ref p = .ref a/\DRt X.K (upd z p _) a ks xs/\Reps X.K (upd z p _) es xs from⟨p,ys,rfl,⟨am,ob,zs,zv,a1,a2,by have:=congrArg ziQ a2;rw [zhB]at this;omega,λx hx=>sameT aa (a3 x hx),a4⟩,r1.mono aa⟩)⟩
 ·rw [if_neg hc]at J;cases J
end
theorem JW{K:PySem.W.Frag}{H:Hp}{i:List Int} : ∀{xs:List (List Int×Addr×Value)} {vs:List D} {ys:List V},Reps K H vs ys->Vals ys (xs.map (·.2.2))->
 (∀d,QZ (xs.map (·.1)) vs i=some d->∃y p,atKey xs i=some p/\Rep K H d y/\RelV y p.2)/\(QZ (xs.map (·.1)) vs i=none->atKey xs i=none)
 | [],vs,ys,r,v=>⟨(λd q=>by cases q),λ_=>rfl⟩
 | x::xs,vs,ys,r,v=>by
  cases v with
  | cons z I=>
   cases vs with
   | nil=>have:=r.inv_nil;cases this
   | cons d vs=>
    obtain⟨y,O,e,h1,h2⟩:=r.inv_cons;cases e;have J:=JW (i:=i) h2 I;by_cases hx:x.1=i
    ·have e1:atKey (x::xs) i=some x.2:=by unfold atKey;rw [zj0 (by simpa using hx)];rfl
     have e2:QZ ((x::xs).map (·.1)) (d::vs) i=some d:=by show(if x.1=i then _ else _)=_;rw [if_pos hx]
     rw [e1,e2];exact⟨λd' q=>by cases q;exact⟨_,x.2,rfl,h1,z⟩,λq=>by cases q⟩
    ·have e1:atKey (x::xs) i=atKey xs i:=by unfold atKey;rw [zj1 (by simpa using hx)]
     have e2:QZ ((x::xs).map (·.1)) (d::vs) i=QZ (xs.map (·.1)) vs i:=by show(if x.1=i then _ else _)=_;rw [if_neg hx]
     rw [e1,e2];exact J
section
variable{X:Cx}{sc:Scope}{N L:List Str}{k:Nat}{a b o i:Expr}{fd fk fx:CO D}{p pos apos cpos:Pos}
theorem JG(h:SX X sc N L k)(ho:PV X o fd)(hi:PV X i fk)(hs:zgJ i:=by intro _ _;rfl):PV X (.Subscript o i pos) (yS fd fk):=by
 intro pins s σ H Q I Y;obtain⟨H0,γ,d,rc,J,q⟩:=Y;obtain⟨d1,e1,J⟩:=bind_some J;obtain⟨k1,e2,J⟩:=bind_some J;cases d1 with
 | dct ks vs=>
  obtain⟨j,e3,e4⟩:=bind_some J;refine zaZ PySem.F.slot_dict_getitem.lookup hs (thn (ho pins s σ H (λv H1=>∃z,Ext H0 H z H1/\Rep X.K z (.dct ks vs) v) I ⟨H0,γ,_,rc,e1,λv H1 z x r=>⟨z,x,r⟩⟩) λu s1 Y=>?_);obtain⟨v,H1,I1,r1,z,x1,rp⟩:=Y;refine thn (hi pins s1 σ H1 (λv H2=>∃O,Ext z H1 O H2/\Rep X.K O k1 v) I1 ⟨z,γ,_,rc.ext x1,e2,λv H2 O x r=>⟨O,x,r⟩⟩) λu2 s2 Y=>?_;obtain⟨v2,H2,I2,r2,O,x2,ae⟩:=Y;obtain⟨ad,ys,rfl,⟨g0,ob,zs,g1,g2,g3,g4,g5,g6⟩,g7⟩:=(show ∃a xs,v = .ref a/\DRt X.K z a ks xs/\Reps X.K z vs xs from rp);subst g3;cases (show u=zhH ad from r1);obtain⟨b,rfl,hb⟩:=kB e3 ae;cases (show u2=zhH b from r2);have a2:Same z H2:=x2.s0.trans x2.sub;have dH:=k9 I2 (a2 _ _ g1) g2 λx hx=>sameT a2 (g5 x hx);obtain⟨y,p,c1,c2,c3⟩:=(JW (g7.mono x2.s0) g6).1 d e4;exact⟨dH.typeIs,wpAny_getItem_heap (zjX (by have:=h.u64;omega)) (k0 I2 (sameT x2.sub hb)) dH c1 ⟨y,H2,I2.tok _,c3,q y H2 O (x1.trans x2) c2⟩⟩
 | _=>cases J
theorem JF(h:SX X sc N L k)(ho:PV X o fd)(ha:PV X a fk)(hb:PV X b fx)(m:M2 X o "get" apos a b cpos:=by exact⟨by rfl,by rfl,by rfl,by rfl⟩):PV X (.Call (.Attribute o "get" apos) [a,b] [] cpos) (ZA fd fk fx):=by
 intro pins s σ H Q I Y;obtain⟨H0,γ,d,rc,J,q⟩:=Y;obtain⟨d1,e1,J⟩:=bind_some J;obtain⟨k1,e2,J⟩:=bind_some J;obtain⟨w1,e5,J⟩:=bind_some J;cases d1 with
 | dct ks vs=>
  obtain⟨j,e3,e4⟩:=zm J;subst e4;refine wpAny_Call_method m.base m.few m.line PySem.F.plainAttrs_dict PySem.F.slot_dict_get PySem.F.type_dict_get (thn (ho pins s σ H (λv H1=>∃z,Ext H0 H z H1/\Rep X.K z (.dct ks vs) v) I ⟨H0,γ,_,rc,e1,λv H1 z x r=>⟨z,x,r⟩⟩) λu s1 Y=>?_);obtain⟨v,H1,I1,r1,z,x1,rp⟩:=Y;obtain⟨ad,ys,rfl,⟨g0,ob,zs,g1,g2,g3,g4,g5,g6⟩,g7⟩:=(show ∃a xs,v = .ref a/\DRt X.K z a ks xs/\Reps X.K z vs xs from rp);subst g3;cases (show u=zhH ad from r1);have a7:=k9 I1 (x1.sub _ _ g1) g2 λx hx=>sameT x1.sub (g5 x hx);refine⟨a7.typeIs,dictOfH_noDict a7,?_⟩;rw [m.trees];refine Calls.callWith_builtin rfl (Calls.evalArgs_plain (zis (thn (ha pins s1 σ H1 (λv H2=>∃a0,Ext z H1 a0 H2/\Rep X.K a0 k1 v) I1 ⟨z,γ,_,rc.ext x1,e2,λv H2 a0 x r=>⟨a0,x,r⟩⟩) λu2 s2 Y=>?_)));obtain⟨v2,H2,I2,r2,a0,x2,ar⟩:=Y;refine zis (thn (hb pins s2 σ H2 (λv O=>∃a1,Ext a0 H2 a1 O/\Rep X.K a1 w1 v) I2 ⟨a0,γ,_,(rc.ext x1).ext x2,e5,λv O a1 x r=>⟨a1,x,r⟩⟩) λu3 s3 Y=>zi9 ?_);obtain⟨v3,O,I3,r3,a1,x3,au⟩:=Y;obtain⟨kb,rfl,av⟩:=kB e3 ar;cases (show u2=zhH kb from r2);have xx:=x2.trans x3;have ab:Same z O:=xx.s0.trans xx.sub;have dH:=k9 I3 (ab _ _ g1) g2 λx hx=>sameT ab (g5 x hx);refine call_meetsIn PySem.F.slot_dict_get dH.typeIs PySem.F.entry_dict_get (PySem.F.args_dict_get_3 _ _ _) (meetsH_dict_get_default (tupleKind (intKind X.prog X.w)) ad kb g0 u3) ⟨zjX (by have:=h.u64;omega),j,zs,k0 I3 (sameT (x3.s0.trans x3.sub) av),dH,?_⟩;obtain⟨c1,c2⟩:=JW (i:=j) (g7.mono xx.s0) g6;cases hv:QZ (zs.map (·.1)) vs j with
  | none=>
   rw [hv]at q;rw [c2 hv];exact⟨v3,O,I3.tok _,r3,q v3 O a1 (x1.trans xx) au⟩
  | some dv=>
   rw [hv]at q;obtain⟨y,p,f1,f2,f3⟩:=c1 dv hv;rw [f1];exact⟨y,O,I3.tok _,f3,q y O a1 (x1.trans xx) f2⟩
 | _=>cases J
end
def zgq:List (List Int)->List Int->List Int->Option Int
 | k::ks,n::ns,i=>if k=i then some n else zgq ks ns i
 | _,_,_=>none
def eqT(ks:List (List Int))(ns:List Int)(z:List (List Int))(I:List Int):Bool:=decide (ks.length=z.length) && (ks.zip ns).all λx=>decide (zgq z I x.1=some x.2)
def zgt(d e:D):Option Bool:=match d with
 | .dct ks vs=>match e with
  | .dct z I=>(xi vs).bind λns=>(xi I).map λJ=>eqT ks ns z J
  | _=>none
 | _=>none
@[simp] def zg8(d e:D):Option D:=(zgt d e).map D.bl
@[simp] def zg7(d e:D):Option D:=(zgt d e).map λb=>D.bl (!b)
def isNestB:Cell->Bool
 | .nest _=>true
 | _=>false
def Kr(i:Nat):Tg->Bool
 | .nm j=>decide (j≠i)
 | .tp z=>decide (i∉z)
theorem Ym{γ:Ctx}(h:γ.any isNestB=false) : ∀(i:Nat) rows,γ[i]? ≠ some (.nest rows):=λi rows e=>by
 have:=List.any_eq_false.mp h _ (zhE e);exact this rfl
section
variable{K:PySem.W.Frag}{E0 E H0 H:Hp}{σ:St}{γ:Ctx}{p:Addr}{u u':HO}
theorem RS.repl(r:RS K E0 E H0 H σ γ)(hn:γ.any isNestB=false)(O:H p=some u)(Y : ∀xs,u ≠ .lst xs)(h0:H0 p=none)(he:E p=none):RS K E0 E H0 (upd H p u') σ γ:=by
 have I:Same H0 (upd H p u'):=λb o e=>by rw [zy (λz=>by rw [z,h0]at e;cases e)];exact r.rc.sub b o e
 have ne : ∀{a:Addr} {xs:List V},H a=some (.lst xs)->a≠p:=λe z=>by rw [z,O]at e;exact Y _ (zhM e)
 refine⟨⟨I,r.rc.len,r.rc.val,λi ds e=>?_,r.rc.ne,NestOk.nil0 (Ym hn)⟩,⟨r.ext.s0,λb o e=>by rw [zy (λz=>by rw [z,he]at e;cases e)];exact r.ext.s1 b o e,I,r.ext.new⟩,r.fresh,λi rows a xs e=>absurd e (Ym hn i rows)⟩;obtain⟨a,xs,h1,h2,J,h4⟩:=r.rc.own i ds e;exact⟨a,xs,h1,h2,by rw [zy (ne J)];exact J,h4⟩
end
theorem v7{i:Nat} : ∀{is:List Nat} {vs:List V} {σ:St},i∉is->(setAll is vs σ)[i]? = σ[i]?
 | [],vs,σ,_=>by cases vs<;>rfl
 | j::is,[],σ,_=>rfl
 | j::is,v::vs,σ,h=>by
  show(setAll is vs (σ.set j (some v)))[i]? = _;rw [v7 (λz=>h (zhs _ z)),zhl (λz=>h (by rw [z];exact zhq))]
theorem zcd{p:Addr}{o:Obj} : ∀xs,atO p o ≠ .lst xs:=λxs z=>by cases z
abbrev XR:=Ctx×List (List Int)×List D
abbrev XF:=Ctx->List (List Int)->List D->Option XR
def JH(ks:List (List Int))(k:List Int):List (List Int):=if k∈ks then ks else ks++[k]
def XE:List (List Int)->List D->List Int->D->List D
 | k'::ks,v'::vs,k,v=>if k'=k then v::vs else v'::XE ks vs k v
 | _,_,_,v=>[v]
def zc2(fk z:CO D):XF:=λγ ks vs=>(z γ).bind λv=>((fk γ).bind Vs).bind λk=>if ks.length<lim then some (γ,JH ks k,XE ks vs k v)else none
def zfl(F G:XF):XF:=λγ ks vs=>(F γ ks vs).bind λr=>G r.1 r.2.1 r.2.2
def JC(f:CO D):CO D:=λγ=>(f γ).bind λd=>match d with
 | .dct ks _=>some (.int ks.length)
 | _=>none
@[simp] theorem zf2(γ:Ctx)(f):JC f γ=(f γ).bind λd=>match d with
 | .dct ks _=>some (.int ks.length)
 | _=>none:=rfl
structure QS(K:PySem.W.Frag)(i:Nat)(p:Addr)(E0 E H0 H:Hp)(σ:St)(γ:Ctx)(ks:List (List Int))(vs:List D):Prop where
 rs:RS K E0 E H0 H σ γ
 nn:γ.any isNestB=false
 sl:σ[i]? = some (some (.ref p))
 h0:H0 p=none
 he:E p=none
 ex : ∃o es ys,H p=some (atO p o)/\DObj o es/\es.map (·.1)=ks/\(∀e∈es,SqT K H0 e.2.1 (e.1.map V.int))/\Reps K H0 vs ys/\Vals ys (es.map (·.2.2))
section
variable{K:PySem.W.Frag}{i:Nat}{p:Addr}{E0 E H0 H H0' H':Hp}{σ σ':St}{γ γ':Ctx}{ks:List (List Int)}{vs:List D}
theorem QS.step(x:QS K i p E0 E H0 H σ γ ks vs)(e:Ext H0 H H0' H'):QS K i p E0 E H0' H' σ γ ks vs:=by
 obtain⟨o,es,ys,h1,h2,I,J,O,Y⟩:=x.ex;exact⟨x.rs.step e,x.nn,x.sl,e.new p x.h0 (by rw [h1];simp),x.he,o,es,ys,e.s1 _ _ h1,h2,I,λz hz=>sameT e.s0 (J z hz),O.mono e.s0,Y⟩
end
def tQX(K:PySem.W.Frag)(i:Nat)(F:XF):TS:=λD σ H=>∃p E0 E H0 γ ks vs r,QS K i p E0 E H0 H σ γ ks vs/\F γ ks vs=some r/\∀σ' H' H0',QS K i p E0 E H0' H' σ' r.1 r.2.1 r.2.2->D.nx σ' H'
theorem XD{xs:List (List Int×Addr×Value)}{k:List Int}{b:Addr}{r:Value}:(storedH xs k b r).map (·.1)=JH (xs.map (·.1)) k:=by
 unfold storedH JH;by_cases h:k∈xs.map (·.1)
 ·have:(atKey xs k).isSome=true:=by
   obtain⟨x,hx,e⟩:=ziJ.mp h;unfold atKey;rw [Option.isSome_map,List.find?_isSome];exact⟨x,hx,by simpa using e⟩
  rw [if_pos this,if_pos h,zim];refine zht λx hx=>?_;show(putAt k r x).1=x.1;unfold putAt;split<;>rfl
 ·rw [if_neg (by rw [Zd h];decide),if_neg h,zhZ]
  rfl
theorem Xs{xs:List (List Int×Addr×Value)}{k:List Int}{b:Addr}{r:Value}{P:List Int->Addr->Prop}(h : ∀x∈xs,P x.1 x.2.1)(J:P k b) : ∀x∈storedH xs k b r,P x.1 x.2.1:=by
 intro x hx;unfold storedH at hx;split at hx
 ·obtain⟨y,I,rfl⟩:=ziJ.mp hx
  unfold putAt;split
  ·exact h y I
  ·exact h y I
 ·rcases zi5.mp hx with z | z
  ·exact h x z
  ·rw [zil.mp z];exact J
theorem QF{k:List Int}{r:Value} : ∀{xs:List (List Int×Addr×Value)},k∉xs.map (·.1)->xs.map (putAt k r)=xs
 | [],_=>rfl
 | x::xs,h=>by
  rw [zhI,QF (λz=>h (zhs _ z))];congr 1;unfold putAt;rw [if_neg λz=>h (by rw [<- z];exact zhq)]
theorem QE{K:PySem.W.Frag}{H:Hp}{k:List Int}{b:Addr}{r:Value}{v:D}{y:V}(z:Rep K H v y)(I:RelV y r) : ∀{xs:List (List Int×Addr×Value)} {vs:List D} {ys:List V},(xs.map (·.1)).Nodup->Reps K H vs ys->Vals ys (xs.map (·.2.2))->
 ∃J,Reps K H (XE (xs.map (·.1)) vs k v) J/\Vals J ((storedH xs k b r).map (·.2.2))
 | [],vs,ys,_,h1,h2=>by
  cases h2;cases vs with
  | nil=>exact⟨[y],Reps.cons z Reps.nil,.cons I .nil⟩
  | cons d vs=>obtain⟨_,_,q,_⟩:=h1.inv_cons;cases q
 | x::xs,vs,ys,nd,h1,h2=>by
  have O:=zit.mp nd;cases h2 with
  | cons v1 Y=>
   cases vs with
   | nil=>have:=h1.inv_nil;cases this
   | cons d vs=>
    obtain⟨y0,yr,q,g1,g2⟩:=h1.inv_cons;cases q;by_cases hx:x.1=k
    ·have hk:k∉xs.map (·.1):=by rw [<- hx];exact O.1
     have e1:XE ((x::xs).map (·.1)) (d::vs) k v=v::vs:=by show(if x.1=k then _ else _)=_;rw [if_pos hx]
     have e2:storedH (x::xs) k b r=(x.1,x.2.1,r)::xs:=by
      have:(atKey (x::xs) k).isSome=true:=by unfold atKey;rw [zj0 (by simpa using hx)];rfl
      unfold storedH;rw [if_pos this,zhI,QF hk];unfold putAt;rw [if_pos hx]
     rw [e1,e2];exact⟨_,Reps.cons z g2,.cons I Y⟩
    ·obtain⟨J,i1,i2⟩:=QE (b:=b) z I O.2 g2 Y
     have e1:XE ((x::xs).map (·.1)) (d::vs) k v=d::XE (xs.map (·.1)) vs k v:=by show(if x.1=k then _ else _)=_;rw [if_neg hx]
     have e2:storedH (x::xs) k b r=x::storedH xs k b r:=by
      have:atKey (x::xs) k=atKey xs k:=by unfold atKey;rw [zj1 (by simpa using hx)]
      unfold storedH;rw [this];split
      ·rw [zhI]
       congr 1;unfold putAt;rw [if_neg hx]
      ·rfl
     rw [e1,e2];exact⟨_,Reps.cons g1 i1,.cons v1 i2⟩
def zcU(K:PySem.W.Frag)(I ty tv:TE):TS:=λD σ H=>tv σ H λv H1=>I σ H1 λx H2=>ty σ H2 λy z=>∃a o es k b,x = .ref a/\z a=some (atO a o)/\DObj o es/\(∀e∈es,SqT K z e.2.1 (e.1.map V.int))/\y = .ref b/\SqT K z b (k.map V.int)/\es.length<=sizeLine/\
 ∀o' r,DObj o' (storedH es k b r)->RelV v r->D.nx σ (upd z a (atO a o'))
theorem K4{X:Cx}{o i value:Expr}{pos pos':Pos}{Y ty tv:TE}(hu:X.A.units+1<cLine)(ho:PE X o Y)(hi:PE X i ty)(hv:PE X value tv)(hs:swapsWith value (some (.Subscript o i pos')) pos.line X.env=pure false) :
 PS X (.Assign [.Subscript o i pos'] value pos) (zcU X.K Y ty tv):=by
 intro pins s σ H D I h;refine wpAny_Assign_Subscript (thn (hv pins s σ H _ I h) λr s1 J=>?_) hs;obtain⟨v,H1,I1,rv,q1⟩:=J;refine thn (ho pins s1 σ H1 _ I1 q1) λu s2 J=>?_;obtain⟨x,H2,I2,rx,q2⟩:=J;refine thn (hi pins s2 σ H2 _ I2 q2) λiv s3 J=>?_;obtain⟨y,H3,O,ry,a,ob,es,k,b,rfl,e1,e2,e3,rfl,e4,e6,q3⟩:=J;cases (show u=zhH a from rx);cases (show iv=zhH b from ry);have dH:=k9 O e1 e2 e3;refine wpAny_setItem_heap (hsz:=e6) (zjX hu) (k0 O e4) dH λh' aj ak=>?_;obtain⟨o',a0,am⟩:=zaw aj;exact⟨σ,_,O.write (x:=a) (e:=a) (o:=atO a o') (t':=_) (h':=h') (by rw [e1];exact zh6) (.inl rfl) (λb q hb z=>(ak.2 b hb).trans z) ⟨_,a0⟩ (Vd a0),q3 o' r am rv⟩
section
variable{X:Cx}{i:Nat}{st:Stmt}{j3:List Stmt}{pos:Pos}
theorem zan{fk O:CO D}(h:PS X st (zcU X.K (ki i) (tV X.K fk) (tV X.K O))):PS X st (tQX X.K i (zc2 fk O)):=qc h λD σ H hZ=>by
 obtain⟨p,E0,E,H0,γ,ks,vs,r,xs,z,a4⟩:=hZ;obtain⟨v,e1,z⟩:=bind_some z;obtain⟨k,e2,z⟩:=bind_some z;obtain⟨kd,e3,e4⟩:=bind_some e2;split at z
 ·next ag=>
  cases z;refine⟨H0,γ,v,xs.rs.rc,e1,λv1 H1 a8 x1 r1=>⟨.ref p,xs.sl,a8,γ,kd,(xs.step x1).rs.rc,e3,λkv H2 Y I r2=>?_⟩⟩;obtain⟨b,rfl,a0⟩:=kB e4 r2;have y:=(xs.step x1).step I;obtain⟨o,es,ys,h1,h2,J,h4,h5,h6⟩:=y.ex;have aj:es.length=ks.length:=by rw [<- J,zhB]
  have ak:lim<=sizeLine:=by decide
  have nd:(es.map (·.1)).Nodup:=by obtain⟨_,_,_,_,_,n⟩:=h2;exact n
  refine⟨p,o,es,k,b,rfl,h1,h2,λe he=>sameT y.rs.rc.sub (h4 e he),rfl,sameT I.sub a0,by omega,λo' r' ac rr=>a4 _ _ Y ?_⟩;obtain⟨af,g1,g2⟩:=QE (k:=k) (b:=b) (r1.mono I.s0) rr nd h5 h6;rw [J]at g1;exact⟨y.rs.repl y.nn h1 zcd y.h0 y.he,y.nn,y.sl,y.h0,y.he,o',_,af,zv,ac,by rw [XD,J],Xs (P:=λk b=>SqT X.K Y b (k.map V.int)) h4 a0,g1,g2⟩
 ·cases z
end
theorem zbM{prog:Program}{w:World}{A:Around}{E:Value->Shared->Prop}{s:Shared}{d:Addr}{o:Obj}{es:Array DictEntry}{J:Nat}{Q:Value->Shared->Prop}(hd:(d==sysModules)=false)(I:s.heap.get? d=some o)(hx:o.ExactDict)(O:o.data = .dict es J)(Y:(es.size:Int)<2 ^ 63)
 (h : ∀t k,Q (.int es.size t) {s with toks:=k}):wpAny (model prog w) A (call (.builtin "len") [.ref d]) Q E s:=by
 have z:s.TypeIs (.ref d) "dict":=⟨o,I,hx.1⟩;refine Calls.call_function_entry kind_len plain_len entry_len (args_len1 _) ?_;unfold Builtin.«len»;refine zhb (m:=oneArg "len" _) (zhi ?_);refine zhb (m:=callSpecial? (.ref d) (zii "__len__")) (ziw (name:=zii "__len__") z F.slot_dict_len (ziI F.slot_dict_len z F.entry_dict_len ?_ (F.args_dict_len_1 _)));unfold Builtin.«dict.__len__»;refine zhb ?_;unfold Builtin.Dict.dictSlotNone;refine zhb (wpAny_notOrdered_dict z ?_);show wpAny _ _ (pure (zhH d)) _ _ s;refine zhi ?_;refine zhb (zhi ?_);show wpAny _ _ (dictSize d >>= _) _ _ s;unfold dictSize;refine zhb (zhb (wpAny_dictEntries I O (zhi ?_)));show wpAny _ _ (Builtin.Dict.pendingCount d >>= _) _ _ s;refine zhb (wpAny_pendingCount_other hd ?_);refine zhb (wpAny_mkInt (zhi ⟨_,rfl,?_⟩));rw [zka];refine zhb (ziv (zhi ?_));refine zhb (wpAny_letGo ?_);show wpAny _ _ (if ((es.size:Nat):Int)<0 then _ else _) _ _ _;rw [if_neg ⋯];show wpAny _ _ (if ((es.size:Nat):Int)>=2 ^ 63 then _ else _) _ _ _;rw [if_neg ⋯];exact zhb (wpAny_mkInt (zhi ⟨_,rfl,h _ _⟩))
theorem Kc{X:Cx}:vB X (.builtin "len") (λxs H Q=>∃H0 v ks vs,xs=[v]/\Same H0 H/\Rep X.K H0 (.dct ks vs) v/\Q (.int ks.length) H):=by
 intro pins s σ H xs us Q I r h;obtain⟨H0,v,ks,vs,rfl,sub,J,q⟩:=h;obtain⟨u,rfl,O⟩:=kh r;obtain⟨ad,ys,rfl,⟨g0,Y,zs,g1,⟨g2,es,ep,g8,g9,_⟩,z,g4,g5,g6⟩,g7⟩:=(show ∃a xs,v = .ref a/\DRt X.K H0 a ks xs/\Reps X.K H0 vs xs from J);cases (show u=zhH ad from O);obtain⟨ho,_⟩:=(show ObjOk X.prog X.w H s.heap ad (atO ad Y)from I.hok ad _ (sub _ _ g1));have hsz:es.size=ks.length:=by rw [<- ziK,g9,zhB,<- z,zhB]
 have a8:sizeLine<2 ^ 63:=by decide
 have a9:zs.length=ks.length:=by rw [<- z,zhB]
 refine zbM g0 ho g2 g8 ⋯ λt k=>⟨.int ks.length,H,I.tok k,⟨t,by rw [hsz]⟩,q⟩
section
variable{X:Cx}{sc:Scope}{N T:List Str}{k:Nat}{e:Expr}{f:CO D}{p pos:Pos}
theorem zbk(h:SX X sc N T k)(c:xT sc "len" = true)(z:X.mg "len" = none)(ha:PV X e f)(J:starEach [e] X.env=[(false,eval e X.env)]:=by rfl):PV X (.Call (.Name "len" p) [e] [] pos) (JC f):=
 jK (qP Kc (h.gl c).1 z PySem.boot_len (zF ha jp J) ⋯ ⋯ J rfl) λσ H Q O=>by
  obtain⟨H0,γ,d,rc,I,q⟩:=O;obtain⟨Y,e1,I⟩:=bind_some I;cases Y with
  | dct ks vs=>
   cases I;exact⟨H0,γ,_,rc,e1,λv H' H0' x r=>⟨H0',v,ks,vs,rfl,x.sub,r,q _ H' H0' x rfl⟩⟩
  | _=>cases I
end
abbrev TT:=List (List (List Int))
abbrev YF:=Ctx->TT->Option (Ctx×TT)
def zcu(r:List Int):D:= .lst (r.map D.int)
def zct(R:List (List Int)):D:= .lst (R.map zcu)
def zaG(Z:TT):D:= .lst (Z.map zct)
def isPl:Cell->Bool
 | .no=>true
 | .val _=>true
 | _=>false
def KM:List (List D)->Option (List (List Int))
 | []=>some []
 | r::rs=>(xi r).bind λa=>(KM rs).map λb=>a::b
def zcm:YF:=λγ Z=>some (γ,Z)
def vC(F G:YF):YF:=λγ Z=>(F γ Z).bind λr=>G r.1 r.2
def yIf(t:CO Bool)(F:YF):YF:=λγ Z=>(t γ).bind λb=>if b=true then F γ Z else some (γ,Z)
def Jt(z:List Nat)(T:Tg)(f:CO D):YF:=λγ Z=>if z.all (Kr · T)=true then (f γ).bind λd=>(jN T d γ).map λγ1=>(γ1,Z)else none
def Zl(T:Tg)(F:YF):List D->YF
 | [],γ,Z=>some (γ,Z)
 | d::ds,γ,Z=>(jN T d γ).bind λγ1=>(F γ1 Z).bind λr=>Zl T F ds r.1 r.2
def Zh(z:List Nat)(src:CO (List D))(T:Tg)(F:YF):YF:=λγ Z=>if z.all (Kr · T)=true then (src γ).bind λds=>Zl T F ds γ Z else none
def zcl(z:List Nat)(j:Nat)(I:CO D)(F:Nat->YF):YF:=λγ Z=>if j∈z\/γ.length<=j then none else ((I γ).bind asI).bind λn=>(ixD Z.length n).bind λk=>F k (γ.set j .no) Z
def xW(j:Nat)(z:CO D)(f:CO (List D))(k:Nat):YF:=λγ Z=>(Z[k]?).bind λR=>((f (γ.set j (.val (zct R)))).bind xi).bind λr=>((z γ).bind asI).bind λn=>(ixD R.length n).map λm=>(γ,Z.set k (R.set m r))
def xX(j:Nat)(z e:CO D)(k m:Nat):YF:=λγ Z=>(Z[k]?).bind λR=>(R[m]?).bind λrow=>((e (γ.set j (.val (zcu row)))).bind asI).bind λv=>((z γ).bind asI).bind λn=>(ixD row.length n).map λl=>(γ,Z.set k (R.set m (row.set l v)))
def yF(j:Nat)(F:Nat->YF)(k N:Nat):Nat->YF
 | 0,γ,Z=>some (γ,Z)
 | n+1,γ,Z=>if γ.length<=j then none else (F (N - (n+1)) (γ.set j .no) Z).bind λs=>if (s.2[k]?).map ziQ=some N then yF j F k N n s.1 s.2 else none
def xY(z:List Nat)(j:Nat)(F:Nat->YF)(k:Nat):YF:=λγ Z=>if j∈z then none else (Z[k]?).bind λR=>yF j F k R.length R.length γ Z
def VE(F:List D->List D->TT->Option TT)(ga gb:CO (List D)):YF:=λγ Z=>(ga γ).bind λds=>(gb γ).bind λes=>(F ds es Z).map λZ'=>(γ,Z')
def zcy(f:CO (List (List D))):YF:=λγ Z=>((f γ).bind KM).bind λR=>if Z.length<lim then some (γ,Z++[R])else none
def zfj(n i:Nat)(F:YF)(ds es:List D)(Z:TT):Option TT:=(F ((jx n (ds ++ .non::es)).set i .no) Z).map (·.2)
abbrev LF:=CO (D×TT)
def zfy(F:CO Fl)(G:LF):LF:=λγ=>(F γ).bind λz=>match z with
 | .next γ'=>G γ'
 | _=>none
def zcr(i:Nat)(F:YF)(g:CO D):LF:=λγ=>if (γ.set i .no).all isPl=true/\i<γ.length then (F (γ.set i .no) []).bind λs=>(g s.1).map λd=>(d,s.2)else none
def zbe(n:Nat)(G:LF)(ds:List D):Option (D×TT):=G (jx n ds)
def wJ(w i:Nat)(L:List D->Option (D×TT))(g:CO (List D))(F:YF):CO Fl:=λγ=>if ((γ.set w .no).set i .no).all isPl=true/\i<γ.length/\w≠i then
 (g γ).bind λds=>(L ds).bind λr=>(F ((γ.set w (.val r.1)).set i .no) r.2).map λs=> .next (s.1.set i (.val (zaG s.2)))else none
inductive Pl where
 | out | tab (k:Nat) | row (k m:Nat)
deriving DecidableEq
def okPl(Z:TT):Pl->Prop
 | .out=>True
 | .tab k=>k<Z.length
 | .row k m=>k<Z.length/\m<(Z.getD k []).length
def contOf(Z:TT)(ad:Pl->Addr):Pl->List V
 | .out=>(zhf Z.length).map λk=>V.ref (ad (.tab k))
 | .tab k=>(zhf (Z.getD k []).length).map λm=>V.ref (ad (.row k m))
 | .row k m=>((Z.getD k []).getD m []).map V.int
structure N3(H:Hp)(Z:TT)(ad:Pl->Addr):Prop where
 cont : ∀pl,okPl Z pl->H (ad pl)=some (.lst (contOf Z ad pl))
 inj : ∀pl pl',okPl Z pl->okPl Z pl'->ad pl=ad pl'->pl=pl'
structure Y3(K:PySem.W.Frag)(al:List (Nat×Pl))(E0 E H0 H:Hp)(σ:St)(γ:Ctx)(Z:TT)(ad:Pl->Addr):Prop where
 rs:RS K E0 E H0 H σ γ
 pn:γ.all isPl=true
 sl : ∀x∈al,okPl Z x.2/\σ[x.1]? = some (some (.ref (ad x.2)))
 n3:N3 H Z ad
 h0 : ∀pl,okPl Z pl->H0 (ad pl)=none/\E (ad pl)=none
theorem K8{γ:Ctx}(h:γ.all isPl=true) : ∀(i:Nat) ds,γ[i]? ≠ some (.own ds):=λi ds e=>by
 have:=zhR.mp h _ (zhE e);cases this
theorem K9{γ:Ctx}(h:γ.all isPl=true) : ∀(i:Nat) rows,γ[i]? ≠ some (.nest rows):=λi ds e=>by
 have:=zhR.mp h _ (zhE e);cases this
theorem y6{γ:Ctx}(h:γ.all isPl=true)(j:Nat){c:Cell}(I:isPl c=true):(γ.set j c).all isPl=true:=by
 refine zhR.mpr λc' J=>?_;rcases List.mem_or_eq_of_mem_set J with z | z
 ·exact zhR.mp h c' z
 ·rw [z];exact I
theorem ZP : ∀(is:List Nat) (ds:List D) {γ:Ctx},γ.all isPl=true->(jW is ds γ).all isPl=true
 | [],ds,γ,h=>by cases ds<;>exact h
 | i::is,[],γ,h=>h
 | i::is,d::ds,γ,h=>ZP is ds (y6 h i rfl)
theorem Ya{T:Tg}{d:D}{γ γ1:Ctx}(e:jN T d γ=some γ1)(h:γ.all isPl=true):γ1.all isPl=true:=by
 cases T with
 | nm j=>cases e;exact y6 h j rfl
 | tp is=>
  cases d with
  | tup ds=>
   simp only [jN]at e;split at e
   ·cases e;exact ZP is ds h
   ·cases e
  | _=>simp [jN]at e
section
variable{K:PySem.W.Frag}{al:List (Nat×Pl)}{E0 E H0 H H0' H':Hp}{σ σ':St}{γ γ':Ctx}{Z:TT}{ad:Pl->Addr}
theorem RC.pl(sub:Same H0 H)(len:σ.length=γ.length)(val : ∀(i:Nat) d,γ[i]? = some (.val d)->∃v,σ[i]? = some (some v)/\Rep K H0 d v)(pn:γ.all isPl=true):RC K H0 H σ γ:=
 ⟨sub,len,val,λi ds e=>absurd e (K8 pn i ds),λi j a ds es e=>absurd e (K8 pn i ds),NestOk.nil0 (K9 pn)⟩
theorem RS.pl(rc:RC K H0 H σ γ)(x:Ext E0 E H0 H)(pn:γ.all isPl=true):RS K E0 E H0 H σ γ:=
 ⟨rc,x,λi ds a e=>absurd e (K8 pn i ds),λi rows a xs e=>absurd e (K9 pn i rows)⟩
theorem RS.swap(r:RS K E0 E H0 H σ γ)(pn:γ.all isPl=true)(sub:Same H0 H')(s1:Same E H'):RS K E0 E H0 H' σ γ:=
 RS.pl (RC.pl sub r.rc.len r.rc.val pn) ⟨r.ext.s0,s1,sub,r.ext.new⟩ pn
theorem Ext.keep(s:Same H0 H)(e:Same H H'):Ext H0 H H0 H':=⟨Same.refl _,e,s.trans e,λ_ h _=>h⟩
theorem N3.step(n:N3 H Z ad)(e:Same H H'):N3 H' Z ad:=⟨λpl o=>e _ _ (n.cont pl o),n.inj⟩
theorem Y3.step(y:Y3 K al E0 E H0 H σ γ Z ad)(e:Ext H0 H H0' H'):Y3 K al E0 E H0' H' σ γ Z ad:=
 ⟨y.rs.step e,y.pn,y.sl,y.n3.step e.s1,λpl o=>⟨e.new _ (y.h0 pl o).1 (by rw [y.n3.cont pl o];simp),(y.h0 pl o).2⟩⟩
theorem Y3.names(y:Y3 K al E0 E H0 H σ γ Z ad)(r:RS K E0 E H0 H σ' γ')(pn:γ'.all isPl=true)(s : ∀x∈al,σ'[x.1]? = σ[x.1]?):Y3 K al E0 E H0 H σ' γ' Z ad:=
 ⟨r,pn,λx hx=>⟨(y.sl x hx).1,by rw [s x hx];exact(y.sl x hx).2⟩,y.n3,y.h0⟩
theorem Y3.weak{z:List (Nat×Pl)}(y:Y3 K al E0 E H0 H σ γ Z ad)(s : ∀x∈z,x∈al):Y3 K z E0 E H0 H σ γ Z ad:=⟨y.rs,y.pn,λx hx=>y.sl x (s x hx),y.n3,y.h0⟩
open Classical in
def Zn(H0 H:Hp)(Z:TT)(ad:Pl->Addr):Hp:=λc=>if ∃pl,okPl Z pl/\ad pl=c then H c else H0 c
theorem zaT{pl:Pl}(h:okPl Z pl):Zn H0 H Z ad (ad pl)=H (ad pl):=by unfold Zn;rw [if_pos ⟨pl,h,rfl⟩]
theorem Kl(h0 : ∀pl,okPl Z pl->H0 (ad pl)=none):Same H0 (Zn H0 H Z ad):=λc o q=>by
 unfold Zn;rw [if_neg]
 ·exact q
 ·rintro⟨pl,h1,h2⟩
  rw [<- h2,h0 pl h1]at q;cases q
theorem wB(s:Same H0 H):Same (Zn H0 H Z ad) H:=λc o q=>by
 unfold Zn at q;split at q
 ·exact q
 ·exact s c o q
def dOf(Z:TT):Pl->D
 | .out=>zaG Z
 | .tab k=>zct (Z.getD k [])
 | .row k m=>zcu ((Z.getD k []).getD m [])
theorem ZF{G:Hp} : ∀(r:List Int),Reps K G (r.map D.int) (r.map V.int)
 | []=>Reps.nil
 | i::r=>Reps.cons (show V.int i = .int i from rfl) (ZF r)
theorem QA{G:Hp}{α:Type}{f:α->D}{g:Nat->V} : ∀{l:List α} {n:Nat},(∀(k:Nat) x,l[k]? = some x->Rep K G (f x) (g (n+k)))->Reps K G (l.map f) ((zjr n l.length).map g)
 | [],n,_=>Reps.nil
 | x::l,n,h=>by
  rw [zhI,zhJ,zi1,zhI];refine Reps.cons (h 0 x rfl) (QA λk y z=>?_);have:=h (k+1) y (by simpa using z)
  rwa [show n+(k+1)=n+1+k by omega]at this
theorem ZG{G:Hp}{α:Type}{f:α->D}{g:Nat->V}{l:List α}(h : ∀(k:Nat) x,l[k]? = some x->Rep K G (f x) (g k)):Reps K G (l.map f) ((zhf l.length).map g):=by
 rw [ziH];exact QA λk x hx=>by rw [zjM];exact h k x hx
theorem zV{α:Type}{l:List α}{k:Nat}{x d:α}(h:l[k]? = some x):l.getD k d=x:=by simp [List.getD,h]
theorem QC{G:Hp}{k m:Nat}(n:N3 G Z ad)(h:okPl Z (.row k m)):Rep K G (dOf Z (.row k m)) (.ref (ad (.row k m))):=
 kT (SqL.of (n.cont _ h)) (ZF _)
theorem QB{G:Hp}{k:Nat}(n:N3 G Z ad)(h:okPl Z (.tab k)):Rep K G (dOf Z (.tab k)) (.ref (ad (.tab k))):=by
 refine kT (SqL.of (n.cont _ h)) (ZG λm x hx=>?_);have hm:=(zhg.mp hx).1;have:=QC (K:=K) n (k:=k) (m:=m) ⟨h,hm⟩;simp only [dOf,zV hx]at this;exact this
theorem V5{G:Hp}(n:N3 G Z ad):Rep K G (dOf Z .out) (.ref (ad .out)):=by
 refine kT (SqL.of (n.cont .out zh6)) (ZG λk x hx=>?_);have z:=(zhg.mp hx).1;have:=QB (K:=K) n (k:=k) z;simp only [dOf,zV hx]at this;exact this
theorem KO{G:Hp}(n:N3 G Z ad){pl:Pl}(h:okPl Z pl):Rep K G (dOf Z pl) (.ref (ad pl)):=by
 cases pl with
 | out=>exact V5 n
 | tab k=>exact QB n h
 | row k m=>exact QC n h
theorem Km(n:N3 H Z ad):N3 (Zn H0 H Z ad) Z ad:=⟨λpl o=>by rw [zaT o];exact n.cont pl o,n.inj⟩
theorem Y3.view(y:Y3 K al E0 E H0 H σ γ Z ad){i:Nat}{pl:Pl}(hi:(i,pl)∈al) : ∃G0,Same H0 G0/\RC K G0 H σ (γ.set i (.val (dOf Z pl))):=by
 have s0:=Kl (H:=H) (λpl o=>(y.h0 pl o).1);obtain⟨o,I⟩:=y.sl _ hi;refine⟨_,s0,RC.pl (wB y.rs.rc.sub) (by simp [y.rs.rc.len]) (λj d e=>?_) (y6 y.pn i rfl)⟩;rcases zB e with⟨rfl,z,_⟩ | ⟨J,z⟩
 ·cases z
  exact⟨_,I,KO (Km y.n3) o⟩
 ·obtain⟨v,h1,h2⟩:=y.rs.rc.val j d z
  exact⟨v,h1,h2.mono s0⟩
theorem Y3.shown(y:Y3 K al E0 E H0 H σ γ Z ad){i:Nat}(hi:(i,Pl.out)∈al) : ∃G0,RS K E0 E G0 H σ (γ.set i (.val (zaG Z))):=by
 have s0:=Kl (H:=H) (λpl o=>(y.h0 pl o).1);obtain⟨o,J⟩:=y.sl _ hi;refine⟨_,RS.pl (RC.pl (wB y.rs.rc.sub) (by simp [y.rs.rc.len]) (λj d e=>?_) (y6 y.pn i rfl)) ⟨y.rs.ext.s0.trans s0,y.rs.ext.s1,wB y.rs.rc.sub,λc O I=>?_⟩ (y6 y.pn i rfl)⟩
 ·rcases zB e with⟨rfl,z,_⟩ | ⟨Y,z⟩
  ·cases z
   exact⟨_,J,KO (Km y.n3) o⟩
  ·obtain⟨v,h1,h2⟩:=y.rs.rc.val j d z
   exact⟨v,h1,h2.mono s0⟩
 ·unfold Zn
  rw [if_neg]
  ·exact y.rs.ext.new c O I
  ·rintro⟨pl,h1,h2⟩
   rw [<- h2]at I;exact I (y.h0 pl h1).2
end
section
variable{K:PySem.W.Frag}{al:List (Nat×Pl)}{q:Addr}{E0 E H0 H H0' H':Hp}{σ σ':St}{γ γ':Ctx}{Z:TT}{ad:Pl->Addr}{k m:Nat}{R R':List (List Int)}{row r:List Int}
theorem jw{α:Type}{l:List α}{k z:Nat}{x d:α}(I:k<l.length):(l.set k x).getD z d=if z=k then x else l.getD z d:=by
 by_cases h:z=k
 ·subst h;rw [if_pos rfl,zhh,zhK I];rfl
 ·rw [if_neg h,zhh,zhl (zic h),zhh]
theorem j7(z:Z[k]? = some R)(I:R'.length=R.length){pl:Pl}:okPl (Z.set k R') pl↔okPl Z pl:=by
 have J:=(zhg.mp z).1;cases pl with
 | out=>exact Iff.rfl
 | tab j=>show j<_↔j<_;rw [ziL]
 | row j i=>
  show(j<_/\i<_)↔(j<_/\i<_);rw [ziL,jw J];by_cases h:j=k
  ·subst h;rw [if_pos rfl,zV z,I]
  ·rw [if_neg h]
theorem N3.putNum(n:N3 H Z ad)(I:Z[k]? = some R)(hm:R[m]? = some row):N3 (upd H (ad (.row k m)) (.lst (r.map V.int))) (Z.set k (R.set m r)) ad:=by
 have J:=(zhg.mp I).1;have Y:=(zhg.mp hm).1;have O:(R.set m r).length=R.length:=ziL;have ho:okPl Z (.row k m):=⟨J,by rw [zV I];exact Y⟩;refine⟨λpl o=>?_,λa b h1 h2 e=>n.inj a b ((j7 I O).mp h1) ((j7 I O).mp h2) e⟩;have o:=(j7 I O).mp o;by_cases e:pl = .row k m
 ·subst e
  rw [zv];congr 2;show _=(((Z.set k (R.set m r)).getD k []).getD m []).map V.int;rw [jw J,if_pos rfl,jw Y,if_pos rfl]
 ·rw [zy (λz=>e (n.inj _ _ o ho z)),n.cont pl o]
  congr 2;cases pl with
  | out=>show ziq _ _=ziq _ _;rw [ziL]
  | tab j=>
   show ziq _ _=ziq _ _;rw [jw J];by_cases h:j=k
   ·subst h;rw [if_pos rfl,zV I,O]
   ·rw [if_neg h]
  | row j i=>
   show ziq _ _=ziq _ _;rw [jw J];by_cases h:j=k
   ·subst h
    rw [if_pos rfl,zV I,jw Y,if_neg (λz=>e (by rw [z]))]
   ·rw [if_neg h]
def zew(ad:Pl->Addr)(k m:Nat)(q:Addr):Pl->Addr:=λpl=>if pl = .row k m then q else ad pl
theorem xp:zew ad k m q (.row k m)=q:=if_pos rfl
theorem qq{pl:Pl}(h:pl ≠ .row k m):zew ad k m q pl=ad pl:=if_neg h
theorem N3.putRow(n:N3 H Z ad)(I:Z[k]? = some R)(hm:m<R.length)(hq:H q=some (.lst (r.map V.int)))(hf : ∀pl,okPl Z pl->ad pl≠q) :
 N3 (upd H (ad (.tab k)) (.lst ((contOf Z ad (.tab k)).set m (.ref q)))) (Z.set k (R.set m r)) (zew ad k m q):=by
 have J:=(zhg.mp I).1;have Y:(R.set m r).length=R.length:=ziL;have ht:okPl Z (.tab k):=J;refine⟨λpl o=>?_,λa b h1 h2 e=>?_⟩
 ·have o:=(j7 I Y).mp o
  by_cases e:pl = .row k m
  ·subst e
   rw [xp,zy (λz=>hf _ ht z.symm),hq];congr 2;show _=(((Z.set k (R.set m r)).getD k []).getD m []).map V.int;rw [jw J,if_pos rfl,jw hm,if_pos rfl]
  ·rw [qq e]
   by_cases e2:pl = .tab k
   ·subst e2
    rw [zv];congr 2;show List.set (ziq _ _) _ _=ziq _ _;rw [jw J,if_pos rfl,Y,zV I];apply zjb;intro i;rw [List.getElem?_set];by_cases hi:m=i
    ·subst hi
     rw [if_pos rfl,if_pos (by simpa using hm)];simp [hm,xp]
    ·rw [if_neg hi]
     by_cases a3:i<R.length
     ·simp [a3,qq (show Pl.row k i ≠ .row k m by simp;omega)]
     ·simp [a3]
   ·rw [zy (λz=>e2 (n.inj _ _ o ht z)),n.cont pl o]
    congr 2;cases pl with
    | out=>show ziq _ _=ziq _ _;rw [ziL];exact zht λj _=>by rw [qq ⋯]
    | tab j=>
     have hj:j≠k:=λz=>e2 (by rw [z]);show ziq _ _=ziq _ _;rw [jw J,if_neg hj];exact zht λi _=>by rw [qq (by simp;omega)]
    | row j i=>
     show ziq _ _=ziq _ _;rw [jw J];by_cases h:j=k
     ·subst h
      rw [if_pos rfl,zV I,jw hm,if_neg (λz=>e (by rw [z]))]
     ·rw [if_neg h]
 ·have h1:=(j7 I Y).mp h1
  have h2:=(j7 I Y).mp h2;by_cases ea:a = .row k m
  ·by_cases O:b = .row k m
   ·rw [ea,O]
   ·rw [ea,xp,qq O]at e
    exact absurd e.symm (hf b h2)
  ·by_cases O:b = .row k m
   ·rw [O,xp,qq ea]at e
    exact absurd e (hf a h1)
   ·rw [qq ea,qq O]at e
    exact n.inj a b h1 h2 e
theorem QK{pl:Pl}(h:okPl (Z++[R]) pl):okPl Z pl\/pl = .tab Z.length\/∃i,pl = .row Z.length i/\i<R.length:=by
 cases pl with
 | out=>exact .inl h
 | tab j=>
  have:j<(Z++[R]).length:=h;by_cases e:j=Z.length
  ·exact .inr (.inl (by rw [e]))
  ·exact .inl (show j<Z.length by simp at this;omega)
 | row j i=>
  obtain⟨h1,h2⟩:=(show j<(Z++[R]).length/\i<((Z++[R]).getD j []).length from h);by_cases e:j=Z.length
  ·subst e
   refine .inr (.inr ⟨i,rfl,?_⟩);simpa [zhh]using h2
  ·have z:j<Z.length:=by simp at h1;omega
   refine .inl (show j<Z.length/\i<(Z.getD j []).length from⟨z,?_⟩);rw [zhh,zhL z,<- zhh]at h2;exact h2
def zaJ(ad:Pl->Addr)(n:Nat)(a:Addr)(bs:List Addr):Pl->Addr
 | .out=>ad .out
 | .tab j=>if j=n then a else ad (.tab j)
 | .row j i=>if j=n then bs.getD i a else ad (.row j i)
theorem kN{pl:Pl}{a:Addr}{bs:List Addr}(h:okPl Z pl):zaJ ad Z.length a bs pl=ad pl:=by
 cases pl with
 | out=>rfl
 | tab j=>show(if j=_ then _ else _)=_;rw [if_neg (zhG (show j<Z.length from h))]
 | row j i=>show(if j=_ then _ else _)=_;rw [if_neg (zhG (show j<Z.length/\_ from h).1)]
theorem N3.app{a:Addr}{bs:List Addr}(n:N3 H Z ad)(ha:H a=some (.lst (bs.map V.ref)))(hb : ∀(i:Nat) b r,bs[i]? = some b->R[i]? = some r->H b=some (.lst (r.map V.int)))(hl:bs.length=R.length)(nd:(a::bs).Nodup)
 (J : ∀pl,okPl Z pl->ad pl∉a::bs):N3 (upd H (ad .out) (.lst (contOf Z ad .out++[.ref a]))) (Z++[R]) (zaJ ad Z.length a bs):=by
 have a0:okPl Z .out:=zh6;have a6 : ∀i,i<R.length->∃b,bs[i]? = some b/\bs.getD i a=b:=λi hi=>⟨bs[i]'⋯,zhe ⋯,zV (zhe ⋯)⟩;have a1 : ∀{pl},okPl (Z++[R]) pl->(okPl Z pl/\zaJ ad Z.length a bs pl=ad pl)\/(pl = .tab Z.length/\zaJ ad Z.length a bs pl=a)\/∃i b,pl = .row Z.length i/\i<R.length/\bs[i]? = some b/\zaJ ad Z.length a bs pl=b:=λ{pl} o=>by
  rcases QK o with o | e | ⟨i,e,hi⟩
  ·exact .inl ⟨o,kN o⟩
  ·subst e;exact .inr (.inl ⟨rfl,if_pos rfl⟩)
  ·subst e
   obtain⟨b,h1,h2⟩:=a6 i hi;exact .inr (.inr ⟨i,b,rfl,hi,h1,by show(if Z.length=Z.length then _ else _)=_;rw [if_pos rfl];exact h2⟩)
 refine⟨λpl o=>?_,λx y h1 h2 e=>?_⟩
 ·rcases a1 o with⟨o',e⟩ | ⟨e1,e⟩ | ⟨i,b,e1,hi,O,e⟩
  ·rw [e]
   by_cases eo:pl = .out
   ·subst eo
    rw [zv];congr 2;show ziq _ _++_=ziq _ _;rw [zhQ,ziO,ziD,zhZ];congr 1
    ·exact zht λj Y=>by rw [kN (show okPl Z (.tab j)from zhp.mp Y)]
    ·show [_]=[_];congr 2;exact(if_pos rfl).symm
   ·rw [zy (λz=>eo (n.inj _ _ o' a0 z)),n.cont pl o']
    congr 2;cases pl with
    | out=>exact absurd rfl eo
    | tab j=>
     have Y:j<Z.length:=o';have I:(Z++[R]).getD j []=Z.getD j []:=by rw [zhh,zhL Y,<- zhh]
     show ziq _ _=ziq _ _;rw [I];exact zht λi hi=>by rw [kN (show okPl Z (.row j i)from⟨Y,zhp.mp hi⟩)]
    | row j i=>
     have Y:j<Z.length:=o'.1;have I:(Z++[R]).getD j []=Z.getD j []:=by rw [zhh,zhL Y,<- zhh]
     show ziq _ _=ziq _ _;rw [I]
  ·subst e1
   rw [e,zy (λz=>J _ a0 (by rw [<- z];exact zhq)),ha];congr 2;have I:(Z++[R]).getD Z.length []=R:=by simp [zhh]
   show _=ziq _ _;rw [I];apply zjb;intro i;by_cases hi:i<R.length
   ·obtain⟨b,h1,h2⟩:=a6 i hi
    rw [zhz,h1,zhz,ziX hi];show some (V.ref b)=some (V.ref (if Z.length=Z.length then _ else _));rw [if_pos rfl,h2]
   ·rw [ziP (by simp;omega),ziP (by simp;omega)]
  ·subst e1
   have a8:b∈bs:=zhE O;rw [e,zy (λz=>J _ a0 (by rw [<- z];exact zhs _ a8)),hb i b _ O (zhe hi)];congr 2;have I:(Z++[R]).getD Z.length []=R:=by simp [zhh]
   show _=ziq _ _;rw [I,zV (zhe hi)]
 ·obtain⟨n1,n2⟩:=zit.mp nd
  rcases a1 h1 with⟨o1,e1⟩ | ⟨rfl,e1⟩ | ⟨i,b,rfl,hi,O,e1⟩<;>rcases a1 h2 with⟨o2,e2⟩ | ⟨rfl,e2⟩ | ⟨i',b',rfl,ac,a5,e2⟩
  ·rw [e1,e2]at e;exact n.inj x y o1 o2 e
  ·rw [e1,e2]at e;exact absurd (by rw [e];exact zhq) (J x o1)
  ·rw [e1,e2]at e;exact absurd (by rw [e];exact zhs _ (zhE a5)) (J x o1)
  ·rw [e1,e2]at e;exact absurd (by rw [<- e];exact zhq) (J y o2)
  ·rfl
  ·rw [e1,e2]at e;exact absurd (by rw [e];exact zhE a5) n1
  ·rw [e1,e2]at e;exact absurd (by rw [<- e];exact zhs _ (zhE O)) (J y o2)
  ·rw [e1,e2]at e;exact absurd (by rw [<- e];exact zhE O) n1
  ·rw [e1,e2]at e;subst e
   rw [ZW n2 O a5]
end
def notRow:Pl->Bool
 | .row _ _=>false
 | _=>true
structure Kp(Z:TT)(ad:Pl->Addr)(Z':TT)(ad':Pl->Addr):Prop where
 len:Z.length<=Z'.length
 adr : ∀pl,notRow pl=true->okPl Z pl->ad' pl=ad pl
section
variable{Z Z' Z'':TT}{ad ad' ad'':Pl->Addr}
theorem Kp.refl:Kp Z ad Z ad:=⟨zhn _,λ_ _ _=>rfl⟩
theorem Kp.ok(h:Kp Z ad Z' ad'){pl:Pl}(n:notRow pl=true)(o:okPl Z pl):okPl Z' pl:=by
 cases pl with
 | out=>exact zh6
 | tab k=>exact zhx (show k<Z.length from o) h.len
 | row k m=>cases n
theorem Kp.trans(h:Kp Z ad Z' ad')(g:Kp Z' ad' Z'' ad''):Kp Z ad Z'' ad'':=
 ⟨zh3 h.len g.len,λpl n o=>by rw [g.adr pl n (h.ok n o),h.adr pl n o]⟩
end
def tY(K:PySem.W.Frag)(al:List (Nat×Pl))(F:YF):TS:=λD σ H=>∃E0 E H0 γ Z ad r,Y3 K al E0 E H0 H σ γ Z ad/\F γ Z=some r/\∀σ' H' H0' ad',Y3 K al E0 E H0' H' σ' r.1 r.2 ad'->Kp Z ad r.2 ad'->D.nx σ' H'
section
variable{X:Cx}{al:List (Nat×Pl)}{st:Stmt}{j3:List Stmt}{pos:Pos}
theorem Jx{F G:YF}(h1:PS X st (tY X.K al F))(h2:PSs X j3 (tY X.K al G)):PSs X (st::j3) (tY X.K al (vC F G)):=by
 intro pins s σ H D I J;refine(jA h1 h2) pins s σ H D I ?_;obtain⟨E0,E,H0,γ,Z,ad,r,y,z,O⟩:=J;obtain⟨Y,e1,z⟩:=bind_some z;exact⟨E0,E,H0,γ,Z,ad,Y,y,e1,λσ' H' H0' ad' y' k=>⟨E0,E,H0',_,_,ad',r,y',z,λσ2 H2 a2 a3 y2 k2=>O σ2 H2 a2 a3 y2 (k.trans k2)⟩⟩
theorem vG{F:YF}(h:PS X st (tY X.K al F)):PSs X [st] (tY X.K al F):=qN h
theorem zeq{c:Expr}{body:List Stmt}{t:CO Bool}{F:YF}(J:PTD X c t)(O:PSs X body (tY X.K al F)):PS X (.If c body [] pos) (tY X.K al (yIf t F)):=qc (zbr J O JL) λD σ H Y=>by
 obtain⟨E0,E,H0,γ,Z,ad,r,y,z,I⟩:=Y;obtain⟨b,e1,z⟩:=bind_some z;refine⟨H0,γ,b,y.rs.rc,e1,λH' H0' x=>?_⟩;cases b with
 | true=>rw [if_pos rfl]at z ⊢;exact⟨E0,E,H0',γ,Z,ad,r,y.step x,z,I⟩
 | false=>rw [if_neg zhA]at z ⊢;cases z;exact I _ _ H0' ad (y.step x) Kp.refl
theorem Yi{T:Tg}{x:Nat×Pl}(h:(al.map (·.1)).all (Kr · T)=true)(hx:x∈al):Kr x.1 T=true:=zhR.mp h _ (ziJ.mpr ⟨x,hx,rfl⟩)
theorem wt{K:PySem.W.Frag}{H0 H:Hp}{T:Tg}{d:D}{v:V}{σ:St}{γ γ1:Ctx}{Q:St->Hp->Prop}(s:Same H0 H)(h:Rep K H0 d v)(e:jN T d γ=some γ1)(J:(al.map (·.1)).all (Kr · T)=true)
 (q : ∀z,(∀x∈al,z[x.1]? = σ[x.1]?)->(∀E0 E,RS K E0 E H0 H σ γ->RS K E0 E H0 H z γ1)->Q z H):gOf K T v σ H Q:=by
 cases T with
 | nm j=>cases e;exact q _ (λx hx=>zhl (of_decide_eq_true (Yi J hx))) λE0 E r=>r.setVal h
 | tp is=>
  cases d with
  | tup ds=>
   simp only [jN]at e;by_cases I:ds.length=is.length
   ·rw [if_pos I]at e;cases e
    obtain⟨a,xs,rfl,h1,h2⟩:=(show ∃a xs,v = .ref a/\SqT K H0 a xs/\Reps K H0 ds xs from h);have hx:xs.length=is.length:=by rw [h2.length,I]
    exact⟨a,xs,rfl,sameT s h1,hx,JU hx (q _ (λx hx=>v7 (of_decide_eq_true (Yi J hx))) λE0 E r=>r.setAll h2)⟩
   ·rw [if_neg I]at e;cases e
  | _=>simp [jN]at e
theorem Vz{T:Tg}{f:CO D}(h:PS X st (Zi (tV X.K f) (gOf X.K T))):PS X st (tY X.K al (Jt (al.map (·.1)) T f)):=qc h λD σ H O=>by
 obtain⟨E0,E,H0,γ,Z,ad,r,y,z,Y⟩:=O;unfold Jt at z;split at z
 ·next ho=>
  obtain⟨d,e1,z⟩:=bind_some z;obtain⟨γ1,J,z⟩:=zm z;subst z;refine⟨H0,γ,d,y.rs.rc,e1,λv H1 a1 x1 r1=>?_⟩;have I:=y.step x1;exact wt x1.sub r1 J ho λσ1 hσ a4=>Y _ _ a1 ad (I.names (a4 _ _ I.rs) (Ya J I.pn) hσ) Kp.refl
 ·cases z
theorem VB{tg iter:Expr}{body:List Stmt}{src:CO (List D)}{T:Tg}{F:YF}(hp:PassesOwn (model X.prog X.w) X.A X.env X.xe)(hc:X.calm=true)(hi:PIF X tg iter src)(hg:PG X tg (gOf X.K T))(hb:PSs X body (tY X.K al F))
 (hs : ∀x,foldedSetIterable iter X.env x=pure x:=by intro _;rfl):PS X (.For tg iter body [] pos) (tY X.K al (Zh (al.map (·.1)) src T F)):=qc (K5 hp hc hi hg hb hs) λD σ H hZ=>by
 obtain⟨E0,E,H0,γ,Z,ad,r,y0,O,ag⟩:=hZ;unfold Zh at O;split at O
 ·next ah=>
  obtain⟨ds,e1,O⟩:=bind_some O;refine⟨H0,γ,ds,y0.rs.rc,e1,λJ H1 Y x1 wk=>?_⟩;have y:=y0.step x1;have hx:=y.rs.ext;refine⟨λn m σ H=>m=ds.length - n/\n<=ds.length/\∃H0 γ Z' ad',Y3 X.K al Y E H0 H σ γ Z' ad'/\Kp Z ad Z' ad'/\Zl T F (ds.drop n) γ Z'=some r,⟨_,rfl,zik _,Y,γ,Z,ad,⟨⟨y.rs.rc,hx.base,y.rs.fresh,y.rs.fr2⟩,y.pn,y.sl,y.n3,y.h0⟩,Kp.refl,O⟩,?_⟩;rintro n m σ3 H3 ⟨rfl,az,a5,γ3,Z3,a6,z,kp,I⟩;have a3:Same Y H3:=z.rs.ext.s0.trans z.rs.ext.sub;by_cases a1:n<ds.length
  ·refine .inr ⟨wk.go n H3 a3 a1,λσ H=>n+1<=ds.length/\∃H0 γ Z' ad',Y3 X.K al Y E H0 H σ γ Z' ad'/\Kp Z ad Z' ad'/\Zl T F (ds.drop (n+1)) γ Z'=some r,λσ' H' q=>⟨ds.length - (n+1),by omega,rfl,q.1,q.2⟩,λx H' yy=>?_⟩
   obtain⟨d,hd,am⟩:=wk.yld n H3 x H' a3 a1 yy;obtain⟨G0,xg,rg⟩:=am a5 z.rs.ext.s0 z.rs.rc.sub;have ao:ds.drop n=d::ds.drop (n+1):=by
    have ap:d=ds[n]:=by rw [zhe a1]at hd;exact(zhM hd).symm
    rw [ap];exact zje a1
   rw [ao]at I;obtain⟨γ4,eb,I⟩:=bind_some I;obtain⟨r4,eF,I⟩:=bind_some I;refine wt xg.sub rg eb ah λσ4 hσ av=>?_;have z1:=z.step xg;exact⟨Y,E,G0,γ4,Z3,a6,r4,z1.names (av Y E z1.rs) (Ya eb z1.pn) hσ,eF,λσ5 H5 aw ax q kq=>⟨a1,aw,_,_,ax,q,kp.trans kq,I⟩⟩
  ·have e:n=ds.length:=by omega
   subst e;rw [zjY]at I;cases I;exact .inl ⟨wk.stop H3 a3,ag σ3 H3 a5 a6 ⟨⟨z.rs.rc,hx.rebase z.rs.ext,z.rs.fresh,z.rs.fr2⟩,z.pn,z.sl,z.n3,z.h0⟩ kp⟩
 ·cases O
theorem J2{Z:TT}{ad:Pl->Addr}{k:Nat}(h:k<Z.length):(contOf Z ad .out)[k]? = some (.ref (ad (.tab k))):=by
 show(ziq _ _)[k]? = _;rw [zhz,ziX h];rfl
theorem J1{Z:TT}{ad:Pl->Addr}{k m:Nat}{R:List (List Int)}(z:Z[k]? = some R)(h:m<R.length):(contOf Z ad (.tab k))[m]? = some (.ref (ad (.row k m))):=by
 show(ziq _ _)[m]? = _;rw [zV z,zhz,ziX h];rfl
theorem vo{Z:TT}{ad:Pl->Addr}{k:Nat}{R:List (List Int)}(z:Z[k]? = some R):(contOf Z ad (.tab k)).length=R.length:=by
 show(ziq _ _).length=_;rw [zV z];simp
theorem zaA{n:Nat}{i:Int}{j:Nat}(h:ixD n i=some j):j<n:=(JT (wm h)).2.1
theorem Y3.alias{K:PySem.W.Frag}{E0 E H0 H:Hp}{σ:St}{γ:Ctx}{Z:TT}{ad:Pl->Addr}{j:Nat}{pl:Pl}(y:Y3 K al E0 E H0 H σ γ Z ad)(o:okPl Z pl)(I:j∉al.map (·.1))(J:j<γ.length) :
 Y3 K ((j,pl)::al) E0 E H0 H (σ.set j (some (.ref (ad pl)))) (γ.set j .no) Z ad:=
 ⟨y.rs.forget,y6 y.pn j rfl,λx hx=>by
  rcases zhv.mp hx with rfl | hx
  ·exact⟨o,zhK (by rw [y.rs.rc.len];exact J)⟩
  ·exact⟨(y.sl x hx).1,by rw [zhl (λz=>I (by rw [z];exact ziJ.mpr ⟨x,hx,rfl⟩))];exact(y.sl x hx).2⟩,y.n3,y.h0⟩
theorem zeZ{i j:Nat}{O:CO D}{F:Nat->YF}(hi:(i,Pl.out)∈al)(h1:PS X st (Zi (tOp (zgk X.K) (ki i) (tV X.K O)) (xj j)))(h2 : ∀k,PSs X j3 (tY X.K ((j,.tab k)::al) (F k))) :
 PSs X (st::j3) (tY X.K al (zcl (al.map (·.1)) j O F)):=by
 intro pins s σ H D I hZ;refine(jA h1 (u:=λD σ H=>∃k,tY X.K ((j,.tab k)::al) (F k) D σ H) (λpins s σ H D I ⟨k,h⟩=>h2 k pins s σ H D I h)) pins s σ H D I ?_;obtain⟨E0,E,H0,γ,Z,ad,r,y,J,a4⟩:=hZ;unfold zcl at J;split at J
 ·cases J
 ·next Y=>
  obtain⟨n,e1,J⟩:=bind_some J;obtain⟨dn,e2,e3⟩:=bind_some e1;obtain⟨k,e4,J⟩:=bind_some J;rw [jR e3]at e2;refine⟨_,(y.sl _ hi).2,H0,γ,_,y.rs.rc,e2,λv H1 a6 x1 r1=>?_⟩;have y1:=y.step x1;have hk:k<Z.length:=zaA e4;refine⟨_,contOf Z ad .out,n,.ref (ad (.tab k)),rfl,jg r1,SqL.of (y1.n3.cont .out zh6),?_,?_⟩
  ·unfold atI
   rw [show(contOf Z ad .out).length=Z.length by simp [contOf],wm e4];exact J2 hk
  ·refine⟨k,E0,E,a6,_,Z,ad,r,y1.alias (pl:= .tab k) hk (λz=>Y (.inl z)) (by rcases zhy j γ.length with z | z;exact z;exact absurd (.inr z) Y),J,λσ' H' H0' ad' y' kp=>a4 σ' H' H0' ad' (y'.weak λx hx=>zhs _ hx) kp⟩
theorem YC{K:PySem.W.Frag}{H:Hp}{ds:List D}{r:List Int}{xs:List V}(e:xi ds=some r)(h:Reps K H ds xs):xs=r.map V.int:=by
 rw [k4 e h];simp [kV,zim,zjp]
theorem Qe{j k:Nat}{bx:CO D}{f:CO (List D)}(hj:(j,Pl.tab k)∈al)(hn:(al.all λx=>notRow x.2)=true)(h:PS X st (Zi (tO X.K f) (zeL (ki j) (tV X.K bx) V6))) :
 PS X st (tY X.K al (xW j bx f k)):=qc h λD σ H hZ=>by
 obtain⟨E0,E,H0,γ,Z,ad,r0,y,J,ab⟩:=hZ;obtain⟨R,O,J⟩:=bind_some J;obtain⟨r,e1,J⟩:=bind_some J;obtain⟨ds,e2,e3⟩:=bind_some e1;obtain⟨n,e4,J⟩:=bind_some J;obtain⟨dn,e5,e6⟩:=bind_some e4;obtain⟨m,e7,J⟩:=zm J;subst J;rw [jR e6]at e5;obtain⟨G0,s0,rc⟩:=y.view hj;rw [show dOf Z (.tab k)=zct R by simp only [dOf,zV O]]at rc;refine⟨G0,_,ds,rc,e2,λa xs H1 G1 x1 Y f2 f3 rp=>?_⟩;have ex:=YC e3 rp;subst ex;have xk:Ext H0 H H0 H1:=Ext.keep y.rs.rc.sub x1.s1;have y1:=y.step xk;refine⟨_,(y1.sl _ hj).2,H0,γ,_,y1.rs.rc,e5,λv H2 a8 x2 r2=>?_⟩;have I:=y1.step x2;have ht:okPl Z (.tab k):=(zhg.mp O).1;have hm:m<R.length:=zaA e7;refine⟨_,contOf Z ad (.tab k),n,m,rfl,jg r2,I.n3.cont _ ht,by rw [vo O];exact wm e7,?_⟩;have ai:H0 a=none:=zS y.rs.rc.sub Y;have hl:(R.set m r).length=R.length:=ziL;have aj:a8 a=none:=x2.new a ai (by rw [f3];simp);have hE:E a=none:=by
  cases q:E a with
  | none=>rfl
  | some o=>rw [y.rs.ext.s1 a o q]at Y;cases Y
 refine ab σ _ a8 (zew ad k m a) ⟨I.rs.swap I.pn (λc o q=>?_) (λc o q=>?_),I.pn,λx hx=>?_,I.n3.putRow O hm (x2.s1 _ _ f3) (λpl o z=>?_),λpl o=>?_⟩ ⟨by simp,λpl np o=>qq (λz=>by rw [z]at np;cases np)⟩
 ·rw [zy (λz=>by rw [z,(I.h0 _ ht).1]at q;cases q)];exact I.rs.rc.sub c o q
 ·rw [zy (λz=>by rw [z,(I.h0 _ ht).2]at q;cases q)];exact I.rs.ext.s1 c o q
 ·have np:notRow x.2=true:=zhR.mp hn x hx
  exact⟨(j7 O hl).mpr (I.sl x hx).1,by rw [qq (λz=>by rw [z]at np;cases np)];exact(I.sl x hx).2⟩
 ·have:=y.n3.cont pl o
  rw [z,Y]at this;cases this
 ·have o:=(j7 O hl).mp o
  by_cases e:pl = .row k m
  ·rw [e,xp];exact⟨aj,hE⟩
  ·rw [qq e];exact I.h0 pl o
theorem Qf{j k m:Nat}{bx e:CO D}(Y:(j,Pl.row k m)∈al)(h:PS X st (Zi (tV X.K e) (zeL (ki j) (tV X.K bx) V6))) :
 PS X st (tY X.K al (xX j bx e k m)):=qc h λD σ H hZ=>by
 obtain⟨E0,E,H0,γ,Z,ad,r0,y,J,a6⟩:=hZ;obtain⟨R,O,J⟩:=bind_some J;obtain⟨row,hm,J⟩:=bind_some J;obtain⟨v,e1,J⟩:=bind_some J;obtain⟨dv,e2,e3⟩:=bind_some e1;obtain⟨n,e4,J⟩:=bind_some J;obtain⟨dn,e5,e6⟩:=bind_some e4;obtain⟨l,e7,J⟩:=zm J;subst J;rw [jR e3]at e2;rw [jR e6]at e5;obtain⟨G0,s0,rc⟩:=y.view Y;rw [show dOf Z (.row k m)=zcu row by simp only [dOf,zV O,zV hm]]at rc;refine⟨G0,_,_,rc,e2,λu H1 G1 x1 rp=>?_⟩;have y1:=y.step (Ext.keep y.rs.rc.sub x1.s1);refine⟨_,(y1.sl _ Y).2,H0,γ,_,y1.rs.rc,e5,λw H2 ac x2 r2=>?_⟩;have I:=y1.step x2;have ho:okPl Z (.row k m):=(y.sl _ Y).1;have hl:(R.set m (row.set l v)).length=R.length:=ziL;refine⟨_,contOf Z ad (.row k m),n,l,rfl,jg r2,I.n3.cont _ ho,?_,?_⟩
 ·rw [show(contOf Z ad (.row k m)).length=row.length by simp only [contOf,zV O,zV hm,zhB]];exact wm e7
 ·have ec:(contOf Z ad (.row k m)).set l u=(row.set l v).map V.int:=by
   rw [show contOf Z ad (.row k m)=row.map V.int by simp only [contOf,zV O,zV hm],show u=V.int v from rp,List.map_set]
  rw [ec];refine a6 σ _ ac ad ⟨I.rs.swap I.pn (λc o q=>?_) (λc o q=>?_),I.pn,λx hx=>⟨(j7 O hl).mpr (I.sl x hx).1,(I.sl x hx).2⟩,I.n3.putNum O hm,λpl o=>I.h0 pl ((j7 O hl).mp o)⟩ ⟨by simp,λpl np o=>rfl⟩
  ·rw [zy (λz=>by rw [z,(I.h0 _ ho).1]at q;cases q)];exact I.rs.rc.sub c o q
  ·rw [zy (λz=>by rw [z,(I.h0 _ ho).2]at q;cases q)];exact I.rs.ext.s1 c o q
theorem VA{i j k:Nat}{x y:Str}{a7 a1 ab:Pos}{body:List Stmt}{F:Nat->YF}(hp:PassesOwn (model X.prog X.w) X.A X.env X.xe)(hc:X.calm=true)(hi:(i,Pl.tab k)∈al)(hx:PE X (.Name x a1) (ki i))(Y:PG X (.Name y a7) (xj j))
 (hb : ∀m,PSs X body (tY X.K ((j,.row k m)::al) (F m))) (hf : ∀z,foldedSetIterable (.Name x a1) X.env z=pure z:=by intro _;rfl) :
 PS X (.For (.Name y a7) (.Name x a1) body [] ab) (tY X.K al (xY (al.map (·.1)) j F k)):=
 qc (K5 hp hc (Yb hx) Y (tb:=λD σ H=>∃m,tY X.K ((j,.row k m)::al) (F m) D σ H) (λpins s σ H D I ⟨m,h⟩=>hb m pins s σ H D I h) hf) λD σ H hZ=>by
  obtain⟨E0,E,H0,γ,Z,ad,r,y,O,ai⟩:=hZ;unfold xY at O;split at O
  ·cases O
  ·next hj=>
   obtain⟨R,hk,O⟩:=bind_some O;have ht:okPl Z (.tab k):=(zhg.mp hk).1;refine⟨_,(y.sl _ hi).2,_,.L,rfl,⟨_,SqL.of (y.n3.cont _ ht)⟩,?_⟩;refine⟨λt n σ' H'=>n=R.length - t/\t<=R.length/\∃H0' γ' Z' ad',Y3 X.K al E0 E H0' H' σ' γ' Z' ad'/\Kp Z ad Z' ad'/\(Z'[k]?).map ziQ=some R.length/\yF j F k R.length (R.length - t) γ' Z'=some r,
    ⟨_,rfl,zik _,H0,γ,Z,ad,y,Kp.refl,by rw [hk];rfl,O⟩,?_⟩
   rintro t n σ' H' ⟨rfl,au,H0',γ',Z',ad',y',kp,ak,J⟩;obtain⟨R',a0,a4⟩:=zm ak;have am:okPl Z' (.tab k):=kp.ok rfl ht;have a9:=y'.n3.cont _ am;rw [kp.adr (.tab k) rfl ht]at a9;have hq:SqL X.K H' (ad (.tab k)) (contOf Z' ad' (.tab k)):=SqL.of a9;have av:(contOf Z' ad' (.tab k)).length=R.length:=by rw [vo a0,a4]
   by_cases a6:t<R.length
   ·have Y:(contOf Z' ad' (.tab k))[t]? = some (.ref (ad' (.row k t))):=J1 a0 (by rw [a4];exact a6)
    refine .inr ⟨⟨_,_,hq,Y⟩,λσ' H'=>t+1<=R.length/\∃H0' γ' Z' ad',Y3 X.K al E0 E H0' H' σ' γ' Z' ad'/\Kp Z ad Z' ad'/\(Z'[k]?).map ziQ=some R.length/\yF j F k R.length (R.length - (t+1)) γ' Z'=some r,λσ2 H2 q=>⟨R.length - (t+1),by omega,rfl,q.1,q.2⟩,λv H2 yy=>?_⟩;obtain⟨e1,e2⟩:H2=H'/\_:=yy;have e2:=e2 _ hq;rw [Y]at e2;cases e2;subst e1;rw [show R.length - t=R.length - (t+1)+1 by omega]at J;simp only [yF]at J;split at J
    ·cases J
    ·next ax=>
     obtain⟨s,eF,J⟩:=bind_some J;split at J
     ·next ao=>
      rw [show R.length - (R.length - (t+1)+1)=t by omega]at eF;have o:okPl Z' (.row k t):=⟨(zhg.mp a0).1,by rw [zV a0,a4];exact a6⟩;exact⟨t,E0,E,H0',_,Z',ad',s,y'.alias o hj ⋯,eF,λσ3 H3 ap aq y3 k3=>⟨a6,ap,_,_,aq,y3.weak λx hx=>zhs _ hx,kp.trans k3,ao,J⟩⟩
     ·cases J
   ·have e:t=R.length:=by omega
    subst e;rw [Nat.sub_self]at J;cases J;exact .inl ⟨⟨_,hq,by omega⟩,ai σ' H' H0' ad' y' kp⟩
end
open Classical in
def vO(H:Hp)(Z:TT)(ad:Pl->Addr):Hp:=λc=>if ∃pl,okPl Z pl/\ad pl=c then none else H c
section
variable{H:Hp}{Z:TT}{ad:Pl->Addr}
theorem zbL{pl:Pl}(h:okPl Z pl):vO H Z ad (ad pl)=none:=by unfold vO;rw [if_pos ⟨pl,h,rfl⟩]
theorem WB:Same (vO H Z ad) H:=λc o q=>by
 unfold vO at q;split at q
 ·cases q
 ·exact q
theorem zbK{c:Addr}{o:HO}(h:H c=some o)(hn : ∀pl,okPl Z pl->ad pl≠c):vO H Z ad c=some o:=by
 unfold vO;rw [if_neg]
 ·exact h
 ·rintro⟨pl,h1,h2⟩;exact hn pl h1 h2
end
def spY(K:PySem.W.Frag)(n1 n2:Nat)(F:List D->List D->TT->Option TT):Sp:=λvs H Q _=>∃H0 ds es us z Z Z' ad,vs=us++V.ref (ad .out)::z/\Same H0 H/\Reps K H0 ds us/\Reps K H0 es z/\ds.length=n1/\es.length=n2/\N3 H Z ad/\(∀pl,okPl Z pl->H0 (ad pl)=none)/\F ds es Z=some Z'/\
 ∀H' H0' ad',Ext H0 (vO H Z ad) H0' H'->N3 H' Z' ad'->(∀pl,okPl Z' pl->H0' (ad' pl)=none/\vO H Z ad (ad' pl)=none)->Kp Z ad Z' ad'->Q .non H'
structure FnY(P:Program)(w:World)(K:PySem.W.Frag)(mg:Str->Option Value)(base:Heap)(k:Nat)(x:Str)(n1 n2:Nat)(F:List D->List D->TT->Option TT):Prop where
 ex : ∃(f:Addr) (fd:FuncData) (ps:List Str),ps.length=n1+1+n2/\FnOk P w K mg base CX0 k f fd ps (spY K n1 n2 F)/\mg x=some (.ref f)/\PySem.W.keepIn K (.ref f)=true/\Binds K fd ps []
theorem Kx{N:List Str}{us z:List V}{a b:V}:(start N (us++a::z)).set us.length (some b)=start N (us++b::z):=by
 unfold L2.start;simp only [zhZ,zhI,zkA,List.cons_append,zhQ,zhJ];rw [List.set_append_right _ _ ⋯];simp
theorem Wj(n:Nat)(ds:List D):(jx n ds).all isPl=true:=by
 refine zhR.mpr λc I=>?_;unfold jx at I;rcases zi5.mp I with z | z
 ·obtain⟨d,_,rfl⟩:=ziJ.mp z;rfl
 ·rw [(List.mem_replicate.mp z).2];rfl
section
variable{P:Program}{w:World}{K:PySem.W.Frag}{mg:Str->Option Value}{base:Heap}
theorem zgZ{x:Str}{st:Stmt}{N ps:List Str}{k n1 n2:Nat}{F:YF}(A:DefAt K mg x st ps)(hd:vS N ps st=true)(Y:ps.length=n1+1+n2)
 (a2 : ∀X:Cx,X.prog=P->X.w=w->X.K=K->X.mg=mg->X.base=base->SX X (defScope st) N N k->X.xe=(λ_ _=>False)->PSs X (defBody st) (tY X.K [(n1,.out)] F)) :
 FnY P w K mg base (k+1) x n1 n2 (zfj N.length n1 F):=by
 obtain⟨f,fd,Fu,hb,hm⟩:=A.ex;have S:=qx hd;refine⟨f,fd,ps,Y,?_,hm,Fu.kp,.all hb⟩;refine Fu.ok S (λvs H Q E h=>?_) (λcdv A outer s H vs Q E hr h=>⟨_,a2 _ rfl rfl rfl rfl rfl ⟨rfl,rfl,S.nd,rfl,hr,λ_ _=> .inl rfl⟩ rfl,?_⟩)
 ·obtain⟨H0,ds,es,us,ws,Z,Z',ad,e,_,z,r2,I,l2,_⟩:=h
  rw [e,zhQ,zhJ,z.length,r2.length,I,l2,Y];omega
 obtain⟨H0,ds,es,us,ws,Z,Z',ad,e,s0,z,r2,I,l2,n3,h0,ef,q⟩:=h;subst e;obtain⟨r,e1,e2⟩:=zm ef;subst e2;have a8:ps.length<=N.length:=by have:=congrArg ziQ S.pre;rw [ziG]at this;omega
 have a6:(ds++D.non::es).length<=N.length:=by rw [zhQ,zhJ,I,l2];omega
 have J:=(yq s0 (z.append (Reps.cons (d:=D.non) (x:=V.non) (show V.non = .non from rfl) r2)) a6).forget (i:=n1) (v:=some (.ref (ad .out)));have O:us.length=n1:=by rw [z.length,I]
 rw [<- O,Kx]at J;rw [O]at J;have pn:=y6 (Wj N.length (ds++D.non::es)) n1 (c:= .no) rfl;refine⟨H0,vO H Z ad,H0,_,Z,ad,r,⟨RS.pl J.rc ⟨Same.refl _,WB,s0,λ_ h _=>h⟩ pn,pn,λy hy=>?_,n3,λpl o=>⟨h0 pl o,zbL o⟩⟩,e1,λσ' H' H0' ad' y kp=>q H' H0' ad' y.rs.ext y.n3 y.h0 kp⟩;rw [zil.mp hy];refine⟨zh6,?_⟩;show(start N (us++V.ref (ad .out)::ws))[n1]? = _;unfold L2.start;rw [<- O,zhZ,zhI,zkA,zhS ⋯];simp
end
def tAY(K:PySem.W.Frag)(ga:CO (List D))(i:Nat)(gb:CO (List D)):TA:=λσ H Q=>∃H0 γ ds es v,RC K H0 H σ γ/\ga γ=some ds/\gb γ=some es/\σ[i]? = some (some v)/\
 ∀us z H' H0',Ext H0 H H0' H'->Reps K H0' ds us->Reps K H0' es z->Q (us++v::z) H'
section
variable{X:Cx}{sc:Scope}{N L:List Str}{k j n1 n2 i:Nat}{e:Expr}{es:List Expr}{f:CO D}{ga gb:CO (List D)}{pos p:Pos}{x:Str}{F:List D->List D->TT->Option TT}{al:List (Nat×Pl)}
theorem zbC(z:PE X e (ki i))(I:PAD X es gb)(J:starEach (e::es) X.env=(false,eval e X.env)::starEach es X.env:=by rfl):PA X (e::es) (tAY X.K zz i gb):=
 Wr (zF z I J) λσ H Q O=>by
  obtain⟨H0,γ,ds,fs,v,rc,e1,e2,Y,q⟩:=O;cases e1;exact⟨v,Y,H0,γ,fs,rc,e2,λws H' H0' x r=>q [] ws H' H0' x Reps.nil r⟩
theorem QI(ha:PV X e f)(I:PA X es (tAY X.K ga i gb))(J:starEach (e::es) X.env=(false,eval e X.env)::starEach es X.env:=by rfl):PA X (e::es) (tAY X.K (zc f ga) i gb):=
 Wr (zF ha I J) λσ H Q O=>by
  obtain⟨H0,γ,ds,fs,v,rc,e1,e2,Y,q⟩:=O;obtain⟨d,e4,e1⟩:=bind_some e1;obtain⟨dr,e5,e1⟩:=zm e1;subst e1;exact⟨H0,γ,d,rc,e4,λu H1 a3 x1 r1=>⟨a3,γ,dr,fs,v,rc.ext x1,e5,e2,Y,λus ws H2 a6 z r2 r3=>q (u::us) ws H2 a6 (x1.trans z) (Reps.cons (r1.mono z.s0) r2) r3⟩⟩
theorem zcx(hf:FnY X.prog X.w X.K X.mg X.base j x n1 n2 F)(hj:j<=k)(h:SX X sc N L k)(c:xT sc x=true)(hi:(i,Pl.out)∈al)(hn:(al.all λx=>notRow x.2)=true)(ha:PA X (e::es) (tAY X.K ga i gb))
 (l1 : ∀γ ds,ga γ=some ds->ds.length=n1) (l2 : ∀γ ds,gb γ=some ds->ds.length=n2) {pos2:Pos}
 (he:starEach (e::es) X.env=(false,eval e X.env)::starEach es X.env:=by rfl) (a5:(backTo pos (starEach es X.env)).any (·.1)=false:=by rfl)
 (hs:swapsWith (.Call (.Name x p) (e::es) [] pos) none pos2.line X.env=pure false:=by rfl) :
 PS X (.Expr (.Call (.Name x p) (e::es) [] pos) pos2) (tY X.K al (VE F ga gb)):=by
 obtain⟨fa,fd,ps,ai,G,hm,hk,hb⟩:=hf.ex;refine qc (wP (xt (E:=E0) G (h.room.mono hj) (h.gl c).1 hm hk hb .nil y7 ha (h.gl c).2.2 he a5) hs) λD σ H hZ=>?_;obtain⟨E0,E,H0,γ,Z,ad,r,y,J,aa⟩:=hZ;obtain⟨ds,e1,J⟩:=bind_some J;obtain⟨fs,e2,J⟩:=bind_some J;obtain⟨Z',e3,J⟩:=zm J;subst J;refine⟨H0,γ,ds,fs,_,y.rs.rc,e1,e2,(y.sl _ hi).2,λus ws H1 ac x1 r1 r2=>?_⟩;have I:=y.step x1;show spY X.K n1 n2 F ((us++V.ref (ad .out)::ws)++[]) H1 _ _;rw [zjE];refine⟨ac,ds,fs,us,ws,Z,Z',ad,rfl,I.rs.rc.sub,r1,r2,l1 γ ds e1,l2 γ fs e2,I.n3,λpl o=>(I.h0 pl o).1,e3,λH' H0' ad' O n3 h0 kp=>aa σ H' H0' ad' ?_ kp⟩;have Y : ∀c o,E c=some o->vO H1 Z ad c=some o:=λc o q=>zbK (I.rs.ext.s1 c o q) λpl ho z=>by rw [<- z,(I.h0 pl ho).2]at q;cases q
 refine⟨RS.pl (RC.pl O.sub I.rs.rc.len (λi d g=>?_) I.pn) ⟨I.rs.ext.s0.trans O.s0,λc o q=>O.s1 c o (Y c o q),O.sub,λc q1 q2=>?_⟩ I.pn,I.pn,λx hx=>?_,n3,λpl o=>⟨(h0 pl o).1,?_⟩⟩
 ·obtain⟨v,g1,g2⟩:=I.rs.rc.val i d g
  exact⟨v,g1,g2.mono O.s0⟩
 ·refine O.new c (I.rs.ext.new c q1 q2) ?_
  cases q:E c with
  | none=>exact absurd q q2
  | some o=>rw [Y c o q];simp
 ·have np:notRow x.2=true:=zhR.mp hn x hx
  obtain⟨o,g⟩:=I.sl x hx;exact⟨kp.ok np o,by rw [kp.adr _ np o];exact g⟩
 ·cases q:E (ad' pl)with
  | none=>rfl
  | some o'=>have:=(h0 pl o).2;rw [Y _ o' q]at this;cases this
end
def zgH(K:PySem.W.Frag)(E0 E:Hp)(Q:VK)(d:D)(Z:TT):Prop:=∀t v ad H' H0',Ext E0 E H0' H'->Rep K H0' d v->H' t=some (.tup [v,.ref (ad .out)])->N3 H' Z ad->(∀pl,okPl Z pl->H0' (ad pl)=none/\E (ad pl)=none)->Q (.ref t) H'
def tL(K:PySem.W.Frag)(G:LF):TS:=λD σ H=>∃E0 E H0 γ r,RS K E0 E H0 H σ γ/\G γ=some r/\zgH K E0 E D.rt r.1 r.2
def spL(K:PySem.W.Frag)(n:Nat)(F:List D->Option (D×TT)):Sp:=λvs H Q _=>∃H0 ds r,Same H0 H/\Reps K H0 ds vs/\ds.length=n/\F ds=some r/\zgH K H0 H Q r.1 r.2
structure FnL(P:Program)(w:World)(K:PySem.W.Frag)(mg:Str->Option Value)(base:Heap)(k:Nat)(x:Str)(n:Nat)(F:List D->Option (D×TT)):Prop where
 ex : ∃(f:Addr) (fd:FuncData) (ps:List Str),ps.length=n/\FnOk P w K mg base CX0 k f fd ps (spL K ps.length F)/\mg x=some (.ref f)/\PySem.W.keepIn K (.ref f)=true/\Binds K fd ps []
section
variable{P:Program}{w:World}{K:PySem.W.Frag}{mg:Str->Option Value}{base:Heap}
theorem zg0{x:Str}{st:Stmt}{N ps:List Str}{k:Nat}{G:LF}(A:DefAt K mg x st ps)(hd:vS N ps st=true)
 (O : ∀X:Cx,X.prog=P->X.w=w->X.K=K->X.mg=mg->X.base=base->SX X (defScope st) N N k->X.xe=(λ_ _=>False)->PSs X (defBody st) (tL X.K G)) :
 FnL P w K mg base (k+1) x ps.length (zbe N.length G):=by
 obtain⟨f,fd,I,Y,hm⟩:=A.ex;have S:=qx hd;refine⟨f,fd,ps,rfl,?_,hm,I.kp,.all Y⟩;refine I.ok S (λvs H Q E h=>?_) (λcdv A outer s H vs Q E hr h=>⟨_,O _ rfl rfl rfl rfl rfl ⟨rfl,rfl,S.nd,rfl,hr,λ_ _=> .inl rfl⟩ rfl,?_⟩)
 ·obtain⟨H0,ds,r,_,z,J,_⟩:=h
  rw [z.length,J]
 obtain⟨H0,ds,r,s0,z,J,ef,q⟩:=h;have a2:ps.length<=N.length:=by have:=congrArg ziQ S.pre;rw [ziG]at this;omega
 exact⟨H0,H,H0,_,r,yq s0 z ⋯,ef,q⟩
end
section
variable{X:Cx}{sc:Scope}{N L:List Str}{k j i n w:Nat}{st:Stmt}{j3:List Stmt}{e e2:Expr}{es:List Expr}{f:CO D}{g:CO (List D)}{pos p:Pos}{x:Str}{al:List (Nat×Pl)}
theorem zdF{F:CO Fl}{G:LF}(h1:PSD X st F)(h2:PSs X j3 (tL X.K G)):PSs X (st::j3) (tL X.K (zfy F G)):=by
 intro pins s σ H D I O;refine(jA h1 h2) pins s σ H D I ?_;obtain⟨E0,E,H0,γ,r,rs,z,Y⟩:=O;obtain⟨J,e1,z⟩:=bind_some z;refine⟨E0,E,H0,γ,J,rs,e1,?_⟩;cases J with
 | next γ'=>exact λσ' H' H0' a0=>⟨E0,E,H0',γ',r,a0,z,Y⟩
 | brk γ'=>cases z
 | cont γ'=>cases z
 | ret r=>cases z
theorem y8{E H:Hp}{c:Addr}(s:Same E H)(h:H c=none):E c=none:=by
 cases q:E c with
 | none=>rfl
 | some o=>rw [s c o q]at h;cases h
theorem zfx{a0 a1:Stmt}{F:YF}{kx:Nat}{tpos:Pos}(h1:PS X a0 (Zi (zgg zag) (xj i)))(h2:PS X a1 (tY X.K [(i,.out)] F))(he:PV X e f)(hv:PE X e2 (ki i))
 (hs:starEach [e,e2] X.env=(false,eval e X.env)::starEach [e2] X.env:=by rfl) (a5:starEach [e2] X.env=(false,eval e2 X.env)::starEach [] X.env:=by rfl) :
 PSs X [a0,a1,.Return (some (.Tuple [e,e2] kx tpos)) pos] (tL X.K (zcr i F f)):=by
 intro pins s σ H D I hZ;refine(jA h1 (jA h2 (qN (ku (zas (zF he (zF hv jp a5) hs)))))) pins s σ H D I ?_;obtain⟨E0,E,H0,γ,r,rs,z,a7⟩:=hZ;unfold zcr at z;split at z
 ·next hc=>
  obtain⟨a9,aa⟩:=hc;obtain⟨s2,e1,z⟩:=bind_some z;obtain⟨d,e3,z⟩:=zm z;subst z;refine⟨zik _,λq O=>?_⟩;have ac:H0 q=none:=zS rs.rc.sub O;have hE:E q=none:=y8 rs.ext.s1 O;have r1:RS X.K E0 E H0 (upd H q (.lst [])) (σ.set i (some (.ref q))) (γ.set i .no):=(rs.forget (v:=some (.ref q))).step (Ext.hide rs.rc.sub O _);have Y : ∀pl,okPl ([]:TT) pl->pl = .out:=λpl o=>by
   cases pl with
   | out=>rfl
   | tab k=>exact absurd (show k<0 from o) (zhC _)
   | row k m=>exact absurd (show k<0/\_ from o).1 (zhC _)
  refine⟨E0,E,H0,γ.set i .no,[],λ_=>q,s2,⟨r1,a9,λy hy=>?_,⟨λpl o=>?_,λa b o1 o2 _=>by rw [Y a o1,Y b o2]⟩,λpl o=>⟨ac,hE⟩⟩,e1,λσ' H' H0' ad' y kp=>?_⟩
  ·rw [zil.mp hy]
   exact⟨zh6,zhK (by rw [rs.rc.len];exact aa)⟩
  ·rw [Y pl o,zv];rfl
  ·refine⟨H0',_,d,y.rs.rc,e3,λv H2 aj x2 r2=>⟨_,(y.sl _ (zil.mpr rfl)).2,(show 2<=sizeLine by decide),λt ht=>?_⟩⟩
   have J:=y.step x2;have x3:=Ext.hide J.rs.rc.sub ht (.tup [v,.ref (ad' .out)]);exact a7 t v ad' _ aj (J.rs.ext.trans x3) r2 zv (J.n3.step x3.s1) J.h0
 ·cases z
def tYC(K:PySem.W.Frag)(i:Nat)(F:YF)(G:CO Fl):TS:=λD σ H=>∃E0 E H0 γ Z ad r z,Y3 K [(i,.out)] E0 E H0 H σ γ Z ad/\F γ Z=some r/\G (r.1.set i (.val (zaG r.2)))=some z/\Sat K E0 E D z
theorem zae{G:CO Fl}(h:Xi X j3 G):PSs X j3 (tYC X.K i zcm G):=by
 intro pins s σ H D I z;refine h pins s σ H D I ?_;obtain⟨E0,E,H0,γ,Z,ad,r,J,y,O,Y,a0⟩:=z;cases O;obtain⟨G0,rs⟩:=y.shown (zil.mpr rfl);exact⟨E0,E,G0,_,J,rs,Y,a0⟩
theorem zaM{F J:YF}{G:CO Fl}(h1:PS X st (tY X.K [(i,.out)] F))(h2:PSs X j3 (tYC X.K i J G)):PSs X (st::j3) (tYC X.K i (vC F J) G):=by
 intro pins s σ H D I O;refine(jA h1 h2) pins s σ H D I ?_;obtain⟨E0,E,H0,γ,Z,ad,r,Y,y,z,eG,a1⟩:=O;obtain⟨r1,e1,z⟩:=bind_some z;exact⟨E0,E,H0,γ,Z,ad,r1,y,e1,λσ' H' H0' ad' y' _=>⟨E0,E,H0',_,_,ad',r,Y,y',z,eG,a1⟩⟩
theorem ZN(w i:Nat){F:YF}{G:CO Fl}{Lf:List D->Option (D×TT)}{tg:Expr}(hf:FnL X.prog X.w X.K X.mg X.base j x n Lf)(hj:j<=k)(h:SX X sc N L k)(c:xT sc x=true)(ha:PAn X (e::es) n g)(hg:PG X tg (gOf X.K (.tp [w,i])))
 (h2:PSs X j3 (tYC X.K i F G)) {pos2:Pos}
 (he:starEach (e::es) X.env=(false,eval e X.env)::starEach es X.env:=by rfl) (a4:(backTo pos (starEach es X.env)).any (·.1)=false:=by rfl)
 (hs:swapsWithSole [tg] (.Call (.Name x p) (e::es) [] pos) pos2.line X.env=pure false:=by rfl) (hw:swappedStores [tg] (.Call (.Name x p) (e::es) [] pos) X.env=pure none:=by rfl)
 (hh:(assignEach [tg] X.env).map (·.2)=[assign tg X.env]:=by rfl) :
 Xi X (.Assign [tg] (.Call (.Name x p) (e::es) [] pos) pos2::j3) (zZ (wJ w i Lf g F) G):=by
 obtain⟨fa,fd,ps,a7,Gf,hm,hk,hb⟩:=hf.ex;subst a7;intro pins s σ H D I hZ;refine(jA (wc (xt (E:=E0) Gf (h.room.mono hj) (h.gl c).1 hm hk hb .nil y7 ha.1 (h.gl c).2.2 he a4) hg hs hw hh) h2) pins s σ H D I ?_;obtain⟨E0,E,H0,γ,fl,rs,O,ae⟩:=hZ;obtain⟨f1,J,O⟩:=bind_some O;unfold wJ at J;split at J
 ·next Y=>
  obtain⟨af,ag,ax⟩:=Y;obtain⟨ds,e1,J⟩:=bind_some J;obtain⟨r,e2,J⟩:=bind_some J;obtain⟨s2,e3,J⟩:=zm J;subst J;refine⟨H0,γ,ds,rs.rc,e1,λvs H1 ai x1 r1=>⟨ai,ds,r,x1.sub,by simpa using r1,ha.2 γ ds e1,e2,?_⟩⟩;intro t v ad H2 ak x2 rv ht n3 h0;refine⟨t,_,rfl,SqT.of ht,rfl,v,_,rfl,_,_,rfl,rfl,?_⟩;have ap:=(rs.step x1).step x2;have aq:Same E H1:=(rs.step x1).ext.s1;have ar:=(ap.setVal (i:=w) rv).forget (i:=i) (v:=some (.ref (ad .out)));have pn:((γ.set w (.val r.1)).set i .no).all isPl=true:=by
   refine zhR.mpr λc Y=>?_;obtain⟨m,hm⟩:=zjy Y;rcases zB hm with⟨_,z,_⟩ | ⟨as,z⟩
   ·rw [z];rfl
   ·rcases zB z with⟨_,z,_⟩ | ⟨au,z⟩
    ·rw [z];rfl
    ·refine zhR.mp af c (zhE (i:=m) ?_)
     rw [zhl (zic as),zhl (zic au)];exact z
  refine⟨E0,E,ak,_,r.2,ad,s2,fl,⟨ar,pn,λy hy=>?_,n3,λpl o=>⟨(h0 pl o).1,y8 aq (h0 pl o).2⟩⟩,e3,O,ae⟩;rw [zil.mp hy];exact⟨zh6,zhK (by simp [rs.rc.len];exact ag)⟩
 ·cases J
theorem wK : ∀{rows:List (List D)} {R:List (List Int)} {m:Nat},KM rows=some R->rows.length=R.length/\∀row,rows[m]? = some row->∃r,R[m]? = some r/\xi row=some r
 | [],R,m,h=>by cases h;exact⟨rfl,λrow e=>by simp at e⟩
 | row::rows,R,m,h=>by
  obtain⟨a,e1,h⟩:=bind_some h;obtain⟨b,e2,h⟩:=zm h;subst h;refine⟨by simp [(wK (m:=0) e2).1],λz e=>?_⟩;cases m with
  | zero=>cases e;exact⟨a,rfl,e1⟩
  | succ m=>exact(wK (m:=m) e2).2 z (by simpa using e)
theorem QQ : ∀γ ds,zz γ=some ds->ds.length=0:=λγ ds h=>by cases h;rfl
theorem qI{n:Nat}{f:CO D}{g:CO (List D)}(z : ∀γ ds,g γ=some ds->ds.length=n) : ∀γ ds,zc f g γ=some ds->ds.length=n+1:=λγ ds h=>by
 obtain⟨d,_,h⟩:=bind_some h;obtain⟨I,e,h⟩:=zm h;subst h;rw [zhJ,z γ I e]
theorem VC{f:CO (List (List D))}(hi:(i,Pl.out)∈al)(hn:(al.all λx=>notRow x.2)=true)(h:PE X e (tBM X.K "list" JE (ki i) (yk (tN X.K f) zag)))(hs:swapsWith e none pos.line X.env=pure false:=by rfl) :
 PS X (.Expr e pos) (tY X.K al (zcy f)):=qc (wP h hs) λD σ H hZ=>by
 obtain⟨E0,E,H0,γ,Z,ad,r,y,J,a7⟩:=hZ;obtain⟨R,e1,J⟩:=bind_some J;obtain⟨rows,e2,Y⟩:=bind_some e1;split at J
 ·next hl=>
  cases J;refine⟨_,(y.sl _ hi).2,.inl ⟨rfl,_,SqL.of (y.n3.cont .out zh6)⟩,H0,γ,rows,y.rs.rc,e2,λa bs H1 a9 x1 O nst=>?_⟩;have I:=y.step x1;refine⟨_,_,_,rfl,rfl,I.n3.cont .out zh6,?_,?_⟩
  ·rw [show(contOf Z ad .out).length=Z.length by simp [contOf]]
   exact zhx hl (qR (zhn _))
  ·have aa : ∀pl,okPl Z pl->ad pl∉a::bs:=λpl o hm=>by
    have:=O _ hm;rw [y.n3.cont pl o]at this;cases this
   have ab:bs.length=R.length:=by rw [nst.len,(wK (m:=0) Y).1]
   have n3:=I.n3.app (R:=R) nst.ha (λm b r hb hr=>by
    have hm:m<rows.length:=by rw [<- nst.len];exact(zhg.mp hb).1
    obtain⟨r',g1,g2⟩:=(wK (m:=m) Y).2 _ (zhe hm);rw [hr]at g1;cases g1;obtain⟨_,xs,q1,q2⟩:=nst.row m b _ hb (zhe hm);rw [q1,YC g2 q2]) ab nst.nd aa
   have kp:Kp Z ad (Z++[R]) (zaJ ad Z.length a bs):=⟨by simp,λpl np o=>kN o⟩;refine a7 σ _ a9 _ ⟨I.rs.swap I.pn (λc o q=>?_) (λc o q=>?_),I.pn,λx hx=>?_,n3,λpl o=>?_⟩ kp
   ·rw [zy (λz=>by rw [z,(I.h0 .out zh6).1]at q;cases q)];exact I.rs.rc.sub c o q
   ·rw [zy (λz=>by rw [z,(I.h0 .out zh6).2]at q;cases q)];exact I.rs.ext.s1 c o q
   ·have np:notRow x.2=true:=zhR.mp hn x hx
    obtain⟨o,g⟩:=I.sl x hx;exact⟨kp.ok np o,by rw [kp.adr _ np o];exact g⟩
   ·rcases QK o with o | e | ⟨m,e,hm⟩
    ·rw [kN o];exact I.h0 pl o
    ·subst e
     rw [show zaJ ad Z.length a bs (.tab Z.length)=a from if_pos rfl];exact⟨nst.a0,y8 y.rs.ext.s1 (O a zhq)⟩
    ·subst e
     have a3:bs[m]? = some (bs[m]'⋯):=zhe ⋯;have a4:bs[m]'⋯∈a::bs:=zhs _ (zhE a3);rw [show zaJ ad Z.length a bs (.row Z.length m)=bs[m]'⋯by show(if Z.length=Z.length then _ else _)=_;rw [if_pos rfl];exact zV a3];exact⟨(nst.at a4).1,y8 y.rs.ext.s1 (O _ a4)⟩
 ·cases J
theorem Wi{scope:Scope}{own:List Str}{fr:List (Str×Nat)}{elt tg iter:Expr}{src:CO (List D)}{T:Tg}{f:CO (List D)}
 (z:X.calm=true) (ok:CompOk X scope fr) (I : ∀i∈T.idx,i<own.length) (hi:PIC X tg iter src) (J : ∀fp s2 H2,PG (zT X scope (own++fr.map (·.1)) fp s2 H2) tg (gOf X.K T))
 (he : ∀fp s2 H2,PO (zT X scope (own++fr.map (·.1)) fp s2 H2) elt f) (O : ∀x,foldedSetIterable iter X.env x=pure x:=by intro _;rfl) :
 PE X (.ListComp elt [⟨tg,iter,[],0⟩] scope pos) (tN X.K (ZB src T own.length (fr.map (·.2)) f)):=
 jK (wS z ok hi J (λ_ _ _=>wQ) he O) (Kb I λσ H Q Y=>by obtain⟨H0,γ,b,rc,ef,q⟩:=Y;cases ef;exact q H H0 (Ext.refl rc.sub))
theorem ze0{a:Expr}{f:CO (List (List D))}(i:Nat){apos cpos np:Pos}(hi:(i,Pl.out)∈al)(hn:(al.all λx=>notRow x.2)=true)(h:SX X sc N L k)(c:Jy sc N i x=true)(ha:PE X a (tN X.K f))(z:starEach [a] X.env=[(false,eval a X.env)]:=by rfl)
 (I:attributeBase (.Name x np) "append" X.env (eval (.Name x np) X.env)=eval (.Name x np) X.env:=by rfl)
 (J:((backTo cpos (starEach [a] X.env)).all (λx=> !x.1) && (backToKw cpos (keywordEach [] X.env)).all (λx=>x.1.isSome)
   && decide ([a].length+([]:List Keyword).length+(if ([]:List Keyword).isEmpty then 0 else 1)<30))=true:=by rfl)
 (O:(apos.endLine==cpos.line)=true:=by rfl) (Y:swapsWith (.Call (.Attribute (.Name x np) "append" apos) [a] [] cpos) none pos.line X.env=pure false:=by rfl) :
 PS X (.Expr (.Call (.Attribute (.Name x np) "append" apos) [a] [] cpos) pos) (tY X.K al (zcy f)):=
 VC hi hn (Wp zji PySem.F.slot_list_append PySem.F.type_list_append ZY (h.var c) (zF ha jp z) I J O z rfl) Y
theorem zcw{I:CO D}{F:Nat->YF}{y:Str}{z:Expr}{np J:Pos}(i j:Nat)(hi:(i,Pl.out)∈al)(h:SX X sc N L k)(c:Jy sc N i x=true)(ct:Jz sc N L j y=true)(O:PV X z I)(h2 : ∀k,PSs X j3 (tY X.K ((j,.tab k)::al) (F k))){pos':Pos}
 (hx:Ze z:=by intro _ _;rfl) (Y:swapsWith (.Subscript (.Name x np) z J) (some (.Name y pos')) pos.line X.env=pure false:=by rfl) :
 PSs X (.Assign [.Name y pos'] (.Subscript (.Name x np) z J) pos::j3) (tY X.K al (zcl (al.map (·.1)) j I F)):=
 zeZ hi (h.set j ct (zbA ix_list (h.var c) O hx) Y) h2
theorem yn{tv:TE}{z:Expr}{np I:Pos}{Y:CO D}(i:Nat)(h:SX X sc N L k)(c:Jy sc N i x=true)(he:PE X e tv)(hb:PV X z Y)
 (ha : ∀v,assign (.Subscript (.Name x np) z I) X.env v=(do
   let J <- holding [v] (eval (.Name x np) X.env);let O <- holding [v,J] (eval z X.env)
   standAt I
   holding [v,J,O] (setItem J O v)
   release [v,J,O] []):=by intro _;rfl)
 (hs:swapsWithSole [.Subscript (.Name x np) z I] e pos.line X.env=pure false:=by rfl) (hw:swappedStores [.Subscript (.Name x np) z I] e X.env=pure none:=by rfl)
 (h1:(assignEach [.Subscript (.Name x np) z I] X.env).map (·.2)=[assign (.Subscript (.Name x np) z I) X.env]:=by rfl):PS X (.Assign [.Subscript (.Name x np) z I] e pos) (Zi tv (zeL (ki i) (tV X.K Y) V6)):=
 wc he (zdl (h.var c) hb VV ha) hs hw h1
end
def v9(f:CO D):CO D:=λγ=>(f γ).bind λd=>match d with
 | .dct _ _=>some (.bl true)
 | _=>none
def yO(fa fb:CO D):CO D:=λγ=>((fa γ).bind Vs).bind λk=>(fb γ).bind λd=>match d with
 | .dct ks _=>some (.bl (!decide (k∈ks)))
 | _=>none
def Qu(F:List D->Option Res)(g:CO (List D)):CO D:=λγ=>(zE F g γ).bind λd=>match d with
 | .dct ks us=>some (.dct ks us)
 | _=>none
def KK(i:Nat)(f:CO D)(t:CO Bool)(F:XF)(G:CO Fl):CO Fl:=λγ=>if (γ.set i .no).any isNestB=false/\i<γ.length then
 (f γ).bind λd=>(t (γ.set i (.val d))).bind λb=>if b=true then some (.ret (.val (.bl false)))else match d with
   | .dct ks vs=>if (xi vs).isSome=true then (F (γ.set i .no) ks vs).bind λr=>G r.1 else none
   | _=>none
 else none
def tVF(K:PySem.W.Frag)(f:CO D):TE:=λσ H Q=>∃H0 γ d,RC K H0 H σ γ/\f γ=some d/\∀p H' H0',Ext H0 H H0' H'->H p=none->Rep K H0' d (.ref p)->Q (.ref p) H'
section
variable{X:Cx}{sc:Scope}{N L:List Str}{k:Nat}{a e:Expr}{p pos:Pos}
theorem KR{f:CO (List D)}(h:SX X sc N L k)(cd:xT sc "dict" = true)(zd:X.mg "dict" = none)(ha:PO X a f)(hs:starEach [a] X.env=[(false,eval a X.env)]:=by rfl) :
 PE X (.Call (.Name "dict" p) [a] [] pos) (tVF X.K (yR f)):=by
 intro pins s σ H Q I Y;obtain⟨H0,γ,d,rc,J,q⟩:=Y;obtain⟨ps,e1,J⟩:=bind_some J;obtain⟨⟨ds,es⟩,e2,J⟩:=bind_some J;obtain⟨ks,e3,J⟩:=bind_some J;have hh:X.A.handled=none:=I.ok.hd h.calm;by_cases hc:ks.Nodup/\ks.length<=lim
 ·rw [if_pos hc]at J
  cases J;refine Call_ (qJ I (h.gl cd).1 zd zjI (zh2 ?_ (by rw [hs];rfl) rfl));rw [hs];show wpAny _ _ (spliced ((false,eval a X.env)::[])) _ _ s;refine zis (thn (ha pins s σ H (λv H1=>∃l xs z,v = .ref l/\Ext H0 H z H1/\z l=none/\H1 l=some (.lst xs)/\Reps X.K z ps xs) I ⟨H0,γ,ps,rc,e1,λl xs H1 z x1 g1 g2 g3 g4=>⟨l,xs,z,rfl,x1,g2,g3,g4⟩⟩) λv s1 Y=>?_);obtain⟨y,H1,I1,ry,l,xs,z,rfl,x1,g2,g3,g4⟩:=Y;cases ry;refine zi9 ?_;obtain⟨ys,r1,r2,r3,r4⟩:=kP e2 g4 e3;have:lim<=sizeLine:=by decide
  refine wr (H0:=z) (ks:=ks) (ys:=ys) (xs:=xs) I1 hh h.u64 x1.sub g3 r3 r2 hc.1 r4 ⋯ λs' p ob zs O am a1 a2 a3 a4 I3=>?_;have aa:Same z (upd z p (atO p ob)):=zK (zS x1.sub O) _;exact⟨.ref p,_,I3,rfl,q p _ _ ((x1.trans (Ext.hide x1.sub O _)).show (qH x1.s1 O) (zS x1.sub O) zv rc.sub) (qH x1.s1 O)
   (show ∃a xs,V.ref p = .ref a/\DRt X.K (upd z p _) a ks xs/\Reps X.K (upd z p _) es xs from⟨p,ys,rfl,⟨am,ob,zs,zv,a1,a2,by have:=congrArg ziQ a2;rw [zhB]at this;omega,λx hx=>sameT aa (a3 x hx),a4⟩,r1.mono aa⟩)⟩
 ·rw [if_neg hc]at J;cases J
end
def spFF(K:PySem.W.Frag)(n:Nat)(F:List D->Option Res):Sp:=λvs H Q _=>∃H0 ds ks us,Same H0 H/\Reps K H0 ds vs/\ds.length=n/\F ds=some (.val (.dct ks us))/\∀p H' H0',Ext H0 H H0' H'->H p=none->Rep K H0' (.dct ks us) (.ref p)->Q (.ref p) H'
structure FnF(P:Program)(w:World)(K:PySem.W.Frag)(mg:Str->Option Value)(base:Heap)(k:Nat)(x:Str)(n:Nat)(F:List D->Option Res):Prop where
 ex : ∃(f:Addr) (fd:FuncData) (ps:List Str),ps.length=n/\FnOk P w K mg base CX0 k f fd ps (spFF K ps.length F)/\mg x=some (.ref f)/\PySem.W.keepIn K (.ref f)=true/\Binds K fd ps []
def tSF(K:PySem.W.Frag)(F:CO Fl):TS:=λD σ H=>∃E0 E H0 γ ks us,RS K E0 E H0 H σ γ/\F γ=some (.ret (.val (.dct ks us)))/\∀p H' H0',Ext E0 E H0' H'->E p=none->Rep K H0' (.dct ks us) (.ref p)->D.rt (.ref p) H'
section
variable{P:Program}{w:World}{K:PySem.W.Frag}{mg:Str->Option Value}{base:Heap}
theorem zg1{x:Str}{st:Stmt}{N ps:List Str}{k:Nat}{F:CO Fl}(A:DefAt K mg x st ps)(hd:vS N ps st=true)
 (Y : ∀X:Cx,X.prog=P->X.w=w->X.K=K->X.mg=mg->X.base=base->SX X (defScope st) N N k->X.xe=(λ_ _=>False)->PSs X (defBody st) (tSF X.K F)) :
 FnF P w K mg base (k+1) x ps.length (jy N.length F):=by
 obtain⟨f,fd,I,hb,hm⟩:=A.ex;have S:=qx hd;refine⟨f,fd,ps,rfl,?_,hm,I.kp,.all hb⟩;refine I.ok S (λvs H Q E h=>?_) (λcdv A outer s H vs Q E hr h=>⟨_,Y _ rfl rfl rfl rfl rfl ⟨rfl,rfl,S.nd,rfl,hr,λ_ _=> .inl rfl⟩ rfl,?_⟩)
 ·obtain⟨H0,ds,ks,us,_,z,J,_⟩:=h
  rw [z.length,J]
 obtain⟨H0,ds,ks,us,s0,z,J,ef,q⟩:=h;have a4:ps.length<=N.length:=by have:=congrArg ziQ S.pre;rw [ziG]at this;omega
 obtain⟨O,e1,e2⟩:=bind_some ef;have e3:O = .ret (.val (.dct ks us)):=by
  cases O with
  | ret r=>cases e2;rfl
  | next γ=>cases e2
  | brk γ=>cases e2
  | cont γ=>cases e2
 subst e3;exact⟨H0,H,H0,_,ks,us,yq s0 z ⋯,e1,q⟩
end
section
variable{X:Cx}{sc:Scope}{N L:List Str}{k j n i:Nat}{a b c e:Expr}{es:List Expr}{f:CO D}{g:CO (List D)}{p pos:Pos}{x:Str}{st st3 st4:Stmt}{j3:List Stmt}{F:List D->Option Res}
theorem zd3{i:Nat}{f:CO D}{G:CO Fl}(h1:PSD X st (jv i f))(h2:PSs X j3 (tSF X.K G)):PSs X (st::j3) (tSF X.K (zZ (jv i f) G)):=by
 intro pins s σ H D I J;refine(jA h1 h2) pins s σ H D I ?_;obtain⟨E0,E,H0,γ,ks,us,rs,z,O⟩:=J;obtain⟨Y,e1,z⟩:=bind_some z;refine⟨E0,E,H0,γ,Y,rs,e1,?_⟩;obtain⟨d,_,e2⟩:=zm e1;subst e2;exact λσ' H' H0' a0=>⟨E0,E,H0',_,ks,us,a0,z,O⟩
theorem zfL(h:PE X e (tVF X.K f)):PSs X [.Return (some e) pos] (tSF X.K (qo f)):=by
 intro pins s σ H D I z;refine(qN (ku h)) pins s σ H D I ?_;obtain⟨E0,E,H0,γ,ks,us,rs,J,O⟩:=z;obtain⟨d,e1,e2⟩:=zm J;cases e2;exact⟨H0,γ,_,rs.rc,e1,λp H' H0' x Y r=>O p H' H0' (rs.ext.trans x) (y8 rs.ext.s1 Y) r⟩
theorem zc6(I:FnF X.prog X.w X.K X.mg X.base j x n F)(J:j<=k)(h:SX X sc N L k)(c:xT sc x=true)(ha:PAn X (e::es) n g)
 (he:starEach (e::es) X.env=(false,eval e X.env)::starEach es X.env:=by rfl) (O:(backTo pos (starEach es X.env)).any (·.1)=false:=by rfl) :
 PE X (.Call (.Name x p) (e::es) [] pos) (tVF X.K (Qu F g)):=by
 obtain⟨fa,fd,ps,hn,G,hm,Y,hb⟩:=I.ex;subst hn;refine jK (xt (E:=E0) G (h.room.mono J) (h.gl c).1 hm Y hb .nil y7 ha.1 (h.gl c).2.2 he O) λσ H Q hZ=>?_;obtain⟨H0,γ,d,rc,z,q⟩:=hZ;obtain⟨d1,e1,z⟩:=bind_some z;obtain⟨ds,e2,e1⟩:=bind_some e1;obtain⟨r,e3,e1⟩:=zm e1;cases d1 with
 | dct ks us=>
  cases z;have er:r = .val (.dct ks us):=by
   cases r with
   | val d=>cases e1;rfl
   | own ds=>cases e1
  subst er;refine⟨H0,γ,ds,rc,e2,λvs H1 a5 x1 r1=>⟨a5,ds,ks,us,x1.sub,by simpa using r1,ha.2 γ ds e2,e3,λp H' H0' x2 hp r2=>q p H' H0' (x1.trans x2) (y8 x1.s1 hp) r2⟩⟩
 | _=>cases z
theorem V8(h:SX X sc N L k)(c:xT sc "isinstance" = true)(z:X.mg "isinstance" = none)(O:xT sc "dict" = true)(z2:X.mg "dict" = none)(ha:PV X a f){p2:Pos}
 (hs:starEach [a,.Name "dict" p2] X.env=[(false,eval a X.env),(false,eval (.Name "dict" p2) X.env)]:=by rfl):PV X (.Call (.Name "isinstance" p) [a,.Name "dict" p2] [] pos) (v9 f):=by
 intro pins s σ H Q I ⟨H0,γ,d,rc,ef,q⟩;obtain⟨d1,e1,e2⟩:=bind_some ef;cases d1 with
 | dct ks vs=>
  cases e2;refine zja (qJ I (h.gl c).1 z zkd ?_ ⋯ ⋯);refine zjj ?_ (by rw [hs];rfl) rfl;rw [hs];show wpAny _ _ (spliced ((false,eval a X.env)::backTo pos [(false,eval (.Name "dict" p2) X.env)])) _ _ s;refine zis (thn (ha pins s σ H _ I ⟨H0,γ,_,rc,e1,λv H' H0' x r=>(show(λv H'=>∃H0',Ext H0 H H0' H'/\Rep X.K H0' (.dct ks vs) v) v H' from⟨H0',x,r⟩)⟩) λu s1 hZ=>?_);obtain⟨x,H1,J,r1,Y,x1,rr⟩:=hZ;show wpAny _ _ (spliced ((false,eval (.Name "dict" p2) X.env)::[])) _ _ s1;refine zis (qJ J (h.gl O).1 z2 zjI ?_ (h.gl O).2.1 (h.gl O).2.2);refine zi9 ?_;have e:ziz X.K (.type "dict") (.type "dict")=some true:=zN (t:="dict") (c:="dict") (b:=true) ⋯;obtain⟨a,xs,rfl,⟨_,o,zs,h1,h2,_⟩,_⟩:=(show ∃a xs,x = .ref a/\DRt X.K Y a ks xs/\Reps X.K Y vs xs from rr);cases (show u=zhH a from r1);obtain⟨ho,_⟩:=(show ObjOk X.prog X.w H1 s1.heap a (atO a o)from J.hok a _ (x1.sub _ _ h1));exact zhO zjJ J.kIn ⟨o,ho,h2.1.1⟩ e (λz=>nomatch z) λtk=>⟨.bl true,H1,J.tok tk,rfl,q _ H1 Y x1 rfl⟩
 | _=>cases e2
def zbg(K:PySem.W.Frag):R2:=λx y H Q=>∃a b o zs k,x = .ref b/\y = .ref a/\(a==sysModules)=false/\H a=some (atO a o)/\DObj o zs/\(∀z∈zs,SqT K H z.2.1 (z.1.map V.int))/\SqT K H b (k.map V.int)/\Q (.bl (!(atKey zs k).isSome)) H
theorem Yj(hu:X.A.units+64<cLine):OpR X (compareOp .NotIn) (zbg X.K):=by
 intro pins s σ H x y v u Q I z J h;obtain⟨a,b,o,zs,k,rfl,rfl,O,h1,h2,Y,h4,q⟩:=h;cases (show v=zhH b from z);cases (show u=zhH a from J);exact wpAny_notIn_heap (zjX ⋯) (k0 I h4) O (k9 I h1 h2 Y) ⟨.bl _,H,I.tok _,rfl,q⟩
theorem Kd{k:List Int} : ∀{xs:List (List Int×Addr×Value)},(atKey xs k).isSome=decide (k∈xs.map (·.1)):=λ{xs}=>by
 by_cases h:k∈xs.map (·.1)
 ·rw [decide_eq_true h]
  obtain⟨x,hx,e⟩:=ziJ.mp h;unfold atKey;rw [Option.isSome_map,List.find?_isSome];exact⟨x,hx,by simpa using e⟩
 ·rw [decide_eq_false h,Zd h];rfl
theorem XG{fa fb:CO D}(h:SX X sc N L k)(ha:PV X a fa)(O:PV X b fb)(hm:behindInMarks .NotIn b=false:=by with_unfolding_all rfl):PTD X (.Compare a [.NotIn] [b] pos) (sB (yO fa fb)):=
 XH (JK (Yj h.u64) ha O hm) λσ H Q hZ=>by
  obtain⟨H0,γ,t,rc,I,q⟩:=hZ;obtain⟨db,e0,eb⟩:=bind_some I;obtain⟨k,e1,I⟩:=bind_some e0;obtain⟨x,e2,e3⟩:=bind_some e1;obtain⟨d,e4,I⟩:=bind_some I;cases d with
  | dct ks vs=>
   cases I;cases eb;refine⟨H0,γ,x,rc,e2,λv1 H1 a5 x1 r1=>⟨a5,γ,_,rc.ext x1,e4,λv2 H2 Y J r2=>?_⟩⟩;obtain⟨b,rfl,O⟩:=kB e3 r1;obtain⟨a,xs,rfl,⟨hs,o,zs,h1,h2,h3,h4,h5,h6⟩,_⟩:=(show ∃a xs,v2 = .ref a/\DRt X.K Y a ks xs/\Reps X.K Y vs xs from r2);refine⟨a,b,o,zs,k,rfl,rfl,hs,J.sub _ _ h1,h2,λz hz=>sameT J.sub (h5 z hz),sameT J.sub (sameT J.s0 O),_,rfl,?_⟩;rw [Kd,h3];exact q H2 Y (x1.trans J)
  | _=>cases I
open Classical in
def WC(H:Hp)(p:Addr):Hp:=λc=>if c=p then none else H c
theorem kA{H:Hp}{p c:Addr}(h:c≠p):WC H p c=H c:=if_neg h
theorem kZ{H:Hp}{p:Addr}:WC H p p=none:=if_pos rfl
theorem V3{K:PySem.W.Frag}{G G':Hp}{vs:List D}{ys:List V}(e:(xi vs).isSome=true)(h:Reps K G vs ys):Reps K G' vs ys:=by
 obtain⟨r,z⟩:=ziF.mp e;have I : ∀{vs:List D} {r:List Int} {ys:List V},xi vs=some r->Reps K G vs ys->Reps K G' vs ys:=λ{vs}=>by
  induction vs with
  | nil=>intro r ys _ h;rw [h.inv_nil];exact Reps.nil
  | cons d vs J=>
   intro r ys e h;obtain⟨y,t,e1,h1,h2⟩:=h.inv_cons;subst e1;cases d with
   | int i=>
    obtain⟨r',e2,_⟩:=zm e;exact Reps.cons (show y = .int i from h1) (J e2 h2)
   | _=>cases e
 exact I z h
theorem K1(i:Nat){e0:Expr}{p0 p1:Pos}{t:CO Bool}{F1 F2:XF}{G:CO Fl}(h1:PS X st (Zi (tVF X.K f) (xj i)))(hc:PTD X c t)(h0:PV X e0 (zo (.bl false)))(h3:PS X st3 (tQX X.K i F1))(h4:PS X st4 (tQX X.K i F2))(h5:Xi X j3 G) :
 Xi X (st :: .If c [.Return (some e0) p0] [] p1::st3::st4::j3) (KK i f t (zfl F1 F2) G):=by
 intro pins s σ H D I hZ;refine(jA h1 (jA (zbr hc (qN (ku h0)) JL) (jA h3 (jA h4 h5)))) pins s σ H D I ?_;obtain⟨E0,E,H0,γ,fl,rs,J,a5⟩:=hZ;unfold KK at J;split at J
 ·next ak=>
  obtain⟨hn,am⟩:=ak;obtain⟨d,e1,J⟩:=bind_some J;obtain⟨b,e2,J⟩:=bind_some J;refine⟨H0,γ,d,rs.rc,e1,λp H1 an x1 hp rp=>?_⟩;have a0:=(rs.step x1).setVal (i:=i) rp;refine⟨an,_,b,a0.rc,e2,λH2 Y O=>?_⟩;cases b with
  | true=>
   rw [if_pos rfl]at J ⊢;cases J;exact⟨Y,_,_,(a0.step O).rc,rfl,λv H3 a1 x3 r3=>a5 v H3 a1 ((a0.step O).ext.trans x3) r3⟩
  | false=>
   rw [if_neg zhA]at J ⊢;cases d with
   | dct ks vs=>
    dsimp only at J;split at J
    ·next ap=>
     obtain⟨r,e3,J⟩:=bind_some J;obtain⟨r1,e4,e5⟩:=bind_some e3;have av:H0 p=none:=zS rs.rc.sub hp;have ys:Ext H0 H (WC Y p) H2:=⟨λc o q=>by rw [kA (λz=>by rw [z,av]at q;cases q)];exact O.s0 c o (x1.s0 c o q),x1.s1.trans O.s1,
      λc o q=>by
       by_cases z:c=p
       ·rw [z,kZ]at q;cases q
       ·rw [kA z]at q;exact O.sub c o q,λc q1 q2=>by
       by_cases z:c=p
       ·rw [z];exact kZ
       ·rw [kA z];exact(x1.trans O).new c q1 q2⟩
     obtain⟨a,xs,ea,⟨_,o,zs,g1,g2,g3,g4,g5,g6⟩,g7⟩:=(show ∃a xs,V.ref p = .ref a/\DRt X.K Y a ks xs/\Reps X.K Y vs xs from rp.mono O.s0);cases ea;have hE:E p=none:=y8 rs.ext.s1 hp;refine⟨p,E0,E,WC Y p,γ.set i .no,ks,vs,r1,⟨(rs.step ys).forget,hn,zhK (by rw [rs.rc.len];exact am),kZ,hE,o,zs,xs,O.sub _ _ g1,g2,g3,λz hz=>?_,V3 ap g7,g6⟩,e4,λσ3 H3 a1 q3=>?_⟩
     ·have bd:=g5 z hz
      have aa : ∀{u:HO},(∀φ,u ≠ .ext φ)->Y z.2.1=some u->z.2.1≠p:=λhu q e=>by
       rw [e,g1]at q;exact hu _ (zhM q).symm
      rcases bd with(hq | ⟨o',hq⟩) | hq
      ·exact .inl (.inl (by rw [kA (aa (λ_=>by simp) hq)];exact hq))
      ·exact .inl (.inr ⟨o',by rw [kA (aa (λ_=>by simp) hq)];exact hq⟩)
      ·exact .inr hq
     ·exact⟨p,E0,E,a1,_,_,_,r,q3,e5,λσ4 H4 bf q4=>⟨E0,E,bf,_,fl,q4.rs,J,a5⟩⟩
    ·cases J
   | _=>cases J
 ·cases J
end
def ww:List D->Option Res:=jy 1 (zZ (sIf (Xw (qa (sB (sIs .str (ze 0)))) (sB (zq dGe (Xx (ze 0)) (zo (.int 6))))) (qo (zo (.bl false))) qF) (qo (zeu (jZ (zJ (zai (ze 0)) (.nm 0) 1 [] jF (zgi (ze 0) (zH (zo (.tup [.str "r",.str "l"])))))))))
def yi:List D->Option Res:=jy 2 (zZ (sIf (Xw (qa (sB (zE Qa (zc (ze 1) (zc (zo (.int 2)) zz))))) (Xw (qa (sB (zE Jr (zc (ze 0) (zc (sIx (zk 1) (zo (.int 0))) zz))))) (qa (sB (zE Jr (zc (ze 0) (zc (sIx (zk 1) (zo (.int 1))) zz))))))) (qo (zo (.bl false))) qF) (qo (zq dLe (sIx (zk 1) (zo (.int 0))) (sIx (zk 1) (zo (.int 1))))))
def Vp:List D->Option Res:=jy 2 (Zy (zJ (yQ (ze 0)) (.tp [0,1]) 2 [1] (sB (yc dLe dLe (sIx (zk 1) (zo (.int 0))) (ze 2) (sIx (zk 1) (zo (.int 1))))) (ze 0)))
def Qb:List D->Option Res:=jy 3 (zZ (jv 2 (qu (zJ (zG (zk 0)) (.nm 0) 1 [1] jF (zU (jZ (zJ (zG (zk 1)) (.nm 0) 1 [0] jF (zcn (sB (zq dEq (ze 1) (ze 0))) (zo (.int 1)) (zo (.int 0))))))))) (qo (jC (zc (yP (zk 0)) (zc (yP (zk 1)) (zc (zU (zk 2)) zz))))))
def F_law_cell:List D->Option Res:=jy 5 (zZ (sIf (yU (sB (zq dGt (yP (zk 0)) (zo (.int 1)))) (sB (zq dEq (zq qm (sIx (zk 0) (zo (.int 0))) (zo (.int 2))) (zo (.int 1))))) (zZ (jv 2 (sIx (zk 0) (zq jH (zo (.int 1)) (zq qm (ze 1) (zq ye (yP (zk 0)) (zo (.int 1))))))) (zZ (vK (zY (zbd (zo (.int 60)) (zq yf (ze 1) (zq ye (yP (zk 0)) (zo (.int 1)))))) (.nm 3) (jv 2 (zq yf (ze 2) (zq zb2 (zo (.int 10)) (zo (.int 9)))))) (qo (zq qm (ze 2) (zq zb2 (zo (.int 10)) (zo (.int 9))))))) qF) (zZ (jv 4 (ze 1)) (zZ (sIf (sB (zq dGt (yP (zk 0)) (zo (.int 0)))) (jv 4 (sIx (zk 0) (zq qm (ze 1) (yP (zk 0))))) qF) (qo (zq qm (zq qw (zq qm (zq jH (zq jH (zq jH (zq qw (zq qm (ze 4) (zq zb2 (zo (.int 10)) (zo (.int 30)))) (zo (.int 48271))) (zq qw (zq qw (zo (.int 7)) (ze 1)) (ze 1))) (zq qw (zo (.int 13)) (ze 1))) (zo (.int 5))) (zo (.int 2147483647))) (zo (.int 69621))) (zo (.int 1000000007)))))))
def F_tables_joined:List D->Option Res:=jy 5 (zZ (jv 3 (qu (zJ (VW (sIx (zk 0) (zo (.int 2))) (sIx (zk 2) (zo (.int 2)))) (.tp [0,1]) 2 [] jF (zq jH (ze 0) (ze 1))))) (zZ (jv 4 (qu (zJ (zG (zH (sIx (zk 1) (zo (.int 2))))) (.nm 0) 1 [0] jF (zq jH (zq qw (jC (zc (zo (.int 0)) zz)) (sIx (zk 1) (zo (.int 1)))) (ze 0))))) (qo (jC (zc (zq jH (sIx (zk 0) (zo (.int 0))) (sIx (zk 1) (zo (.int 0)))) (zc (zq jH (sIx (zk 0) (zo (.int 1))) (sIx (zk 1) (zo (.int 1)))) (zc (zU (zH (qu (Xy (zk 3) (zk 4))))) zz)))))))
def F_no_join:List D->Option Res:=jy 2 (qo (zE F_nought_table (zc (sIx (zk 0) (zo (.int 0))) (zc (sIx (zk 1) (zo (.int 1))) zz))))
def F_tables_beside_5:List D->Option Res:=jy 2 (qo (zE F_tables_joined (zc (ze 0) (zc (ze 1) (zc (zE F_no_join (zc (ze 0) (zc (ze 1) zz))) zz)))))
def F_led_on:List D->Option Res:=jy 3 (Zy (jX F_base_of (zc (ze 0) (zc (sIx (zk 1) (zo (.int 0))) (zc (qu (zJ (zG (zk 2)) (.nm 0) 1 [0,1] jF (zE F_led (zc (ze 1) (zc (ze 2) (zc (ze 0) zz)))))) zz)))))
def F_link:List D->Option Res:=jy 6 (zZ (jv 3 (zE F_same_table (zc (sIx (zH (sIx (zk 0) (zo (.int 1)))) (ze 1)) zz))) (zZ (xN 4 (zJ (zG (zH (sIx (zk 3) (zo (.int 2))))) (.nm 0) 1 [] jF (zq jH (ze 0) (ze 0)))) (zZ (vK (zG (zH (Qt (sIx (zk 0) (zo (.int 2))) (sBd (ze 1)) (sBd (ze 2))))) (.nm 5) (zes 4 (xN 4 (Qv F_led_on F_led_into (zc (sIx (zk 0) (zo (.int 0))) (zc (sIx (zk 5) (zo (.int 0))) (zc (zE F_tables_beside_5 (zc (ze 3) (zc (sIx (zk 5) (zo (.int 1))) zz))) (zc (ze 4) zz)))))))) (yN 4))))
def F_law_ends_k22:List D->Option Res:=jy 2 (zZ (sIf (sB (zq dEq (ze 1) (zo (.str "r")))) (qo (jC (zc (ze 0) (zc (zq jH (ze 0) (zo (.int 1))) zz)))) qF) (qo (jC (zc (zq jH (ze 0) (zo (.int 1))) (zc (ze 0) zz)))))
def F_law_row_k22:List D->Option Res:=jy 9 (zZ (xN 4 (x6 zz)) (zZ (vK (qp (ze 1)) (.tp [5,6]) (zZ (KL (.tp [7,8]) (zE F_law_ends_k22 (zc (ze 5) (zc (ze 6) zz)))) (xo 4 (jC (zc (ze 6) (zc (jC (zc (sIx (zk 2) (ze 8)) (zc (sIx (zk 2) (ze 7)) (zc (zU (jZ (zJ (zG (zH (sIx (zk 3) (ze 5)))) (.nm 0) 1 [] jF (zU (zk 0))))) zz)))) zz)))))) (qo (jC (zc (ze 0) (zc (zU (zk 2)) (zc (zU (zk 4)) zz)))))))
def F_law_ways_k22:List D->Option Res:=jy 4 (zZ (jv 2 (zo (.str ""))) (zZ (vK (zY (zq ye (ze 1) (zo (.int 1)))) (.nm 3) (zZ (jv 2 (V0 (ze 2) (Zw (zo (.str "rl")) (zq qm (ze 0) (zo (.int 2)))))) (jv 0 (zq yf (ze 0) (zo (.int 2)))))) (yN 2)))
abbrev dsq(k:Sk)(xs:List D):D:=match k with | .T=>D.tup xs | .L=>D.lst xs
@[simp] theorem zgu(k xs):jL (dsq k xs)=some (k,xs):=by cases k<;>rfl
theorem wv{p:Int}{n:Nat}(k:Sk)(f:Nat->Int)(z:0<p)(hn:n<=lim) :
 F_rests [.int p,dsq k (zQ n f)]=some (.val (.tup (zQ n λi=>f i%p))):=by
 simp [F_rests,jy,jx,jn,hn,qh];unfold zQ;rw [zA (r:=λi=>D.int (f i%p))]
 ·simp
 ·intro i hi
  refine zC rfl rfl ?_;simp [z]
theorem Vm{p:Int}{n:Nat}(f:Nat->Int)(z:0<p)(hn:n<=lim) :
 F_rests [.int p,.tup (zQ n f)]=some (.val (.tup (zQ n λi=>f i%p))):=wv .T f z hn
theorem vA{p:Int}{n:Nat}(f:Nat->Int)(z:0<p)(hn:n<=lim) :
 F_rests [.int p,.lst (zQ n f)]=some (.val (.tup (zQ n λi=>f i%p))):=wv .L f z hn
theorem zac{p:Int}{h w:Nat}(k:Sk)(f:Nat->Nat->Int)(g:Nat->Int)(I:0<p)(z:h<=lim)(hw:w<=lim)(J : ∀i j,i<h->j<w->0<=f i j/\f i j<100) :
 F_led [.int p,xv h w f,dsq k (zQ w g)]=some (.val (.tup (zQ h λi=>sumTo (λj=>f i j*g j) w%p))):=by
 simp [F_led,jy,jx,jn,z,qh,xv,zhm];unfold jb;rw [zA (r:=λi=>D.int (sumTo (λj=>f i j*g j) w))]
 ·simp
  rw [show(ziq (λi=>D.int (sumTo (λj=>f i j*g j) w)) (zhf h))=zQ h λi=>sumTo (λj=>f i j*g j) w from rfl,vA _ I z];rfl
 ·intro i hi
  refine zC rfl rfl ?_;simp [jn,wy,hw];rw [zA (r:=λj=>D.int (f i j*g j))]
  ·simp
   rw [show(ziq (λj=>D.int (f i j*g j)) (zhf w))=zQ w λj=>f i j*g j from rfl,Zq]
  ·intro j O
   refine zC rfl rfl ?_;have:=J i j (zhp.mp hi) (zhp.mp O);simp [qL (f i j) (g j) ⋯ ⋯]
theorem Vn{h w:Nat}(f:Nat->Nat->Int)(z:h<=lim)(hw:w<=lim):F_turned_over [xv h w f]=some (.val (xv w h λi j=>f j i)):=by
 simp [F_turned_over,jy,jx,jn,z,hw,qh,xv,zhm,jm,jQ];rw [zW w λi=>(i:Int)];rw [zA (r:=λj=>D.tup (zQ h λi=>f i j))]
 ·simp
  rfl
 ·intro j I
  refine zC rfl rfl ?_;simp [jn,z,qh];unfold jb;rw [zA (r:=λi=>D.int (f i j))]
  ·simp
   rfl
  ·intro i hi
   refine zC rfl rfl ?_;have h1:=zhp.mp I;simp [h1,yw _ h1]
theorem Jq{n:Nat}(hn:n<=lim):F_same_table [.int n]=some (.val (xv n n λi j=>if i=j then 1 else 0)):=by
 simp [F_same_table,jy,jx,jm,hn,jn,qh,zhm,jQ];rw [zW n λi=>(i:Int)];rw [zA (r:=λi=>D.tup (zQ n λj=>if i=j then 1 else 0))]
 ·simp
  rfl
 ·intro i hi
  refine zC rfl rfl ?_;simp [hn,jn,zhm,jQ,qh];rw [zW n λi=>(i:Int)];rw [zA (r:=λj=>D.int (if i=j then 1 else 0))]
  ·simp
   rfl
  ·intro j z
   refine zC rfl rfl ?_;simp;by_cases e:i=j
   ·simp [e]
   ·rw [if_neg ⋯,if_neg e]
theorem km(d:D)(w:Nat):zhm w d=(zhf w).map λ_=>d:=by
 induction w with
 | zero=>rfl
 | succ n z=>rw [List.replicate_succ',z,ziD,zhZ];simp
theorem J8{h w:Nat}(z:h<=lim)(hw:w<=lim):F_nought_table [.int h,.int w]=some (.val (xv h w λ_ _=>0)):=by
 simp [F_nought_table,jy,jx,jm,qw,z,hw];rw [km,km];rfl
def Jd(ns:List Int):D:= .lst (ns.map D.int)
theorem J7(i:Int):F_law_whole [.int i]=some (.val (.bl true)):=by
 simp [F_law_whole,jy,jx,zaB]
def wch(b:Bool):Nat:=if b then 108 else 114
def qG(c:Nat):Str:=⟨#[c]⟩
theorem wl : ∀(l:List Nat),(Str.join "" (l.map qG)).cps.toList=l
 | []=>rfl
 | [c]=>rfl
 | c::d::l=>by
  have z:=wl (d::l);show((qG c++("" : Str))++Str.join "" ((d::l).map qG)).cps.toList=_;have e : ∀a b:Str,(a++b).cps.toList=a.cps.toList++b.cps.toList:=λa b=>by
   show(a.cps++b.cps).toList=_;simp
  rw [e,e,z];rfl
def qf(m:Nat)(w:Nat->Bool):Str:=Str.join "" ((zhf m).map λk=>qG (wch (w k)))
theorem xG(m w):(qf m w).cps.toList=(zhf m).map λk=>wch (w k):=by
 have:=wl ((zhf m).map λk=>wch (w k));rw [zim]at this;exact this
theorem Qg(m w):(qf m w).length=m:=by
 show(qf m w).cps.size=m;rw [<- ziK,xG];simp
theorem xF{m:Nat}(w)(hm:m<=1000):ja (qf m w)=true:=decide_eq_true (by rw [Qg];exact hm)
def hiW(w:Nat->Bool)(wd:Nat->Nat)(k:Nat):Nat:=if w k then wd k else wd (k+1)
def wiW(w:Nat->Bool)(wd:Nat->Nat)(k:Nat):Nat:=if w k then wd (k+1)else wd k
def Vf(w:Nat->Bool)(wd:Nat->Nat)(T:Nat->Nat->Nat->Int)(k:Nat):D:= .tup [.str (qG (wch (w k))),xv (hiW w wd k) (wiW w wd k) (T k)]
def xz(m:Nat)(w:Nat->Bool)(wd:Nat->Nat)(T:Nat->Nat->Nat->Int):List D:=(zhf m).map (Vf w wd T)
def yt(p:Int)(m:Nat)(w:Nat->Bool)(wd:Nat->Nat)(T:Nat->Nat->Nat->Int):D:= .tup [.int p,.tup (zQ (m+1) λk=>(wd k:Int)),.tup (xz m w wd T)]
@[simp] theorem zeg(m w wd T):(xz m w wd T).length=m:=by simp [xz]
theorem zdy(b:Bool):okD (.str (qG (wch b)))=true:=by cases b<;>decide +kernel
theorem zbY(b:Bool):dEq (.str (qG (wch b))) (.str "r")=some (.bl (!b)):=by
 have e : ∀b:Bool,(qG (wch b)==(zii "r")) = !b:=by decide +kernel
 have z:okD (.str (zii "r"))=true:=by decide +kernel
 unfold dEq;rw [if_pos ⟨zdy b,z⟩];show some (D.bl (qG (wch b)==zii "r"))=_;rw [e]
theorem YV{n i j:Nat}(f:Nat->D)(h1:i<=j)(h2:j<=n):Xb ((zhf n).map f) (some (i:Int)) (some (j:Int))=(zhf (j - i)).map λk=>f (i+k):=by
 have c : ∀(d k:Nat),k<=n->J0 n d (some (k:Int))=k:=λd k I=>by
  show(if (k:Int)<0 then ((k:Int)+n).toNat else min (k:Int).toNat n)=k;rw [if_neg ⋯];simp only [zib];omega
 have z:((zhf n).map f).length=n:=by simp
 unfold Xb;rw [z,c 0 i ⋯,c n j h2];apply List.ext_getElem
 ·simp;omega
 ·intro k J g2
  simp
section
variable{p:Int}{m:Nat}{w:Nat->Bool}{wd:Nat->Nat}{T:Nat->Nat->Nat->Int}
theorem zea{i j:Nat}(h1:i<=j)(h2:j<=m):Xb (xz m w wd T) (some (i:Int)) (some (j:Int))=xz (j - i) (λk=>w (i+k)) (λk=>wd (i+k)) (λk=>T (i+k)):=by
 unfold xz;rw [YV _ h1 h2];apply zht;intro k z;unfold Vf hiW wiW;rfl
end
section
variable{p:Int}
def qU(h w:Nat)(f:Nat->Nat->Int):List D:=(zhf h).map λi=>D.lst (zQ w (f i))
@[simp] theorem zd6(h w f):(qU h w f).length=h:=by simp [qU]
end
theorem zw{f g:Nat->Int} : ∀{n:Nat},(∀k,k<n->f k=g k)->sumTo f n=sumTo g n
 | 0,_=>rfl
 | n+1,h=>by
  simp only [sumTo];rw [zw (n:=n) λk z=>h k ⋯,h n ⋯]
theorem zI(n:Nat):sumTo (λ_=>0) n=0:=by
 induction n with
 | zero=>rfl
 | succ n z=>simp [sumTo,z]
theorem zX{f:Nat->Int}{n i:Nat}(hi:i<n)(h : ∀k,k<n->k≠i->f k=0):sumTo f n=f i:=by
 induction n with
 | zero=>omega
 | succ n z=>
  simp only [sumTo];by_cases e:i=n
  ·subst e
   rw [zw (g:=λ_=>0) (λk I=>h k ⋯ ⋯),zI];omega
  ·rw [z ⋯ λk I=>h k ⋯,h n ⋯ ⋯]
   omega
theorem jD(f g:Nat->Int)(n:Nat):sumTo (λk=>f k+g k) n=sumTo f n+sumTo g n:=by
 induction n with
 | zero=>rfl
 | succ n z=>simp only [sumTo,z];omega
theorem qE(f:Nat->Int)(c:Int)(n:Nat):sumTo (λk=>f k*c) n=sumTo f n*c:=by
 induction n with
 | zero=>simp [sumTo]
 | succ n z=>simp only [sumTo,z,zkp]
theorem qk(f:Nat->Int)(c:Int)(n:Nat):sumTo (λk=>c*f k) n=c*sumTo f n:=by
 induction n with
 | zero=>simp [sumTo]
 | succ n z=>simp only [sumTo,z,zko]
theorem kQ(f:Nat->Nat->Int)(n m:Nat):sumTo (λi=>sumTo (λj=>f i j) m) n=sumTo (λj=>sumTo (λi=>f i j) n) m:=by
 induction n with
 | zero=>simp [sumTo,zI]
 | succ n z=>simp only [sumTo];rw [z,<- jD]
theorem jd{p:Int}{f g:Nat->Int} : ∀{n:Nat},(∀k,k<n->f k%p=g k%p)->sumTo f n%p=sumTo g n%p
 | 0,_=>rfl
 | n+1,h=>by
  simp only [sumTo];rw [zhD,jd (n:=n) (λk z=>h k ⋯),h n ⋯,<- zhD]
theorem Yr(p x y:Int):(x*(y%p))%p=(x*y)%p:=by rw [zhr,zh1,<- zhr]
abbrev Vc:=Nat->Int
def Pr(p:Int):Prop:=p=2\/p=3\/p=5\/p=7
theorem Pr.pos{p:Int}(h:Pr p):0<p:=by unfold Pr at h;omega
theorem Pr.two{p:Int}(h:Pr p):2<=p:=by unfold Pr at h;omega
theorem Pr.le{p:Int}(h:Pr p):p<=7:=by unfold Pr at h;omega
theorem Pr.one{p:Int}(h:Pr p):(1:Int)%p=1:=zjd ⋯ (by have:=h.two;omega)
inductive Span(p:Int)(n:Nat)(G:Vc->Prop):Vc->Prop where
 | zero {v:Vc}:(∀i,i<n->v i%p=0)->Span p n G v
 | step {v w g:Vc} {c:Int}:G g->Span p n G w->(∀i,i<n->v i%p=(w i+c*g i)%p)->Span p n G v
section
variable{p:Int}{n:Nat}{G G':Vc->Prop}
theorem Span.congr{v z:Vc}(h:Span p n G v)(e : ∀i,i<n->z i%p=v i%p):Span p n G z:=by
 cases h with
 | zero h=>exact .zero λi hi=>by rw [e i hi,h i hi]
 | step I hw h=>exact .step I hw λi hi=>by rw [e i hi,h i hi]
theorem Span.gen{g:Vc}(h:G g):Span p n G g:= .step (c:=1) h (.zero (v:=λ_=>0) λi _=>by simp) λi _=>by simp
theorem Span.add{v w:Vc}(z:Span p n G v)(hw:Span p n G w) : ∀c:Int,Span p n G λi=>w i+c*v i:=by
 induction z with
 | zero h=>
  intro c;refine hw.congr λi hi=>?_;rw [zhD,zhr,h i hi];simp
 | @step v w' g c' I O h J=>
  intro c;refine .step (c:=c*c') I (J c) λi hi=>?_;have e:(c*v i)%p=(c*(w' i+c'*g i))%p:=by rw [zhr,h i hi,<- zhr]
  rw [zhD,e,<- zhD];congr 1;rw [zko,<- zjc,Int.add_assoc]
theorem Span.smul{v:Vc}(z:Span p n G v)(c:Int):Span p n G λi=>c*v i:=
 (z.add (w:=λ_=>0) (.zero λi _=>by simp) c).congr λi _=>by simp
theorem Span.le{v:Vc}(h:Span p n G v)(z : ∀g,G g->Span p n G' g):Span p n G' v:=by
 induction h with
 | zero h=>exact .zero h
 | step I hw h J=>exact((z _ I).add J _).congr h
end
structure IsB(p:Int)(n r:Nat)(B:Nat->Vc)(l:Nat->Nat):Prop where
 lt : ∀k,k<r->l k<n
 mono : ∀k m,k<m->m<r->l k<l m
 one : ∀k,k<r->B k (l k)=1
 bef : ∀k j,k<r->j<l k->B k j=0
 oth : ∀k m,k<r->m<r->m≠k->B k (l m)=0
 rng : ∀k i,k<r->i<n->0<=B k i/\B k i<p
def Fam(r:Nat)(B:Nat->Vc):Vc->Prop:=λv=>∃k,k<r/\v=B k
section
variable{p:Int}{n r r':Nat}{B B':Nat->Vc}{l l':Nat->Nat}
theorem Ka(I:IsB p n r B l){v:Vc}(h:Span p n (Fam r B) v) : ∀i,i<n->v i%p=sumTo (λk=>v (l k)*B k i) r%p:=by
 induction h with
 | @zero v h=>
  intro i hi;rw [h i hi];have:sumTo (λk=>v (l k)*B k i) r%p=sumTo (λ_=>0) r%p:=jd λk z=>by rw [zhr,h _ (I.lt k z)];simp
  rw [this,zI];rfl
 | @step v w g c J hw h O=>
  intro i hi;obtain⟨m,hm,rfl⟩:=J;rw [h i hi];have e1:sumTo (λk=>v (l k)*B k i) r%p=sumTo (λk=>w (l k)*B k i+c*B m (l k)*B k i) r%p:=jd λk z=>by
   rw [zhr,h _ (I.lt k z),<- zhr,zkp]
  have e2:sumTo (λk=>c*B m (l k)*B k i) r=c*B m i:=by
   rw [zX (i:=m) hm λk z Y=>by rw [I.oth m k hm z Y];simp,I.one m hm];simp
  rw [e1,jD,e2,zhD,O i hi,<- zhD]
theorem Yx(z:IsB p n r B l){v:Vc}(h:Span p n (Fam r B) v){j:Nat}(J:j<n)(h0:v j%p≠0)(O : ∀i,i<j->v i%p=0) : ∃k,k<r/\l k=j:=by
 apply zi8;intro Y;apply h0;rw [Ka z h j J];have:sumTo (λk=>v (l k)*B k j) r%p=sumTo (λ_=>0) r%p:=jd λk I=>by
  have a0:l k≠j:=λe=>Y ⟨k,I,e⟩;rcases zhy (l k) j with q | q
  ·rw [zhr,O _ q];simp
  ·rw [z.bef k j I ⋯];simp
 rw [this,zI];rfl
theorem QR(J : ∀k m,k<m->m<r->l k<l m)(O : ∀k m,k<m->m<r'->l' k<l' m)(s1 : ∀k,k<r->∃m,m<r'/\l' m=l k)(s2 : ∀k,k<r'->∃m,m<r/\l m=l' k) :
 ∀k,k<r->k<r'/\l k=l' k:=by
 intro k
 induction k using Nat.strongRecOn with
 | ind k Y=>
  intro hk;obtain⟨m,hm,em⟩:=s1 k hk;have a3:k<=m:=by
   rcases zhy m k with q | q
   ·have:=(Y m q ⋯).2
    have:=J m k q hk;omega
   ·exact q
  have I:k<r':=by omega
  refine⟨I,?_⟩;obtain⟨q,hq,eq⟩:=s2 k I;have a5:k<=q:=by
   rcases zhy q k with z | z
   ·have:=(Y q z ⋯).2
    have:=O q k z I;omega
   ·exact z
  rcases zhy k m with z | z
  ·have h1:=O k m z hm
   have h2:l k<=l q:=by
    rcases zhy k q with y | y
    ·exact zj9 (J k q y hq)
    ·have:k=q:=by omega
     subst this;exact zhn _
   omega
  ·have:m=k:=by omega
   subst this;exact em.symm
theorem Y9(hp:Pr p)(I:IsB p n r B l)(J:IsB p n r' B' l')(h1 : ∀v,Span p n (Fam r B) v->Span p n (Fam r' B') v)(h2 : ∀v,Span p n (Fam r' B') v->Span p n (Fam r B) v) :
 r=r'/\(∀k,k<r->l k=l' k)/\∀k i,k<r->i<n->B k i=B' k i:=by
 have one:=hp.one;have s1 : ∀k,k<r->∃m,m<r'/\l' m=l k:=λk z=>Yx J (h1 _ (.gen ⟨k,z,rfl⟩)) (I.lt k z) (by rw [I.one k z,one];decide) λi hi=>by rw [I.bef k i z hi];simp
 have s2 : ∀k,k<r'->∃m,m<r/\l m=l' k:=λk z=>Yx I (h2 _ (.gen ⟨k,z,rfl⟩)) (J.lt k z) (by rw [J.one k z,one];decide) λi hi=>by rw [J.bef k i z hi];simp
 have e1:=QR I.mono J.mono s1 s2;have e2:=QR J.mono I.mono s2 s1;have er:r=r':=by
  rcases zkC r r' with q | q | q
  ·exact absurd (e2 r q).1 (zif _)
  ·exact q
  ·exact absurd (e1 r' q).1 (zif _)
 subst er;refine⟨rfl,λk z=>(e1 k z).2,λk i z hi=>?_⟩;have c:=Ka J (h1 _ (.gen ⟨k,z,rfl⟩)) i hi;rw [zX (i:=k) z λm hm a2=>by rw [<- (e1 m hm).2,I.oth k m z hm a2];simp,<- (e1 k z).2,I.one k z,Int.one_mul]at c;have O:=I.rng k i z hi;have Y:=J.rng k i z hi;rw [zjd O.1 O.2,zjd Y.1 Y.2]at c;exact c
end
theorem jY{α:Type}{T:Tg}{k:CO Bool}{f:CO D}{γ:Ctx}{g:α->D}(q:α->Bool)(r:α->D) : ∀(l:List α),(∀x∈l,∃γ1,jN T (g x) γ=some γ1/\k γ1=some (q x)/\(q x=true->f γ1=some (r x)))->
 z7 T k f γ (l.map g)=some ((l.filter q).map r)
 | [],_=>rfl
 | x::l,h=>by
  obtain⟨γ1,h1,h2,I⟩:=h x zhq;have z:=jY q r l λy J=>h y (zhs _ J);simp only [zhI,z7,h1,h2,zhd];cases e:q x with
  | true=>simp [I e,z,e]
  | false=>simp [z,e]
theorem zaC{p x:Int}(z:Pr p)(h0:0<x)(h1:x<p) : ∃y:Nat,1<=y/\(y:Int)<p/\(y:Int)*x%p=1:=by
 rcases z with rfl | rfl | rfl | rfl
 ·obtain rfl:x=1:=by omega
  exact⟨1,by decide,by decide,by decide⟩
 ·rcases (show x=1\/x=2 by omega)with rfl | rfl
  ·exact⟨1,by decide,by decide,by decide⟩
  ·exact⟨2,by decide,by decide,by decide⟩
 ·rcases (show x=1\/x=2\/x=3\/x=4 by omega)with rfl | rfl | rfl | rfl
  ·exact⟨1,by decide,by decide,by decide⟩
  ·exact⟨3,by decide,by decide,by decide⟩
  ·exact⟨2,by decide,by decide,by decide⟩
  ·exact⟨4,by decide,by decide,by decide⟩
 ·rcases (show x=1\/x=2\/x=3\/x=4\/x=5\/x=6 by omega)with rfl | rfl | rfl | rfl | rfl | rfl
  ·exact⟨1,by decide,by decide,by decide⟩
  ·exact⟨4,by decide,by decide,by decide⟩
  ·exact⟨5,by decide,by decide,by decide⟩
  ·exact⟨2,by decide,by decide,by decide⟩
  ·exact⟨3,by decide,by decide,by decide⟩
  ·exact⟨6,by decide,by decide,by decide⟩
theorem Jb{q:Nat->Bool}{n a:Nat}{j3:List Nat}(h:(zhf n).filter q=a::j3):a<n/\q a=true/\∀i,i<a->q i=false:=by
 have hm:a∈(zhf n).filter q:=by rw [h];exact zhq
 refine⟨zhp.mp (zin.mp hm).1,(zin.mp hm).2,λi hi=>?_⟩;apply zi8;intro z;have I:q i=true:=by simpa using z
 have J:i∈a::j3:=by rw [<- h];exact zin.mpr ⟨zhp.mpr (by have:=zhp.mp (zin.mp hm).1;omega),I⟩
 have O:(a::j3).Pairwise (· < ·):=by rw [<- h];exact List.Pairwise.filter _ List.pairwise_lt_range
 rcases zhv.mp J with e | e
 ·omega
 ·have:=(List.pairwise_cons.mp O).1 i e;omega
theorem Yn{q:Nat->Bool}{n:Nat}(h:(zhf n).filter q=[]) : ∀i,i<n->q i=false:=λi hi=>by
 apply zi8;intro z;have:i∈(zhf n).filter q:=zin.mpr ⟨zhp.mpr hi,by simpa using z⟩;rw [h]at this;simp at this
theorem Js{p x:Int}(z:Pr p)(h0:0<x)(h1:x<p) : ∃y,F_inverse [.int p,.int x]=some (.val (.int y))/\1<=y/\y<p/\x*y%p=1:=by
 rcases z with rfl | rfl | rfl | rfl
 ·have:x=1:=by omega
  subst this;exact⟨1,rfl,by decide,by decide,by decide⟩
 ·have:x=1\/x=2:=by omega
  rcases this with rfl | rfl
  ·exact⟨1,rfl,by decide,by decide,by decide⟩
  ·exact⟨2,rfl,by decide,by decide,by decide⟩
 ·have:x=1\/x=2\/x=3\/x=4:=by omega
  rcases this with rfl | rfl | rfl | rfl
  ·exact⟨1,rfl,by decide,by decide,by decide⟩
  ·exact⟨3,rfl,by decide,by decide,by decide⟩
  ·exact⟨2,rfl,by decide,by decide,by decide⟩
  ·exact⟨4,rfl,by decide,by decide,by decide⟩
 ·have:x=1\/x=2\/x=3\/x=4\/x=5\/x=6:=by omega
  rcases this with rfl | rfl | rfl | rfl | rfl | rfl
  ·exact⟨1,rfl,by decide,by decide,by decide⟩
  ·exact⟨4,rfl,by decide,by decide,by decide⟩
  ·exact⟨5,rfl,by decide,by decide,by decide⟩
  ·exact⟨2,rfl,by decide,by decide,by decide⟩
  ·exact⟨3,rfl,by decide,by decide,by decide⟩
  ·exact⟨6,rfl,by decide,by decide,by decide⟩
theorem yj{p:Int}(I:Pr p){n t:Nat}(hn:n<=lim)(z:t<n)(w P:Nat->Int)(hw : ∀i,i<n->0<=w i/\w i<p) :
 F_cleared [.int p,.tup (zQ n w),.tup (zQ n P),.int t]=some (.val (.tup (zQ n λi=>(w i - w t*P i)%p))):=by
 have O:=hw t z;have Y:=I.le;have J : ∀x,vE (w t) x=true:=λx=>qL _ _ ⋯ ⋯;by_cases h0:w t=0
 ·simp [F_cleared,jy,jx,jm,z,h0]
  apply w4;intro i hi;rw [zjd (hw i hi).1 (hw i hi).2]
 ·simp [F_cleared,jy,jx,jm,z,h0,wy,hn,jn,qh,zhm]
  rw [zA (r:=λi=>D.int (w i - w t*P i))]
  ·rw [<- zW]
   simp [vA _ I.pos hn]
  ·intro i hi
   refine zC rfl rfl ?_;simp [J]
theorem JP{l:Nat->Nat}{r t:Nat}(hm : ∀k m,k<m->m<r->l k<l m)(z : ∀k,k<r->l k<t):r<=t:=by
 have I : ∀k,k<r->k<=l k:=by
  intro k
  induction k with
  | zero=>intro _;exact zik _
  | succ k J=>
   intro O;have h1:=J ⋯;have h2:=hm k (k+1) ⋯ O;omega
 cases r with
 | zero=>exact zik _
 | succ r=>
  have h1:=I r ⋯;have h2:=z r ⋯;omega
def yB:CO Fl:=(zZ (jv 6 (qu (zJ (zG (zk 3)) (.nm 0) 1 [5] (sB (zq dNe (sIx (zk 0) (ze 1)) (zo (.int 0)))) (ze 0)))) (zZ (sIf (qa (VX (zk 6))) VZ qF) (zZ (jv 7 (zE F_inverse (zc (ze 0) (zc (sIx (zH (sIx (zk 6) (zo (.int 0)))) (ze 5)) zz)))) (zZ (jv 8 (zE F_rests (zc (ze 0) (zc (qu (zJ (zG (zH (sIx (zk 6) (zo (.int 0))))) (.nm 0) 1 [7] jF (zq qw (ze 1) (ze 0)))) zz)))) (zZ (jv 3 (qu (zJ (zG (zk 3)) (.nm 0) 1 [0,5,8] jF (zE F_cleared (zc (ze 1) (zc (ze 0) (zc (ze 3) (zc (ze 2) zz)))))))) (xN 4 (Xy (jZ (zJ (zG (zk 4)) (.nm 0) 1 [0,5,8] jF (zE F_cleared (zc (ze 1) (zc (ze 0) (zc (ze 3) (zc (ze 2) zz))))))) (jZ (x6 (zc (ze 8) zz))))))))))
def Un(r:Nat)(B:Nat->Vc)(m:Nat)(W:Nat->Vc):Vc->Prop:=λv=>Fam r B v\/Fam m W v
structure BInv(p:Int)(n m:Nat)(W:Nat->Vc)(t r:Nat)(B:Nat->Vc)(l:Nat->Nat)(Wt:Nat->Vc):Prop where
 rng : ∀j i,j<m->i<n->0<=Wt j i/\Wt j i<p
 zer : ∀j i,j<m->i<t->Wt j i=0
 isb:IsB p n r B l
 lt : ∀k,k<r->l k<t
 span : ∀v,Span p n (Un r B m Wt) v↔Span p n (Fam m W) v
section
variable{p:Int}{n m:Nat}{W:Nat->Vc}{t r:Nat}{B:Nat->Vc}{l:Nat->Nat}{Wt:Nat->Vc}
theorem BInv.skip(h:BInv p n m W t r B l Wt)(I : ∀j,j<m->Wt j t=0):BInv p n m W (t+1) r B l Wt:=
 ⟨h.rng,λj i z hi=>by
  rcases zhy i t with q | q
  ·exact h.zer j i z q
  ·have:i=t:=by omega
   subst this;exact I j z,h.isb,λk J=>zhY (h.lt k J),h.span⟩
def clr(p:Int)(P:Vc)(t:Nat)(w:Vc):Vc:=λi=>(w i - w t*P i)%p
def XS(p:Int)(P:Vc)(t r:Nat)(B:Nat->Vc):Nat->Vc:=λk=>if k<r then clr p P t (B k)else P
def zax(t r:Nat)(l:Nat->Nat):Nat->Nat:=λk=>if k<r then l k else t
theorem yA{G:Vc->Prop}{P w:Vc}(z:Span p n G P)(hw:Span p n G w):Span p n G (clr p P t w):=
 (z.add hw (-(w t))).congr λi _=>by unfold clr;rw [zh1];congr 1;rw [Int.neg_mul];omega
theorem Qi{G:Vc->Prop}{P w:Vc}(z:Span p n G P)(hw:Span p n G (clr p P t w)):Span p n G w:=
 (z.add hw (w t)).congr λi _=>by
   unfold clr;rw [zhD,zh1,<- zhD];congr 1;omega
theorem BInv.next(hp:Pr p)(h:BInv p n m W t r B l Wt)(ht:t<n){O:Nat}(a8:O<m){y:Int}(hy:Wt O t*y%p=1){P:Vc}(Y : ∀i,i<n->P i=y*Wt O i%p) :
 BInv p n m W (t+1) (r+1) (XS p P t r B) (zax t r l) (λj=>clr p P t (Wt j)):=by
 have p0:=hp.pos;have one:=hp.one;have Pt:P t=1:=by rw [Y t ht,zi6];exact hy
 have Pz : ∀i,i<t->P i=0:=λi hi=>by rw [Y i ⋯,h.zer O i a8 hi];simp
 have af : ∀i,i<n->0<=P i/\P i<p:=λi hi=>by rw [Y i hi];exact⟨zh0 _ ⋯,zhP _ p0⟩
 have cr : ∀(w:Vc) i,0<=clr p P t w i/\clr p P t w i<p:=λw i=>⟨zh0 _ ⋯,zhP _ p0⟩;have a0 : ∀(w:Vc) i,i<t->0<=w i->w i<p->clr p P t w i=w i:=λw i hi h1 h2=>by
  unfold clr;rw [Pz i hi,ziY,Int.sub_zero];exact zjd h1 h2
 have ct : ∀w:Vc,clr p P t w t=0:=λw=>by unfold clr;rw [Pt,zjG,Int.sub_self];simp
 refine⟨λj i J hi=>cr _ _,λj i J hi=>?_,⟨λk I=>?_,λk q ag hq=>?_,λk I=>?_,λk j I J=>?_,λk q I hq ai=>?_,λk i I hi=>?_⟩,λk I=>?_,λv=>?_⟩
 ·rcases zhy i t with q | q
  ·have e:=h.zer j i J q
   rw [a0 _ i q ⋯ ⋯];exact e
  ·have:i=t:=by omega
   subst this;exact ct _
 ·unfold zax;split
  ·rename_i q;exact h.isb.lt k q
  ·exact ht
 ·unfold zax
  have I:k<r:=by omega
  rw [if_pos I];split
  ·rename_i z;exact h.isb.mono k q ag z
  ·exact h.lt k I
 ·unfold zax XS;split
  ·rename_i q
   have e:=h.isb.one k q;have hl:=h.lt k q;rw [a0 _ _ hl ⋯ (by have:=hp.two;omega)];exact e
  ·exact Pt
 ·unfold XS;unfold zax at J;split at J
  ·rename_i q
   have e:=h.isb.bef k j q J;have hl:=h.lt k q;rw [if_pos q,a0 _ _ ⋯ ⋯ ⋯];exact e
  ·rename_i q
   rw [if_neg q];exact Pz j J
 ·unfold XS zax
  by_cases z1:k<r
  ·rw [if_pos z1]
   by_cases z2:q<r
   ·rw [if_pos z2]
    have e:=h.isb.oth k q z1 z2 ai;have hl:=h.lt q z2;rw [a0 _ _ hl ⋯ ⋯];exact e
   ·rw [if_neg z2];exact ct _
  ·rw [if_neg z1]
   have z2:q<r:=by omega
   rw [if_pos z2];exact Pz _ (h.lt q z2)
 ·unfold XS;split
  ·exact cr _ _
  ·exact af i hi
 ·unfold zax;split
  ·rename_i q;exact zhY (h.lt k q)
  ·exact zir _
 ·rw [<- h.span v]
  have a4:Span p n (Un r B m Wt) P:=((Span.gen (p:=p) (n:=n) (G:=Un r B m Wt) (g:=Wt O) (.inr ⟨O,a8,rfl⟩)).smul y).congr λi hi=>by rw [Y i hi,zh1]
  have ac:Span p n (Un (r+1) (XS p P t r B) m λj=>clr p P t (Wt j)) P:= .gen (.inl ⟨r,zir r,by unfold XS;rw [if_neg (zif r)]⟩);constructor
  ·refine λhv=>hv.le λg hg=>?_
   rcases hg with⟨k,I,rfl⟩ | ⟨j,J,rfl⟩
   ·unfold XS;split
    ·rename_i q;exact yA a4 (.gen (.inl ⟨k,q,rfl⟩))
    ·exact a4
   ·exact yA a4 (.gen (.inr ⟨j,J,rfl⟩))
  ·refine λhv=>hv.le λg hg=>?_
   rcases hg with⟨k,I,rfl⟩ | ⟨j,J,rfl⟩
   ·refine Qi (t:=t) ac (.gen (.inl ⟨k,zhY I,?_⟩))
    unfold XS;rw [if_pos I]
   ·exact Qi (t:=t) ac (.gen (.inr ⟨j,J,rfl⟩))
theorem BInv.done(h:BInv p n m W n r B l Wt)(v:Vc):Span p n (Fam r B) v↔Span p n (Fam m W) v:=by
 rw [<- h.span v];constructor
 ·exact λI=>I.le λg z=> .gen (.inl z)
 ·refine λI=>I.le λg z=>?_
  rcases z with z | ⟨j,J,rfl⟩
  ·exact .gen z
  ·exact .zero λi hi=>by rw [h.zer j i J hi];simp
theorem YR(I:True)(P:Vc):jb (r+1) n (XS p P t r B)=jb r n (λk=>clr p P t (B k))++[.tup (zQ n P)]:=by
 unfold jb;rw [ziD,zhZ];congr 1
 ·apply zht
  intro k z;have:=zhp.mp z;simp [XS,this]
 ·simp [XS]
end
theorem xE{p:Int}(hp:Pr p){n m:Nat}(hn:n<=100)(hm:m<=lim)(kk:Sk)(W:Nat->Vc) :
 ∃r B l,F_base_of [.int p,.int n,dsq kk (jb m n W)]=some (.own (jb r n B))/\IsB p n r B l/\∀v,Span p n (Fam r B) v↔Span p n (Fam m W) v:=by
 have hl:=jM;have a1:n<=lim:=by omega
 have p0:=hp.pos;have aa:=vn (T:= .nm 5) (F:=yB)
  (λt γ=>∃r B l Wt c5 c6 c7 c8,γ=[.val (.int p),.val (.int n),.val (dsq kk (jb m n W)),.val (.lst (jb m n Wt)),.own (jb r n B),c5,c6,c7,c8]/\BInv p n m W t r B l Wt)
  ((zhf n).map λ(i:Nat)=>D.int i) 0 [.val (.int p),.val (.int n),.val (dsq kk (jb m n W)),.val (.lst (jb m n λj i=>W j i%p)),.own [],.no,.no,.no,.no]
  ⟨0,λ_ _=>0,λ_=>0,λj i=>W j i%p,.no,.no,.no,.no,rfl,λj i _ _=>⟨zh0 _ ⋯,zhP _ p0⟩,λj i _ hi=>absurd hi (zhC _),
   ⟨λk I=>absurd I (zhC _),λk q _ I=>absurd I (zhC _),λk I=>absurd I (zhC _),λk j I=>absurd I (zhC _),λk q I=>absurd I (zhC _),λk i I=>absurd I (zhC _)⟩,
   λk I=>absurd I (zhC _),λv=>⟨λhv=>hv.le λg hg=>by
    rcases hg with⟨k,I,_⟩ | ⟨j,O,rfl⟩
    ·exact absurd I (zhC _)
    ·exact(Span.gen (p:=p) (n:=n) (G:=Fam m W) (g:=W j) ⟨j,O,rfl⟩).congr λi _=>zh1 _ _,λhv=>hv.le λg hg=>by
    obtain⟨j,O,rfl⟩:=hg;exact(Span.gen (p:=p) (n:=n) (G:=Un 0 (λ_ _=>0) m λj i=>W j i%p) (g:=λi=>W j i%p) (.inr ⟨j,O,rfl⟩)).congr λi _=>(zh1 _ _).symm⟩⟩ (by
   rintro t d γ hd ⟨r,B,l,Wt,c5,c6,c7,c8,rfl,J⟩;rw [zjM]at J ⊢;have Y:t<n:=by have:=(zhg.mp hd).1;simpa using this
   have ab:d = .int t:=by simp [Y]at hd;exact hd.symm
   subst ab;have a3:z7 (.nm 0) (sB (zq dNe (sIx (zk 0) (ze 1)) (zo (.int 0)))) (ze 0) [Cell.no,Cell.val (.int t)] (jb m n Wt)=some (((zhf m).filter λj=> !decide (Wt j t=0)).map λj=>D.tup (zQ n (Wt j))):=by
    unfold jb;refine jY _ _ _ λj O=>⟨_,rfl,?_,λ_=>rfl⟩;simp [Y]
   have hr:r<=t:=JP J.isb.mono J.lt;have ac:r<=lim:=by omega
   cases hf:(zhf m).filter λj=> !decide (Wt j t=0)with
   | nil=>
    have hz : ∀j,j<m->Wt j t=0:=λj O=>by
     apply zi8;intro a7;have:j∈(zhf m).filter λj=> !decide (Wt j t=0):=zin.mpr ⟨zhp.mpr O,by simp [a7]⟩;rw [hf]at this;simp at this
    rw [hf]at a3;refine⟨_,.inr ?_,r,B,l,Wt,.val (.int t),.val (.lst []),c7,c8,rfl,J.skip hz⟩;simp only [yC,zhd,zie,zid,yB];rw [jm];simp [jm,jn,qh,zhm,a3,hm]
   | cons z j3=>
    have a8:z∈(zhf m).filter λj=> !decide (Wt j t=0):=by rw [hf];exact zhq
    have a9:z<m:=zhp.mp (zin.mp a8).1;have a7:Wt z t≠0:=by simpa using (zin.mp a8).2
    have af:=J.rng z t a9 Y;obtain⟨y,ey,y1,y2,yy⟩:=Js hp (x:=Wt z t) ⋯ af.2;rw [hf]at a3;have nx:=J.next hp Y a9 yy (P:=λi=>y*Wt z i%p) λi _=>rfl;refine⟨_,.inl ?_,r+1,XS p (λi=>y*Wt z i%p) t r B,zax t r l,λj=>clr p (λi=>y*Wt z i%p) t (Wt j),.val (.int t),.val (.lst ((z::j3).map λj=>D.tup (zQ n (Wt j)))),.val (.int y),.val (.tup (zQ n λi=>y*Wt z i%p)),rfl,nx⟩;have av:=hp.le;have cy : ∀x,vE y x=true:=λx=>qL _ _ ⋯ ⋯;have aj:z7 (.nm 0) jF (zq qw (ze 1) (ze 0)) [Cell.no,Cell.val (.int y)] (zQ n (Wt z))=some (zQ n λi=>y*Wt z i):=by
     rw [zW,zW];refine zA _ _ λi hi=>zC rfl rfl ?_;simp [cy]
    have ak:z7 (.nm 0) jF (zE F_cleared (zc (ze 1) (zc (ze 0) (zc (ze 3) (zc (ze 2) zz))))) [Cell.no,Cell.val (.int p),Cell.val (.int t),Cell.val (.tup (zQ n λi=>y*Wt z i%p))] (jb m n Wt)=some (jb m n λj=>clr p (λi=>y*Wt z i%p) t (Wt j)):=by
     unfold jb;refine zA _ _ λj O=>zC rfl rfl ?_;simp [yj hp a1 Y (Wt j) (λi=>y*Wt z i%p) λi hi=>J.rng j i (zhp.mp O) hi];rfl
    have am:z7 (.nm 0) jF (zE F_cleared (zc (ze 1) (zc (ze 0) (zc (ze 3) (zc (ze 2) zz))))) [Cell.no,Cell.val (.int p),Cell.val (.int t),Cell.val (.tup (zQ n λi=>y*Wt z i%p))] (jb r n B)=some (jb r n λj=>clr p (λi=>y*Wt z i%p) t (B j)):=by
     unfold jb;refine zA _ _ λj O=>zC rfl rfl ?_;simp [yj hp a1 Y (B j) (λi=>y*Wt z i%p) λi hi=>J.isb.rng j i (zhp.mp O) hi];rfl
    have an:r+1<=lim:=by omega
    rw [YR trivial];simp only [yC,zhd,zie,zid,yB];rw [jm];simp [jm,jn,qh,zhm,a3,hm,a1,Y,ey,aj,vA _ p0 a1,ak,am,ac,an])
 obtain⟨γ',e1,r,B,l,Wt,c5,c6,c7,c8,rfl,J⟩:=aa;simp only [zhB,zhX,zjM]at J;refine⟨r,B,l,?_,J.isb,J.done⟩;have ao:z7 (.nm 0) jF (zE F_rests (zc (ze 1) (zc (ze 0) zz))) [Cell.no,Cell.val (.int p)] (jb m n W)=some (jb m n λj i=>W j i%p):=by
  unfold jb;refine zA _ _ λj O=>zC rfl rfl ?_;simp [Vm _ p0 a1]
 have e0:F_base_of [.int p,.int n,dsq kk (jb m n W)]=jy 9 (zZ (jv 3 (qu (zJ (zG (zk 2)) (.nm 0) 1 [0] jF (zE F_rests (zc (ze 1) (zc (ze 0) zz)))))) (zZ (xN 4 (x6 zz)) (zZ (vK (zY (ze 1)) (.nm 5) yB) (yN 4)))) [.int p,.int n,dsq kk (jb m n W)]:=rfl;rw [e0];simp [jy,jx,jm,hm,jn,qh,zhm,ao,a1,jQ];rw [zW n λi=>(i:Int),e1];simp
def vm{α:Type}(q:Nat)(x:α)(f:Nat->α):Nat->α:=λk=>if k<q then f k else if k=q then x else f (k - 1)
def ym(l:Nat->Nat)(r x:Nat):Nat:=((zhf r).filter λk=>decide (l k<x)).length
theorem w5{l:Nat->Nat}{x:Nat} : ∀{r:Nat},(∀k m,k<m->m<r->l k<l m)->(∀k,k<r->l k≠x)->ym l r x<=r/\(∀k,k<ym l r x->l k<x)/\∀k,ym l r x<=k->k<r->x<l k
 | 0,_,_=>⟨zhn _,λk I=>absurd I (by simp [ym]),λk _ I=>absurd I (zhC _)⟩
 | r+1,hm,hne=>by
  obtain⟨h1,h2,J⟩:=w5 (r:=r) (x:=x) (λk m a b=>hm k m a ⋯) λk I=>hne k ⋯;have e:ym l (r+1) x=ym l r x+if l r<x then 1 else 0:=by
   unfold ym;rw [ziD,zks,zhQ];by_cases q:l r<x<;>simp [q]
  by_cases q:l r<x
  ·rw [e,if_pos q]
   have O:ym l r x=r:=by
    rcases zhy (ym l r x) r with z | z
    ·have Y:=J (ym l r x) (zhn _) z
     have a2:=hm (ym l r x) r z (zir r);omega
    ·omega
   rw [O];refine⟨zhn _,λk I=>?_,λk a b=>absurd b ⋯⟩;rcases zhy k r with z | z
   ·exact h2 k ⋯
   ·have:k=r:=by omega
    subst this;exact q
  ·rw [e,if_neg q,zka]
   refine⟨by omega,h2,λk a b=>?_⟩;rcases zhy k r with z | z
   ·exact J k a z
   ·have:k=r:=by omega
    subst this;have:=hne k b;omega
section
variable{p:Int}{n r:Nat}{B:Nat->Vc}{l:Nat->Nat}{w:Vc}
structure RInv(p:Int)(n r:Nat)(B:Nat->Vc)(l:Nat->Nat)(w:Vc)(k:Nat)(R:Vc):Prop where
 rng : ∀i,i<n->0<=R i/\R i<p
 zer : ∀q,q<k->R (l q)=0
 eqv : ∀G,(∀k,k<r->Span p n G (B k))->(Span p n G w↔Span p n G R)
theorem RInv.next(hp:Pr p)(Y:IsB p n r B l){k:Nat}{R:Vc}(h:RInv p n r B l w k R)(I:k<r):RInv p n r B l w (k+1) (clr p (B k) (l k) R):=by
 have p0:=hp.pos;refine⟨λi _=>⟨zh0 _ ⋯,zhP _ p0⟩,λq hq=>?_,λG J=>?_⟩
 ·unfold clr
  rcases zhy q k with z | z
  ·rw [h.zer q z,Y.oth k q I ⋯ ⋯];simp
  ·have:q=k:=by omega
   subst this;rw [Y.one q I];simp
 ·rw [h.eqv G J]
  exact⟨λO=>yA (J k I) O,λO=>Qi (J k I) O⟩
theorem Z1{α:Type}{q:Nat}{x:α}{f:Nat->α}{k:Nat}(J:q<=r)(O:k<r+1):(k=q/\vm q x f k=x)\/∃I,I<r/\vm q x f k=f I/\((k<q/\I=k)\/(q<k/\I+1=k)):=by
 unfold vm;rcases zkC k q with z | z | z
 ·right;exact⟨k,by omega,by rw [if_pos z],.inl ⟨z,rfl⟩⟩
 ·left;subst z;exact⟨rfl,by rw [if_neg (zif _),if_pos rfl]⟩
 ·right;exact⟨k - 1,by omega,by rw [if_neg ⋯,if_neg ⋯],.inr ⟨z,by omega⟩⟩
theorem ins_at_q{α:Type}{q:Nat}{x:α}{f:Nat->α}:vm q x f q=x:=by unfold vm;rw [if_neg (zif _),if_pos rfl]
theorem zbR{α:Type}{q:Nat}{x:α}{f:Nat->α}{k:Nat} : ∃I,(I<q/\I=k\/q<I/\I=k+1)/\vm q x f I=f k:=by
 rcases zhy k q with z | z
 ·exact⟨k,.inl ⟨z,rfl⟩,by unfold vm;rw [if_pos z]⟩
 ·exact⟨k+1,.inr ⟨by omega,rfl⟩,by unfold vm;rw [if_neg ⋯,if_neg ⋯];rfl⟩
theorem zbS(hp:Pr p)(hb:IsB p n r B l){a:Nat}{R:Vc}(ha:a<n)(h1:R a=1)(hz : ∀i,i<a->R i=0)(hl : ∀k,k<r->R (l k)=0)(hR : ∀i,i<n->0<=R i/\R i<p) :
 IsB p n (r+1) (vm (ym l r a) R λk=>clr p R a (B k)) (vm (ym l r a) a l):=by
 have p0:=hp.pos;have aa : ∀k,k<r->l k≠a:=λk J e=>by have:=hl k J;rw [e,h1]at this;omega
 obtain⟨hq,q1,q2⟩:=w5 hb.mono aa;have cr : ∀(w:Vc) i,0<=clr p R a w i/\clr p R a w i<p:=λw i=>⟨zh0 _ ⋯,zhP _ p0⟩;have ca : ∀w:Vc,clr p R a w a=0:=λw=>by unfold clr;rw [h1,zjG,Int.sub_self];simp
 have cl : ∀(w:Vc) k,k<r->0<=w (l k)->w (l k)<p->clr p R a w (l k)=w (l k):=λw k J h1 h2=>by
  unfold clr;rw [hl k J,ziY,Int.sub_zero];exact zjd h1 h2
 have cb : ∀k j,k<r->j<l k->clr p R a (B k) j=0:=λk j J hj=>by
  unfold clr;rw [hb.bef k j J hj];rcases zhy a (l k)with z | z
  ·rw [hb.bef k a J z];simp
  ·rw [hz j ⋯];simp
 have two:=hp.two;have Y : ∀k,k<r+1->(k=ym l r a/\vm (ym l r a) R (λk=>clr p R a (B k)) k=R/\vm (ym l r a) a l k=a)\/
  ∃I,I<r/\vm (ym l r a) R (λk=>clr p R a (B k)) k=clr p R a (B I)/\vm (ym l r a) a l k=l I/\((k<ym l r a/\I=k)\/(ym l r a<k/\I+1=k)):=by
  intro k J;rcases Z1 (x:=R) (f:=λk=>clr p R a (B k)) hq J with⟨e1,e2⟩ | ⟨I,O,e1,e2⟩
  ·left;refine⟨e1,e2,?_⟩;subst e1;exact ins_at_q
  ·right
   refine⟨I,O,e1,?_,e2⟩;rcases e2 with⟨z1,z2⟩ | ⟨z1,z2⟩
   ·unfold vm;rw [if_pos z1,z2]
   ·unfold vm;rw [if_neg ⋯,if_neg ⋯];congr 1;omega
 refine⟨λk J=>?_,λk m ah hm=>?_,λk J=>?_,λk j J hj=>?_,λk m J hm ai=>?_,λk i J hi=>?_⟩
 ·rcases Y k J with⟨_,_,e⟩ | ⟨I,O,_,e,_⟩
  ·rw [e];exact ha
  ·rw [e];exact hb.lt I O
 ·rcases Y k ⋯with⟨z,_,e⟩ | ⟨I,O,_,e,z⟩<;>rcases Y m hm with⟨z',_,e'⟩ | ⟨m',a1,_,e',z'⟩<;>rw [e,e']
  ·omega
  ·exact q2 m' ⋯ a1
  ·exact q1 I ⋯
  ·exact hb.mono I m' ⋯ a1
 ·rcases Y k J with⟨_,e1,e⟩ | ⟨I,O,e1,e,_⟩<;>rw [e1,e]
  ·exact h1
  ·have o:=hb.one I O
   rw [cl _ I O ⋯ ⋯];exact o
 ·rcases Y k J with⟨_,e1,e⟩ | ⟨I,O,e1,e,_⟩<;>rw [e1]<;>rw [e]at hj
  ·exact hz j hj
  ·exact cb I j O hj
 ·rcases Y k J with⟨z,e1,_⟩ | ⟨I,O,e1,_,z⟩<;>rcases Y m hm with⟨z',_,e'⟩ | ⟨m',a1,_,e',z'⟩<;>rw [e1,e']
  ·omega
  ·exact hl m' a1
  ·exact ca _
  ·have o:=hb.oth I m' O a1 ⋯
   rw [cl _ m' a1 ⋯ ⋯];exact o
 ·rcases Y k J with⟨_,e1,_⟩ | ⟨I,O,e1,_,_⟩<;>rw [e1]
  ·exact hR i hi
  ·exact cr _ _
theorem zbT{G:Vc->Prop}{q:Nat}{R:Vc}{F:Nat->Vc}(z:q<=r)(I:Span p n G R)(J : ∀k,k<r->Span p n G (F k)) : ∀g,Fam (r+1) (vm q R F) g->Span p n G g:=by
 rintro g ⟨k,O,rfl⟩;rcases Z1 (x:=R) (f:=F) z O with⟨_,e⟩ | ⟨Y,a0,e,_⟩<;>rw [e]
 ·exact I
 ·exact J Y a0
theorem zbJ{q:Nat}{R:Vc}{F:Nat->Vc}(I:q<=r):Fam (r+1) (vm q R F) R/\∀k,k<r->Fam (r+1) (vm q R F) (F k):=by
 refine⟨⟨q,by omega,ins_at_q.symm⟩,λk J=>?_⟩;obtain⟨z,h,e⟩:=zbR (q:=q) (x:=R) (f:=F) (k:=k);exact⟨z,by omega,e.symm⟩
theorem WN(hp:Pr p){W:Nat->Vc}{j a:Nat}{R R':Vc}{y:Int}(hb:IsB p n r B l)(ha:a<n)(O : ∀v,Span p n (Fam r B) v↔Span p n (Fam j W) v)(Y:RInv p n r B l (W j) r R)(hy:y*R a%p=1)(a0 : ∀i,i<n->R' i=y*R i%p)(hq:ym l r a<=r)(v:Vc) :
 Span p n (Fam (r+1) (vm (ym l r a) R' λk=>clr p R' a (B k))) v↔Span p n (Fam (j+1) W) v:=by
 have up : ∀v,Span p n (Fam j W) v->Span p n (Fam (j+1) W) v:=λv J=>J.le λg ⟨i,hi,e⟩=> .gen ⟨i,by omega,e⟩;have a2 : ∀k,k<r->Span p n (Fam (j+1) W) (B k):=λk I=>up _ ((O _).mp (.gen ⟨k,I,rfl⟩));have a8:Span p n (Fam (j+1) W) R:=(Y.eqv _ a2).mp (.gen ⟨j,by omega,rfl⟩);have a3:Span p n (Fam (j+1) W) R':=(a8.smul y).congr λi hi=>by rw [a0 i hi,zh1]
 obtain⟨m1,m2⟩:=zbJ (R:=R') (F:=λk=>clr p R' a (B k)) hq;have a4:Span p n (Fam (r+1) (vm (ym l r a) R' λk=>clr p R' a (B k))) R':= .gen m1;have gB : ∀k,k<r->Span p n (Fam (r+1) (vm (ym l r a) R' λk=>clr p R' a (B k))) (B k):=λk I=>Qi (t:=a) a4 (.gen (m2 k I));have gR:Span p n (Fam (r+1) (vm (ym l r a) R' λk=>clr p R' a (B k))) R:=(a4.smul (R a)).congr λi hi=>by
  rw [a0 i hi,Yr,<- zjc,zi6 (R a) y,zhr,hy,Int.one_mul,zh1]
 constructor
 ·exact λJ=>J.le (zbT hq a3 λk I=>yA a3 (a2 k I))
 ·refine λJ=>J.le ?_
  rintro g ⟨i,hi,rfl⟩;rcases zhy i j with z | z
  ·exact((O _).mpr (.gen ⟨i,z,rfl⟩)).le λg hZ=>by obtain⟨k,I,e⟩:=hZ;rw [e];exact gB k I
  ·have:i=j:=by omega
   subst this;exact(Y.eqv _ gB).mpr gR
theorem KI{W:Nat->Vc}{j:Nat}{R:Vc}(J : ∀v,Span p n (Fam r B) v↔Span p n (Fam j W) v)(O:RInv p n r B l (W j) r R)(h0 : ∀i,i<n->R i=0)(v:Vc):Span p n (Fam r B) v↔Span p n (Fam (j+1) W) v:=by
 constructor
 ·exact λI=>((J v).mp I).le λg ⟨i,hi,e⟩=> .gen ⟨i,by omega,e⟩
 ·refine λI=>I.le ?_
  rintro g ⟨i,hi,rfl⟩;rcases zhy i j with z | z
  ·exact(J _).mpr (.gen ⟨i,z,rfl⟩)
  ·have:i=j:=by omega
   subst this;exact(O.eqv _ λk Y=> .gen ⟨k,Y,rfl⟩).mpr (.zero λi hi=>by rw [h0 i hi];simp)
end
@[simp] theorem ya(h w f):(qU h w f).length=h:=by simp [qU]
section
variable{p:Int}{n m r:Nat}{G:Vc->Prop}
theorem Span.sum{u:Nat->Vc}(c:Nat->Int) : ∀{m:Nat},(∀k,k<m->Span p n G (u k))->Span p n G λi=>sumTo (λk=>c k*u k i) m
 | 0,_=> .zero λi _=>by simp [sumTo]
 | m+1,h=>(((h m ⋯).add (Span.sum c (m:=m) λk z=>h k ⋯) (c m))).congr λi _=>by simp [sumTo]
def Rk(p:Int)(n m:Nat)(W:Nat->Vc)(r:Nat):Prop:=∃B l,IsB p n r B l/\∀v,Span p n (Fam r B) v↔Span p n (Fam m W) v
theorem zbf(O:Pr p){W:Nat->Vc}{r r':Nat}(h:Rk p n m W r)(h':Rk p n m W r'):r=r':=by
 obtain⟨B,l,Y,I⟩:=h;obtain⟨B',l',a0,J⟩:=h';exact(Y9 O Y a0 (λv z=>(J v).mpr ((I v).mp z)) (λv z=>(I v).mpr ((J v).mp z))).1
theorem Qx(z:Pr p){B:Nat->Vc}{l:Nat->Nat}(I:IsB p n r B l){w:Vc}(hw : ∀i,i<n->0<=w i/\w i<p) : ∀k,k<=r->∃R,RInv p n r B l w k R
 | 0,_=>⟨w,hw,λq J=>absurd J (zhC _),λG _=>Iff.rfl⟩
 | k+1,h=>by
  obtain⟨R,O⟩:=Qx z I hw k ⋯;exact⟨_,O.next z I ⋯⟩
theorem Q2 : ∀(n:Nat) (R:Vc),(∀i,i<n->R i=0)\/∃a,a<n/\R a≠0/\∀i,i<a->R i=0
 | 0,R=> .inl λi hi=>absurd hi (zhC _)
 | n+1,R=>by
  rcases Q2 n R with h | ⟨a,h1,h2,I⟩
  ·by_cases e:R n=0
   ·exact .inl λi hi=>by rcases zhy i n with z | z;exact h i z;rw [show i=n by omega];exact e
   ·exact .inr ⟨n,by omega,e,h⟩
  ·exact .inr ⟨a,by omega,h2,I⟩
theorem zal(I:Pr p)(W:Nat->Vc)(hW : ∀j i,0<=W j i/\W j i<p) : ∀m,∃r,r<=m/\Rk p n m W r
 | 0=>⟨0,zhn _,λ_ _=>0,λ_=>0,⟨λk z=>absurd z (zhC _),λk q _ z=>absurd z (zhC _),λk z=>absurd z (zhC _),λk j z=>absurd z (zhC _),λk q z=>absurd z (zhC _),λk i z=>absurd z (zhC _)⟩,
  λv=>⟨λY=>Y.le λg ⟨k,z,_⟩=>absurd z (zhC _),λY=>Y.le λg ⟨k,z,_⟩=>absurd z (zhC _)⟩⟩
 | m+1=>by
  obtain⟨r,hr,B,l,J,hs⟩:=zal I W hW m;have p0:=I.pos;obtain⟨R,O⟩:=Qx I J (w:=W m) (λi _=>hW m i) r (zhn _);rcases Q2 n R with h0 | ⟨a,ha,a4,a5⟩
  ·exact⟨r,by omega,B,l,J,KI hs O h0⟩
  ·have a6:=O.rng a ha
   obtain⟨y,_,_,hy⟩:=zaC I (x:=R a) ⋯ a6.2;have a7 : ∀k,k<r->l k≠a:=λk z e=>by have:=O.zer k z;rw [e]at this;exact a4 this
   exact⟨r+1,by omega,_,_,zbS I J (R:=λi=>(y:Int)*R i%p) ha hy (λi hi=>by rw [a5 i hi];simp) (λk z=>by rw [O.zer k z];simp) λi _=>⟨zh0 _ ⋯,zhP _ p0⟩,
    WN I (R':=λi=>(y:Int)*R i%p) J ha hs O hy (λi _=>rfl) (w5 J.mono a7).1⟩
theorem zak(z:Pr p)(m:Nat)(W:Nat->Vc) : ∃r,r<=m/\Rk p n m W r:=by
 obtain⟨r,J,B,l,O,Y⟩:=zal (n:=n) z (λj i=>W j i%p) (λj i=>⟨zh0 _ (by have:=z.pos;omega),zhP _ z.pos⟩) m;refine⟨r,J,B,l,O,λv=>(Y v).trans ⟨λh=>h.le λg ⟨k,I,e⟩=>?_,λh=>h.le λg ⟨k,I,e⟩=>?_⟩⟩
 ·subst e;exact(Span.gen (g:=W k) ⟨k,I,rfl⟩).congr λi _=>by rw [zh1]
 ·subst e;exact(Span.gen (g:=λi=>W k i%p) ⟨k,I,rfl⟩).congr λi _=>by rw [zh1]
end
section
variable{p:Int}{n m r h w:Nat}
theorem yp{l:Nat->Nat}(h:Nat) : ∀{r:Nat},(∀k m,k<m->m<r->l k<l m)->∃s,s<=r/\(∀k,k<s->l k<h)/\∀k,s<=k->k<r->h<=l k
 | 0,_=>⟨0,zhn _,λk I=>absurd I (zhC _),λk _ I=>absurd I (zhC _)⟩
 | r+1,hm=>by
  obtain⟨s,h1,h2,J⟩:=yp h (r:=r) λk m I O=>hm k m I ⋯;by_cases e:l r<h
  ·refine⟨r+1,zhn _,λk I=>?_,λk h1 h2=>by omega⟩
   rcases zhy k r with z | z
   ·have:=hm k r z ⋯;omega
   ·have:k=r:=by omega
    subst this;exact e
  ·refine⟨s,by omega,h2,λk I Y=>?_⟩
   rcases zhy k r with z | z
   ·exact J k I z
   ·have:k=r:=by omega
    subst this;omega
theorem JX{q:Nat->Bool}{s r:Nat}(I:s<=r)(h1 : ∀k,k<s->q k=false)(h2 : ∀k,s<=k->k<r->q k=true):(zhf r).filter q=(zhf (r - s)).map (s + ·):=by
 obtain⟨d,rfl⟩ : ∃d,r=s+d:=⟨r - s,by omega⟩;rw [zjN,zks];have e1:(zhf s).filter q=[]:=List.filter_eq_nil_iff.mpr λk z=>by rw [h1 k (zhp.mp z)];decide
 have e2:((zhf d).map (s + ·)).filter q=(zhf d).map (s + ·):=List.filter_eq_self.mpr λk z=>by
  obtain⟨i,hi,rfl⟩:=ziJ.mp z;exact h2 _ ⋯ (by have:=zhp.mp hi;omega)
 rw [e1,e2,zhT];rfl
def j8(h:Nat)(u v:Vc):Vc:=λi=>if i<h then u i else v (i - h)
def xZ(j:Nat):Vc:=λk=>if j=k then 1 else 0
theorem zO{u v:Vc}{i:Nat}(hi:i<h):j8 h u v i=u i:=if_pos hi
theorem z5{u v:Vc}(i:Nat):j8 h u v (h+i)=v i:=by unfold j8;rw [if_neg ⋯,zhT]
theorem xM(h w:Nat)(u v:Vc):zQ h u++zQ w v=zQ (h+w) (j8 h u v):=by
 unfold zQ;rw [zjN,zhZ];congr 1
 ·exact zht λi hi=>by rw [zO (zhp.mp hi)]
 ·rw [zim]
  exact zht λi _=>by simp only [Function.comp];rw [z5]
theorem YN(h w:Nat)(v:Vc):(zQ (h+w) v).take h=zQ h v:=by
 unfold zQ;rw [<- List.map_take,List.take_range,Nat.min_eq_left (zh8 h w)]
theorem YO(h w:Nat)(v:Vc):(zQ (h+w) v).drop h=zQ w λj=>v (h+j):=by
 unfold zQ;rw [zjN,zhZ,List.drop_append_of_le_length ⋯,List.drop_eq_nil_of_le ⋯,zim];rfl
theorem Xa(h w:Nat)(v:Vc):Xb (zQ (h+w) v) none (some (h:Int))=zQ h v:=by
 have c : ¬((h:Int)<0):=by omega
 have e:min h (h+w)=h:=Nat.min_eq_left (zh8 h w);simp [Xb,J0,c,e,YN]
theorem Q9(h w:Nat)(v:Vc):Xb (zQ (h+w) v) (some (h:Int)) none=zQ w λj=>v (h+j):=by
 have c : ¬((h:Int)<0):=by omega
 have e:min h (h+w)=h:=Nat.min_eq_left (zh8 h w);have t : ∀g:Vc,(zQ w g).take w=zQ w g:=λg=>ziM ⋯;simp [Xb,J0,c,e,YO,t]
theorem VO(v:Vc) : ∀n,wE (zQ n v)=some ((zhf n).map λi=>v i != 0)
 | 0=>rfl
 | n+1=>by
  have z : ∀l:List Nat,wE (l.map λi=>D.int (v i))=some (l.map λi=>v i != 0):=by
   intro l
   induction l with
   | nil=>rfl
   | cons a l I=>simp [wE,ze3,I]
  exact z _
theorem kf{B:Nat->Vc}{l:Nat->Nat}(I:IsB p (h+w) r B l)(O:r<=lim){s:Nat}(Y:s<=r)(h1 : ∀k,k<s->l k<h)(h2 : ∀k,s<=k->k<r->h<=l k) :
 F_behind_noughts [.int h,.lst (jb r (h+w) B)]=some (.own (jb (r - s) w λk j=>B (s+k) (h+j))):=by
 have J:z7 (.nm 0) (qa (sB (zet (zH (Qt (ze 0) Ki (sBd (ze 1))))))) (Qt (ze 0) (sBd (ze 1)) Ki) [Cell.no,Cell.val (.int h)] (jb r (h+w) B)=some (((zhf r).filter λk=>decide (h<=l k)).map λk=>D.tup (zQ w λj=>B k (h+j))):=by
  unfold jb;refine jY (λk=>decide (h<=l k)) _ _ λk z=>⟨_,rfl,?_,λhq=>?_⟩
  ·have z:=zhp.mp z
   simp [Xa,VO];by_cases e:h<=l k
   ·simp [e]
    intro i hi;have:=I.bef k i z ⋯;simp [this]
   ·simp [e]
    exact⟨l k,by omega,by rw [I.one k z];decide⟩
  ·simp [Q9]
 rw [JX Y (λk z=>decide_eq_false (by have:=h1 k z;omega)) (λk a b=>decide_eq_true (h2 k a b))]at J;simp [F_behind_noughts,jy,jx,O,jn,qh,zhm,J];unfold jb;rfl
theorem Span.map{n':Nat}{G G':Vc->Prop}(t:Nat->Nat)(z : ∀i,i<n'->t i<n)(I : ∀g,G g->Span p n' G' λi=>g (t i)){v:Vc}(J:Span p n G v):Span p n' G' λi=>v (t i):=by
 induction J with
 | @zero v O=>exact .zero λi hi=>O _ (z i hi)
 | @step v u g c Y hu he ih=>exact((I _ Y).add ih c).congr λi hi=>he _ (z i hi)
end
section
variable{p:Int}{h w q r:Nat}
def app(f:Nat->Nat->Int)(w:Nat)(v:Vc):Vc:=λi=>sumTo (λj=>f i j*v j) w
theorem vy{f:Nat->Nat->Int}{u g v:Vc}{c:Int}(he : ∀j,j<w->v j%p=(u j+c*g j)%p)(i:Nat):app f w v i%p=(app f w u i+c*app f w g i)%p:=by
 unfold app;have e:sumTo (λj=>f i j*v j) w%p=sumTo (λj=>f i j*u j+c*(f i j*g j)) w%p:=jd λj z=>by
  rw [zhr,he j z,<- zhr,zko,Int.mul_left_comm]
 rw [e,jD,qk]
theorem yE{f:Nat->Nat->Int}{v:Vc}(z : ∀j,j<w->v j%p=0)(i:Nat):app f w v i%p=0:=by
 unfold app;have:sumTo (λj=>f i j*v j) w%p=sumTo (λ_=>0) w%p:=jd λj I=>by rw [zhr,z j I];simp
 rw [this,zI];rfl
theorem kK{f:Nat->Nat->Int}{u v:Vc}(he : ∀j,j<w->v j%p=u j%p)(i:Nat):app f w v i%p=app f w u i%p:=by
 unfold app;exact jd λj z=>by rw [zhr,he j z,<- zhr]
theorem J9(hp:Pr p)(hh:h<=100)(hw:w<=lim)(hq:q<=lim)(f:Nat->Nat->Int)(hf : ∀i j,i<h->j<w->0<=f i j/\f i j<100)(K:Nat->Vc) :
 ∃r B l,F_led_on [.int p,xv h w f,.lst (jb q w K)]=some (.own (jb r h B))/\IsB p h r B l/\∀v,Span p h (Fam r B) v ↔ ∃y,Span p w (Fam q K) y/\∀i,i<h->v i%p=app f w y i%p:=by
 have hl:=jM;obtain⟨r,B,l,e,hb,a7⟩:=xE hp hh hq .L λk i=>app f w (K k) i%p;refine⟨r,B,l,?_,hb,λv=>(a7 v).trans ⟨λz=>?_,λ⟨y,J,z⟩=>?_⟩⟩
 ·have a8:z7 (.nm 0) jF (zE F_led (zc (ze 1) (zc (ze 2) (zc (ze 0) zz)))) [Cell.no,Cell.val (.int p),Cell.val (xv h w f)] (jb q w K)=some (jb q h λk i=>app f w (K k) i%p):=by
   unfold jb;refine zA _ _ λk I=>zC rfl rfl ?_;have:=zac (p:=p) .T f (K k) hp.pos (show h<=lim by omega) hw hf;simp only [dsq]at this;simp [this];rfl
  simp only [dsq]at e;have sq:jL (xv h w f)=some (.T,[.int h,.int w,.tup (jb h w f)]):=rfl;simp [F_led_on,jy,jx,hq,jn,qh,zhm,a8,sq,e]
 ·induction z with
  | @zero v O=>exact⟨λ_=>0,.zero λi _=>by simp,λi hi=>by rw [O i hi,yE (p:=p) (λ_ _=>by simp)]⟩
  | @step v u g c Y hu he ih=>
   obtain⟨y,J,a9⟩:=ih;obtain⟨k,I,rfl⟩:=Y;refine⟨λj=>y j+c*K k j,(Span.gen (g:=K k) ⟨k,I,rfl⟩).add J c,λi hi=>?_⟩;rw [vy (p:=p) (u:=y) (g:=K k) (c:=c) (λ_ _=>rfl) i,he i hi,zhD,a9 i hi,zhr,zh1,<- zhr,<- zhD]
 ·induction J generalizing v with
  | @zero y O=>exact .zero λi hi=>by rw [z i hi];exact yE O i
  | @step y u g c Y hu he ih=>
   obtain⟨k,I,rfl⟩:=Y;have h1:=ih (app f w u) ⟨u,hu,λ_ _=>rfl⟩ λi hi=>rfl;refine((Span.gen (g:=λi=>app f w (K k) i%p) ⟨k,I,rfl⟩).add h1 c).congr λi hi=>?_;rw [z i hi,vy (p:=p) he i,zhD,zhr,<- zh1 (app f w (K k) i),<- zhr,<- zhD,zh1]
theorem vX(J:IsB p (h+w) r B l){s:Nat}(hs:s<=r)(s1 : ∀k,k<s->l k<h)(s2 : ∀k,s<=k->k<r->h<=l k) :
 IsB p w (r - s) (λk j=>B (s+k) (h+j)) (λk=>l (s+k) - h)/\∀v,Span p w (Fam (r - s) λk j=>B (s+k) (h+j)) v↔Span p (h+w) (Fam r B) (j8 h (λ_=>0) v):=by
 refine⟨{
  lt:=λk I=>by have:=J.lt (s+k) ⋯;have:=s2 (s+k) ⋯ ⋯;omega
  mono:=λk m I hm=>by have:=J.mono (s+k) (s+m) ⋯ ⋯;have:=s2 (s+k) ⋯ ⋯;omega
  one:=λk I=>by
   have:=s2 (s+k) ⋯ ⋯;rw [show h+(l (s+k) - h)=l (s+k)by omega];exact J.one _ ⋯
  bef:=λk j I hj=>J.bef _ _ ⋯ ⋯
  oth:=λk m I hm a5=>by
   have:=s2 (s+m) ⋯ ⋯;rw [show h+(l (s+m) - h)=l (s+m)by omega];exact J.oth _ _ ⋯ ⋯ ⋯
  rng:=λk i I hi=>J.rng _ _ ⋯ ⋯},λv=>⟨λO=>?_,λO=>?_⟩⟩
 ·induction O with
  | @zero v hz=>
   refine .zero λi hi=>?_;rcases zhy i h with z | z
   ·rw [zO z];simp
   ·obtain⟨k,rfl⟩ : ∃k,i=h+k:=⟨i - h,by omega⟩
    rw [z5];exact hz k ⋯
  | @step v u g c hg hu he Y=>
   obtain⟨k,I,rfl⟩:=hg;refine .step (g:=B (s+k)) (c:=c) ⟨s+k,by omega,rfl⟩ Y λi hi=>?_;rcases zhy i h with z | z
   ·rw [zO z,zO z,J.bef (s+k) i ⋯ (by have:=s2 (s+k) ⋯ ⋯;omega)];simp
   ·obtain⟨j,rfl⟩ : ∃k,i=h+k:=⟨i - h,by omega⟩
    rw [z5,z5];exact he j ⋯
 ·have co:=Ka J O
  refine(Span.sum (u:=λk j=>B (s+k) (h+j)) (λk=>j8 h (λ_=>0) v (l (s+k))) (m:=r - s) λk I=> .gen ⟨k,I,rfl⟩).congr λj hj=>?_;have:=co (h+j) ⋯;rw [z5]at this;rw [this];obtain⟨d,rfl⟩ : ∃d,r=s+d:=⟨r - s,by omega⟩;rw [zhT];have sp : ∀(F:Nat->Int) (d:Nat),(∀k,k<s->F k=0)->sumTo F (s+d)=sumTo (λk=>F (s+k)) d:=by
   intro F d hF
   induction d with
   | zero=>
    show sumTo F s=0;rw [zw (g:=λ_=>0) hF,zI]
   | succ d Y=>rw [<- Nat.add_assoc];simp only [sumTo];rw [Y]
  rw [sp _ d λk I=>by rw [zO (s1 k I)];simp]
end
section
variable{p:Int}{h w q:Nat}
def jV(h w:Nat)(f:Nat->Nat->Int)(g:Nat->Vc):Nat->Vc:=λm=>if m<w then j8 h (λi=>f i m) (xZ m)else j8 h (g (m - w)) (λ_=>0)
theorem YQ(f:Nat->Nat->Int)(g:Nat->Vc):jb w (h+w) (λj=>j8 h (λi=>f i j) (xZ j))++jb q (h+w) (λk=>j8 h (g k) λ_=>0)=jb (w+q) (h+w) (jV h w f g):=by
 unfold jb;rw [zjN,zhZ,zim];congr 1
 ·refine zht λm hm=>?_
  unfold jV;rw [if_pos (zhp.mp hm)]
 ·refine zht λm hm=>?_
  simp only [Function.comp];unfold jV;rw [if_neg ⋯,zhT]
theorem W7(f:Nat->Nat->Int){j:Nat}(z:j<w)(i:Nat):app f w (xZ j) i=f i j:=by
 unfold app;rw [zX (f:=λk=>f i k*xZ j k) z λk _ I=>by simp [xZ,zic I]];simp [xZ]
theorem Yg{f:Nat->Nat->Int}{g:Nat->Vc}{z:Vc}(I:Span p (h+w) (Fam (w+q) (jV h w f g)) z):Span p h (Fam q g) λi=>z i - app f w (λj=>z (h+j)) i:=by
 induction I with
 | @zero z I=>
  refine .zero λi hi=>?_;rw [zjv,I i ⋯,yE (p:=p) (λj hj=>I (h+j) ⋯) i];simp
 | @step z u g' c hg hu he Y=>
  obtain⟨m,hm,rfl⟩:=hg;have e2:=λi=>vy (p:=p) (w:=w) (f:=f) (u:=λj=>u (h+j)) (g:=λj=>jV h w f g m (h+j)) (v:=λj=>z (h+j)) (c:=c) (λj hj=>he (h+j) ⋯) i;have a0 : ∀i,i<h->(z i - app f w (λj=>z (h+j)) i)%p=((u i - app f w (λj=>u (h+j)) i)+c*(jV h w f g m i - app f w (λj=>jV h w f g m (h+j)) i))%p:=λi hi=>by
   rw [zjv,he i ⋯,e2 i,<- zjv];congr 1;rw [Int.mul_sub];omega
  rcases zhy m w with J | J
  ·refine Y.congr λi hi=>?_
   rw [a0 i hi];have t:app f w (λj=>jV h w f g m (h+j)) i=f i m:=by
    have:(λj=>jV h w f g m (h+j))=xZ m:=by
     funext j;unfold jV;rw [if_pos J,z5]
    rw [this,W7 f J]
   have O:jV h w f g m i=f i m:=by unfold jV;rw [if_pos J,zO hi]
   rw [t,O];simp
  ·refine .step (g:=g (m - w)) (c:=c) ⟨m - w,by omega,rfl⟩ Y λi hi=>?_
   rw [a0 i hi];have t:app f w (λj=>jV h w f g m (h+j)) i=0:=by
    have:(λj=>jV h w f g m (h+j))=λ_=>0:=by
     funext j;unfold jV;rw [if_neg ⋯,z5]
    rw [this];unfold app;simp [zI]
   have O:jV h w f g m i=g (m - w) i:=by unfold jV;rw [if_neg ⋯,zO hi]
   rw [t,O];simp
theorem zbW{f:Nat->Nat->Int}{g:Nat->Vc}{y:Vc}(I:Span p h (Fam q g) y):Span p (h+w) (Fam (w+q) (jV h w f g)) (j8 h y λ_=>0):=by
 induction I with
 | @zero y J=>
  refine .zero λi hi=>?_;rcases zhy i h with z | z
  ·rw [zO z];exact J i z
  ·obtain⟨k,rfl⟩ : ∃k,i=h+k:=⟨i - h,by omega⟩
   rw [z5];simp
 | @step y u g' c O hu he Y=>
  obtain⟨k,hk,rfl⟩:=O;refine .step (g:=jV h w f g (w+k)) (c:=c) ⟨w+k,by omega,rfl⟩ Y λi hi=>?_;have e:jV h w f g (w+k)=j8 h (g k) λ_=>0:=by
   unfold jV;rw [if_neg ⋯,zhT]
  rw [e];rcases zhy i h with z | z
  ·rw [zO z,zO z,zO z];exact he i z
  ·obtain⟨j,rfl⟩ : ∃k,i=h+k:=⟨i - h,by omega⟩
   rw [z5,z5,z5];simp
theorem Zf(hp:Pr p)(hh:h<=20)(hw:w<=20)(hq:q<=100)(f:Nat->Nat->Int)(g:Nat->Vc) :
 ∃r B l,F_led_into [.int p,xv h w f,.lst (jb q h g)]=some (.own (jb r w B))/\IsB p w r B l/\∀v,Span p w (Fam r B) v↔Span p h (Fam q g) (app f w v):=by
 have hl:=jM;have af:h<=lim:=by omega
 have I:w<=lim:=by omega
 have O:h+w<=lim:=by omega
 have ag:q<=lim:=by omega
 have Y:w+q<=lim:=by omega
 obtain⟨r,B,l,e,J,a5⟩:=xE hp (show h+w<=100 by omega) Y .L (jV h w f g);have ah:r<=h+w:=JP J.mono J.lt;obtain⟨s,hs,s1,s2⟩:=yp h J.mono;have eb:=kf J ⋯ hs s1 s2;obtain⟨a7,tl⟩:=vX J hs s1 s2;refine⟨r - s,_,_,?_,a7,λv=>(tl v).trans ((a5 _).trans ⟨λhv=>?_,λhv=>?_⟩)⟩
 ·have ov:=Vn f af I
  have sm:=Jq (n:=w) I;have a8:z7 (.tp [0,1]) jF (zq jH (ze 0) (ze 1)) [Cell.no,Cell.no] ((zhf w).map λj=>D.tup [.tup (zQ h λi=>f i j),.tup (zQ w λk=>if j=k then 1 else 0)])=some (jb w (h+w) λj=>j8 h (λi=>f i j) (xZ j)):=by
   unfold jb;refine zA _ _ λj hj=>zC rfl rfl ?_;simp [jH,O,xM];rfl
  have zp:Jv (jb w h λi j=>f j i) (jb w w λi j=>if i=j then 1 else 0)=(zhf w).map λj=>D.tup [.tup (zQ h λi=>f i j),.tup (zQ w λk=>if j=k then 1 else 0)]:=by
   unfold Jv jb;rw [List.zip_map'];simp
  have aa:inR (w:Int)=true:=x9 I;have zr:qw (.tup [.int 0]) (.int w)=some (.tup (zQ w λ_=>0)):=by
   show(if [D.int 0].length*(w:Int).toNat<=lim/\inR (w:Int)=true then some (D.tup (zhm (w:Int).toNat [D.int 0]).flatten)else none)=_;rw [if_pos ⟨by simpa using I,aa⟩];congr 2;rw [zib];clear a8 zp sm ov eb a7 tl a5 J e aa Y O I hw hq s1 s2 hs ah
   induction w with
   | zero=>rfl
   | succ w ih=>rw [List.replicate_succ',List.flatten_append,ih];unfold zQ;rw [ziD,zhZ];rfl
  have fr:z7 (.nm 0) jF (zq jH (ze 0) (zq qw (jC (zc (zo (.int 0)) zz)) (sIx (zk 1) (zo (.int 1))))) [Cell.no,Cell.val (xv h w f)] (jb q h g)=some (jb q (h+w) λk=>j8 h (g k) λ_=>0):=by
   unfold jb;refine zA _ _ λk hk=>zC rfl rfl ?_;have sq:jL (xv h w f)=some (.T,[.int h,.int w,.tup (jb h w f)]):=rfl;simp [sq,zr,jH,O,xM]
  have c1:((h:Int)+(w:Int))=((h+w:Nat):Int):=by omega
  simp only [dsq]at e;rw [<- c1,<- YQ]at e;have sq:jL (xv h w f)=some (.T,[.int h,.int w,.tup (jb h w f)]):=rfl;unfold xv at ov sm fr ⊢;simp [F_led_into,jy,jx,jm,ov,sm,zp,I,ag,Y,jn,qh,zhm,a8,fr,e,eb]
 ·have:=Yg hv
  refine(this.smul (-1)).congr λi hi=>?_;congr 1;show app f w v i = -1*(j8 h (λ_=>0) v i - app f w (λj=>j8 h (λ_=>0) v (h+j)) i);rw [zO hi,show(λj=>j8 h (λ_=>0) v (h+j))=v from funext λj=>z5 j];omega
 ·have a:=Span.sum (p:=p) (n:=h+w) (G:=Fam (w+q) (jV h w f g)) (u:=λj=>jV h w f g j) v (m:=w) λj hj=> .gen ⟨j,by omega,rfl⟩
  have b:=zbW (w:=w) (f:=f) hv;refine(b.add a (-1)).congr λi hi=>?_;congr 1;rcases zhy i h with z | z
  ·rw [zO z,zO z]
   have:sumTo (λk=>v k*jV h w f g k i) w=app f w v i:=by
    unfold app;exact zw λk hk=>by unfold jV;rw [if_pos hk,zO z,zi6]
   rw [this];omega
  ·obtain⟨k,rfl⟩ : ∃k,i=h+k:=⟨i - h,by omega⟩
   rw [z5,z5];have:sumTo (λj=>v j*jV h w f g j (h+k)) w=v k:=by
    rw [zX (f:=λj=>v j*jV h w f g j (h+k)) (i:=k) ⋯ λj hj am=>by unfold jV;rw [if_pos hj,z5];simp [xZ,am]];unfold jV;rw [if_pos (show k<w by omega),z5];simp [xZ]
   rw [this];simp
end
@[simp] theorem zcq(r):qh (.nest r) = .no:=rfl
@[simp] theorem zdC(r):qh (.own r) = .no:=rfl
@[simp] theorem zdB(d):qh (.val d) = .val d:=rfl
@[simp] theorem zex:qh .no = .no:=rfl
theorem Jf{T:Tg}{f:CO (List D)}{γ:Ctx}{g:Nat->D}{R:Nat->List D} : ∀(l:List Nat),(∀k∈l,∃γ1,jN T (g k) γ=some γ1/\f γ1=some (R k))->ka T f γ (l.map g)=some (l.map R)
 | [],_=>rfl
 | k::l,h=>by
  obtain⟨γ1,h1,h2⟩:=h k zhq;have z:=Jf l λx hx=>h x (zhs _ hx);simp [ka,h1,h2,z]
def begR(w:Nat->Bool)(k:Nat):Nat:=if w k then k+1 else k
def endR(w:Nat->Bool)(k:Nat):Nat:=if w k then k else k+1
theorem Z4(w:Nat->Bool)(wd:Nat->Nat)(k):hiW w wd k=wd (endR w k):=by unfold hiW endR;split<;>rfl
theorem Zm(w:Nat->Bool)(wd:Nat->Nat)(k):wiW w wd k=wd (begR w k):=by unfold wiW begR;split<;>rfl
theorem Y8(w:Nat->Bool){k m:Nat}(h:k<m):begR w k<m+1:=by unfold begR;split<;>omega
theorem YM(w:Nat->Bool){k m:Nat}(h:k<m):endR w k<m+1:=by unfold endR;split<;>omega
section
variable{p:Int}{m:Nat}{w:Nat->Bool}{wd:Nat->Nat}{f g T:Nat->Nat->Nat->Int}
theorem X8(m:Nat)(F:Nat->D):qT ((zhf m).map F)=(zhf m).map λ(k:Nat)=>D.tup [.int k,F k]:=by
 unfold qT;rw [zhB,zhX];apply zht;intro k z;have z:=zhp.mp z;simp [z]
end
structure Bar where
 s:Nat
 n:Nat
 v:Nat->Vc
def Bar.has(b:Bar)(r:Nat):Bool:=decide (b.s<=r) && decide (r<b.s+b.n)
theorem has_iff{b:Bar}{r:Nat}:b.has r=true↔b.s<=r/\r<b.s+b.n:=by simp [Bar.has]
structure BarOk(p:Int)(w:Nat->Bool)(wd:Nat->Nat)(T:Nat->Nat->Nat->Int)(k:Nat)(b:Bar):Prop where
 n1:1<=b.n
 le:b.s+b.n<=k+1
 rng : ∀r i,b.has r=true->i<wd r->0<=b.v r i/\b.v r i<p
 arr : ∀j,j<k->b.has (begR w j)=true->∀i,i<wd (endR w j)->app (T j) (wd (begR w j)) (b.v (begR w j)) i%p=(if b.has (endR w j)=true then b.v (endR w j) i else 0)%p
def mxV(p:Int)(A:Nat->Bar)(N:Nat)(t:Vc)(r:Nat):Vc:=λc=>sumTo (λj=>if (A j).has r=true then t j*(A j).v r c else 0) N%p
section
variable{p:Int}{w:Nat->Bool}{wd:Nat->Nat}{T:Nat->Nat->Nat->Int}{k N:Nat}{A:Nat->Bar}
theorem zcf(f:Nat->Nat->Int)(h:Nat)(t:Vc)(u:Nat->Vc)(n:Nat)(i:Nat):app f h (λc=>sumTo (λj=>t j*u j c) n) i=sumTo (λj=>t j*app f h (u j) i) n:=by
 unfold app;have e:sumTo (λj=>f i j*sumTo (λk=>t k*u k j) n) h=sumTo (λj=>sumTo (λk=>t k*(f i j*u k j)) n) h:=zw λj _=>by
  rw [<- qk];exact zw λk _=>by rw [<- zjc,<- zjc,zi6 (f i j)]
 rw [e,kQ];exact zw λj _=>qk ..
theorem zbQ(c:Prop) [Decidable c](x y:Int):(if c then x*y else 0)=x*(if c then y else 0):=by split<;>simp
theorem zce(f:Nat->Nat->Int)(h r:Nat)(t:Vc)(i:Nat):app f h (mxV p A N t r) i%p=sumTo (λj=>t j*(if (A j).has r=true then app f h ((A j).v r) i else 0)) N%p:=by
 have e:app f h (mxV p A N t r) i%p=app f h (λc=>sumTo (λj=>t j*(if (A j).has r=true then (A j).v r c else 0)) N) i%p:=kK (λc _=>by
  unfold mxV;rw [zh1];congr 1;exact zw λj _=>zbQ ..) i
 rw [e,zcf];congr 1;refine zw λj _=>?_;congr 1;by_cases z:(A j).has r=true
 ·simp only [if_pos z]
 ·simp only [if_neg z]
  unfold app;simp [zI]
end
section
variable{p:Int}{n m N h r r2 q:Nat}{B B2 K:Nat->Vc}{l l2 lK:Nat->Nat}{M f:Nat->Nat->Int}
theorem Ky{U:Nat->Vc}{v:Vc}(z:Span p n (Fam m U) v) : ∃t:Vc,∀i,i<n->v i%p=sumTo (λj=>t j*U j i) m%p:=by
 induction z with
 | zero h=>exact⟨λ_=>0,λi hi=>by rw [h i hi];simp [zI]⟩
 | @step v w g c I hw he J=>
  obtain⟨t,O⟩:=J;obtain⟨k,Y,rfl⟩:=I;refine⟨λj=>t j+if j=k then c else 0,λi hi=>?_⟩;rw [he i hi,zhD,O i hi,<- zhD];congr 1;have e:sumTo (λj=>(t j+if j=k then c else 0)*U j i) m=sumTo (λj=>t j*U j i) m+sumTo (λj=>(if j=k then c else 0)*U j i) m:=by
   rw [<- jD];exact zw λj _=>zkp ..
  rw [e,zX (f:=λj=>(if j=k then c else 0)*U j i) Y λj _ hj=>by simp [hj]];simp
theorem Xr(a b:Nat->Int)(n:Nat):sumTo (λj=>a j*b j) n=sumTo (λj=>b j*a j) n:=zw λj _=>zi6 ..
end
def xD:List D->Option Res:=jy 8 (zZ (xN 4 (x6 zz)) (zZ (vK (zY (ze 2)) (.nm 5) (zZ (jv 6 (zE F_law_cell (zc (ze 0) (zc (zq jH (ze 1) (ze 5)) zz)))) (zZ (jv 7 (zq qm (ze 6) (ze 3))) (xo 4 (jC (zc (ze 7) (zc (zq jH (ze 7) (zq qm (zq yf (ze 6) (ze 3)) (zq ye (ze 3) (ze 7)))) zz))))))) (Zy (Zx (zk 4)))))
theorem jf{F G:CO Fl}{γ γ':Ctx}{r:Option Fl}(h:F γ=some (.next γ'))(g:G γ'=r):zZ F G γ=r:=by
 rw [jm,h];exact g
theorem kS{n:Nat}{F:CO Fl}{ds:List D}{r:Res}(h:F (jx n ds)=some (.ret r)):jy n F ds=some r:=by
 show(F (jx n ds)).bind _=_;rw [h];rfl
theorem Z8{T:Tg}{F:CO Fl}(P:Nat->Ctx->Prop)(n:Nat){γ:Ctx}(h0:P 0 γ)(step : ∀s,s<n->∀γ,P s γ->∃γ1 z,jN T (.int (s:Int)) γ=some γ1/\F γ1=some (.next z)/\P (s+1) z) :
 ∃γ',xl T F ((zhf n).map λ(i:Nat)=>D.int (i:Int)) γ=some (.next γ')/\P n γ':=by
 have J : ∀(k s:Nat) (γ:Ctx),s+k=n->P s γ->∃γ',xl T F ((zjr s k).map λ(i:Nat)=>D.int (i:Int)) γ=some (.next γ')/\P n γ':=by
  intro k
  induction k with
  | zero=>
   intro s γ e I;obtain rfl:s=n:=by omega
   exact⟨γ,rfl,I⟩
  | succ k O=>
   intro s γ e I;obtain⟨γ1,z,e1,e2,Y⟩:=step s ⋯ γ I;obtain⟨γ',q1,q2⟩:=O (s+1) z ⋯ Y;refine⟨γ',?_,q2⟩;rw [zi1,zhI,j4,e1];simp only [zhd,e2];exact q1
 have:=J n 0 γ ⋯ h0;rw [<- ziH]at this;exact this
theorem XW{T:Tg}{F:CO Fl}{f:CO D}(P:Nat->Ctx->Prop)(n:Nat)(hn:n<=lim){γ:Ctx}(I:f γ=some (.int (n:Int)))(h0:P 0 γ)(step : ∀s,s<n->∀γ,P s γ->∃γ1 z,jN T (.int (s:Int)) γ=some γ1/\F γ1=some (.next z)/\P (s+1) z) :
 ∃γ',vK (zY f) T F γ=some (.next γ')/\P n γ':=by
 obtain⟨γ',e,J⟩:=Z8 P n h0 step;refine⟨γ',?_,J⟩;have O:=jM;have r:inR (n:Int)=true:=QX ⋯ ⋯;rw [Xe,xA,I];simp only [zhd,jh,r,if_true,zib,jQ];rw [zW n λi=>(i:Int)];exact e
@[simp] theorem zf0(γ:Ctx)(f g):zbd f g γ=((f γ).bind asI).bind λi=>((g γ).bind asI).map λj=> .int (if j<i then j else i):=rfl
def zgc(m m':Nat)(w w':Nat->Bool):Prop:=m=m'/\∀k,k<m->w k=w' k
instance (m m':Nat) (w w':Nat->Bool):Decidable (zgc m m' w w'):=inferInstanceAs (Decidable (m=m'/\∀k,k<m->w k=w' k))
theorem YZ(xs:List D)(n:Nat)(hn:xs.length=n)(a6 : ∀i (h:i<n),∃z,xs[i]'(hn ▸ h) = .int z)(av:n<=63)(k:Int)(hk:0<=k)(aw:k<100000) :
 ∃m,F_law_cell [.lst xs,.int k]=some (.val (.int m))/\0<=m/\m<1000000007:=by
 have J : ∀x:Int,vE x 48271=true:=λx=>Y5 _ _ ⋯ ⋯;have O : ∀x:Int,vE 7 x=true:=λx=>qL _ _ ⋯ ⋯;have Y : ∀x:Int,vE 13 x=true:=λx=>qL _ _ ⋯ ⋯;have c4 : ∀x:Int,vE x 69621=true:=λx=>Y5 _ _ ⋯ ⋯;have c5:vE (7*k) k=true:=Y5 _ _ ⋯ ⋯;have I:zee 10 9=true:=by decide
 have a1:zee 10 30=true:=by decide
 have hl:lim=2500:=rfl;by_cases af:n=0
 ·subst af
  have e0:xs=[]:=zhN hn;subst e0;simp [F_law_cell,jy,jx,jm,J,O,Y,c4,c5,I,a1];omega
 ·have hp:0<n:=by omega
  obtain⟨i,hi⟩:=ziu (zh0 k (show(n:Int)≠0 by omega));have a7:i<n:=by have:=zhP k (show(0:Int)<n by omega);omega
  obtain⟨zi,ei⟩:=a6 i a7;have ii:ixD n (i:Int)=some i:=by rw [jt,if_pos a7]
  by_cases h1:n=1
  ·subst h1
   have i0:i=0:=by omega
   subst i0;have k1:k%1=0:=by omega
   simp [F_law_cell,jy,jx,jm,J,O,Y,c4,c5,I,a1,hn,ei];omega
  ·obtain⟨z0,e0⟩:=a6 0 hp
   have i0:ixD n 0=some 0:=by have:=jt n 0;rw [if_pos hp]at this;exact this
   have q1:(0:Int)<(n:Int) - 1:=by omega
   have q2:(1:Int)<(n:Int):=by omega
   have ae:1<n:=by omega
   have q3:(n:Int) - 1<1073741824:=by omega
   have q4:(0:Int)<(n:Int):=by omega
   obtain⟨j,hj⟩:=ziu (zh0 k (show(n:Int) - 1≠0 by omega));have a8:1+j<n:=by have:=zhP k q1;omega
   obtain⟨zj,ej⟩:=a6 (1+j) a8;have ij:ixD n (1+(j:Int))=some (1+j):=by
    have:=jt n (1+j);rw [if_pos a8]at this;rw [<- this];congr 1
   have hd:0<=k/((n:Int) - 1)/\k/((n:Int) - 1)<=k:=⟨Int.ediv_nonneg hk ⋯,Int.ediv_le_self _ hk⟩;obtain⟨t,ht⟩:=ziu hd.1;by_cases ha:z0%2=1
   ·obtain⟨t',aq,b0⟩ : ∃t':Nat,(if (t:Int)<60 then (t:Int)else 60)=t'/\t'<=60:=by
     split
     ·exact⟨t,rfl,by omega⟩
     ·exact⟨60,rfl,by omega⟩
    have ar:inR (t':Int)=true:=QX ⋯ ⋯;simp [F_law_cell,jy,jx,jm,J,O,Y,c4,c5,hn,hp,a8,q2,ae,e0,i0,q1,q3,ha,hj,ij,ej,ht,I,a1];rw [aq,if_pos ar];simp only [zhd,jQ,zib];rw [zW t' λi=>(i:Int)];have as : ∀(m s:Nat) (v:Int) (c:Cell),∃v' c',xl (.nm 3) (jv 2 (zq yf (ze 2) (zq zb2 (zo (D.int 10)) (zo (D.int 9))))) ((zjr s m).map λ(i:Nat)=>D.int i) [.val (.lst xs),.val (.int k),.val (.int v),c,.no] =
     some (.next [.val (.lst xs),.val (.int k),.val (.int v'),c',.no]):=by
     intro m
     induction m with
     | zero=>intro s v c;exact⟨v,c,rfl⟩
     | succ m ih=>
      intro s v c;rw [zi1,zhI,j4];obtain⟨v',c',h⟩:=ih (s+1) (v/10 ^ 9) (.val (.int s));refine⟨v',c',?_⟩;rw [<- h];simp [I]
    obtain⟨v',c',h⟩:=as t' 0 zj .no;rw [<- ziH]at h;rw [h];simp [I];omega
   ·simp [F_law_cell,jy,jx,jm,J,O,Y,c4,c5,hn,q2,ae,q4,hp,e0,i0,ha,hi,ei,a7,ii,I,a1]
    omega
theorem zb6(ns:List Int)(hn:ns.length<=63)(k:Int)(z:0<=k)(I:k<100000) : ∃m,F_law_cell [Jd ns,.int k]=some (.val (.int m))/\0<=m/\m<1000000007:=
 YZ (ns.map D.int) ns.length ⋯ (λi hi=>⟨ns[i],by simp⟩) hn k z I
def qC(ns:List Int)(k:Int):Int:=match F_law_cell [Jd ns,.int k]with
 | some (.val (.int m))=>m
 | _=>0
theorem w9{ns:List Int}(hn:ns.length<=63){k:Int}(z:0<=k)(I:k<100000):F_law_cell [Jd ns,.int k]=some (.val (.int (qC ns k)))/\0<=qC ns k/\qC ns k<1000000007:=by
 obtain⟨m,h,h1,h2⟩:=zb6 ns hn k z I;have e:qC ns k=m:=by unfold qC;rw [h]
 rw [e];exact⟨h,h1,h2⟩
def zP(bs:List (Int×Int)):List D:=bs.map λb=>D.tup [.int b.1,.int b.2]
@[simp] theorem kJ(bs):(zP bs).length=bs.length:=by simp [zP]
theorem wf : ∀bs,yd (zP bs)=some bs
 | []=>rfl
 | b::bs=>by
  have z:=wf bs;unfold zP at z;simp [zP,yd,Wq,z]
def JB(bs:List (Int×Int)):List (Int×Int):=(qv bs).map λi=>bs.getD i (0,0)
theorem vZ(bs):(JB bs).Perm bs:=by
 have:=(ql bs).map λi=>bs.getD i (0,0);rw [xR]at this;exact this
theorem KB{bs:List (Int×Int)}(h:bs.length<64):Xu (zP bs)=some (zP (JB bs)):=by
 unfold Xu;rw [wf];show(if (zP bs).length<64 then some ((qv bs).map λi=>(zP bs).getD i .non)else none)=_;rw [kJ,if_pos h];unfold JB;congr 1;unfold zP;rw [zim];refine zht λi hi=>?_;have hi:i<bs.length:=zhp.mp ((ql bs).mem_iff.mp hi);simp [hi]
def Vu(n:Int)(b:Int×Int):Prop:=0<=b.1/\b.1<=b.2/\b.2<n
@[simp] theorem zeQ(γ f):Zx f γ=(f γ).bind λa=>match a.1 with
 | .L=>Xu a.2
 | _=>none:=rfl
section ap
variable(γ:Ctx)
@[simp] theorem zeP(f):zai f γ=(f γ).bind λd=>match d with
 | .str z=>if ja z=true then some (qe z)else none
 | _=>none:=rfl
@[simp] theorem zeR(f):qp f γ=(f γ).bind λd=>match d with
 | .str z=>if ja z=true then some (qT (qe z))else none
 | _=>none:=rfl
@[simp] theorem zeS(f):yQ f γ=(f γ).bind λd=>match d with
 | .lst ds=>some (qT ds)
 | _=>none:=rfl
@[simp] theorem zgA(f g):zgi f g γ=(f γ).bind λd=>(g γ).bind λa=>match d with
 | .str x=>(za0 a.2).map λl=> .bl (l.any λy=>y==x)
 | _=>none:=rfl
end ap
def zgY(b:Int×Int)(r:Int):Bool:=decide (b.1<=r) && decide (r<=b.2)
def zar(bs:List (Int×Int))(r:Int):List Nat:=(zhf bs.length).filter λi=>zgY (bs.getD i (0,0)) r
def zfu(l:List Nat):List D:=l.map λ(i:Nat)=>D.int i
@[simp] theorem zey(l):(zfu l).length=l.length:=by simp [zfu]
def vw(h w:Nat)(f g:Nat->Nat->Int)(i:Nat):Vc:=if i<h then j8 w (f i) (λ_=>0)else j8 w (λ_=>0) (g (i - h))
theorem WW(h h' w:Nat)(f g F:Nat->Nat->Int)(h1 : ∀i j,i<h->j<w->F i j=f i j)(h2 : ∀i j,i<h'->j<w->F (h+i) j=g i j):jb h w f++jb h' w g=jb (h+h') w F:=by
 unfold jb;rw [zjN,zhZ,zim];congr 1
 ·exact zht λi hi=>by rw [w4 λj z=>(h1 i j (zhp.mp hi) z).symm]
 ·exact zht λi hi=>by
   simp only [Function.comp];rw [w4 λj z=>(h2 i j (zhp.mp hi) z).symm]
theorem zbI(n:Nat):(zhm n [D.int 0]).flatten=zQ n λ_=>0:=by
 induction n with
 | zero=>rfl
 | succ n z=>
  rw [ziA,ziT,z];unfold zQ;rw [<- km,<- km];rfl
theorem W5{h w h' w':Nat}(f g:Nat->Nat->Int):jb h (w+w') (λi=>j8 w (f i) λ_=>0)++jb h' (w+w') (λi=>j8 w (λ_=>0) (g i))=jb (h+h') (w+w') (vw h w f g):=
 WW h h' _ _ _ _ (λi j hi _=>by unfold vw;rw [if_pos hi]) λi j hi _=>by unfold vw;rw [if_neg ⋯,zhT]
theorem xP{h w h' w':Nat}(f g:Nat->Nat->Int)(hh:h<=400)(hw:w<=400)(a7:h'<=400)(a8:w'<=400) :
 F_tables_beside_5 [xv h w f,xv h' w' g]=some (.val (xv (h+h') (w+w') (vw h w f g))):=by
 have hl:=jM;have I:h<=lim:=by omega
 have l2:w<=lim:=by omega
 have Y:h'<=lim:=by omega
 have l4:w'<=lim:=by omega
 have O:w+w'<=lim:=by omega
 have l6:h+h'<=lim:=by omega
 have J : ∀(h w:Nat) (f:Nat->Nat->Int),jL (xv h w f)=some (.T,[.int h,.int w,.tup (jb h w f)]):=λ_ _ _=>rfl;have n2:qw (.tup [.int 0]) (.int w)=some (.tup (zQ w λ_=>0)):=by
  show(if ([D.int 0]).length*(w:Int).toNat<=lim/\inR (w:Int)=true then _ else _)=_;rw [if_pos ⟨by simpa using l2,x9 l2⟩,zib,zbI]
 have g1:z7 (.tp [0,1]) jF (zq jH (ze 0) (ze 1)) [Cell.no,Cell.no] (Jv (jb h w f) (jb h w' λ_ _=>0))=some (jb h (w+w') λi=>j8 w (f i) λ_=>0):=by
  have z:Jv (jb h w f) (jb h w' λ_ _=>0)=(zhf h).map λi=>D.tup [.tup (zQ w (f i)),.tup (zQ w' λ_=>0)]:=by
   unfold Jv jb;rw [List.zip_map'];simp
  rw [z];unfold jb;refine zA _ _ λi hi=>zC rfl rfl ?_;have e:jH (.tup (zQ w (f i))) (.tup (zQ w' λ_=>0))=some (.tup (zQ (w+w') (j8 w (f i) λ_=>0))):=by
   show(if (zQ w (f i)).length+(zQ w' λ_=>0).length<=lim then _ else _)=_;rw [if_pos (by simpa using O),xM]
  show zq _ _ _ [Cell.val (.tup (zQ w (f i))),Cell.val (.tup (zQ w' λ_=>0))]=_;simp [e]
 have g2:z7 (.nm 0) jF (zq jH (zq qw (jC (zc (zo (.int 0)) zz)) (sIx (zk 1) (zo (.int 1)))) (ze 0)) [Cell.no,Cell.val (xv h w f)] (jb h' w' g)=some (jb h' (w+w') λi=>j8 w (λ_=>0) (g i)):=by
  unfold jb;refine zA _ _ λi hi=>zC rfl rfl ?_;have e:jH (.tup (zQ w λ_=>0)) (.tup (zQ w' (g i)))=some (.tup (zQ (w+w') (j8 w (λ_=>0) (g i)))):=by
   show(if (zQ w λ_=>0).length+(zQ w' (g i)).length<=lim then _ else _)=_;rw [if_pos (by simpa using O),xM]
  simp [J,n2,e]
 have zl:(Jv (jb h w f) (jb h w' λ_ _=>0)).length<=lim:=by
  unfold Jv jb;simp;exact I
 have nj:F_no_join [xv h w f,xv h' w' g]=some (.val (xv h w' λ_ _=>0)):=by
  simp [F_no_join,jy,jx,J,J8 I l4]
 have tj:F_tables_joined [xv h w f,xv h' w' g,xv h w' λ_ _=>0]=some (.val (xv (h+h') (w+w') (vw h w f g))):=by
  simp [F_tables_joined,jy,jx,jm,J,I,Y,l6,zl,jn,qh,zhm,g1,g2];rw [W5];simp [xv]
 simp [F_tables_beside_5,jy,jx,nj,tj]
@[simp] theorem Xg(γ:Ctx)(F G g):Qv F G g γ=(g γ).bind λl=>match l with
 | [p,.str z,t,b]=>((if z=("r" : Str)then F else G) [p,t,b]).bind zcp
 | _=>none:=rfl
section
variable{p:Int}{m:Nat}{w:Nat->Bool}{wd:Nat->Nat}{T:Nat->Nat->Nat->Int}{a:Nat}
def Stp(p:Int)(w:Nat->Bool)(wd:Nat->Nat)(T:Nat->Nat->Nat->Int)(k:Nat)(u v:Vc):Prop:=
 if w k then ∀x,x<wd k->u x%p=app (T k) (wd (k+1)) v x%p else ∀x,x<wd (k+1)->v x%p=app (T k) (wd k) u x%p
def Xh(p:Int)(w:Nat->Bool)(wd:Nat->Nat)(T:Nat->Nat->Nat->Int)(i a:Nat):Nat->Vc->Prop
 | 0,z=>∀x,x<a->z x%p=z (a+x)%p
 | t+1,z=>∃u:Vc,Xh p w wd T i a t (j8 a z u)/\Stp p w wd T (i+t) u λx=>z (a+x)
theorem kj(F:Nat->Int)(s:Nat) : ∀d,sumTo F (s+d)=sumTo F s+sumTo (λk=>F (s+k)) d
 | 0=>by simp [sumTo]
 | d+1=>by rw [<- Nat.add_assoc];simp only [sumTo];rw [kj F s d];omega
theorem vx{f:Nat->Nat->Int}{c:Nat}(y:Vc)(x:Nat):app (vw a a (λi j=>if i=j then 1 else 0) f) (a+c) y x=if x<a then y x else app f c (λj=>y (a+j)) (x - a):=by
 unfold app;rw [kj];by_cases h:x<a
 ·rw [if_pos h]
  have e1:sumTo (λj=>vw a a (λi j=>if i=j then 1 else 0) f x j*y j) a=y x:=by
   rw [zX (f:=λj=>vw a a (λi j=>if i=j then 1 else 0) f x j*y j) (i:=x) h λj z I=>by
    unfold vw;rw [if_pos h,zO z];simp [zic I]]
   unfold vw;rw [if_pos h,zO h];simp
  have e2:sumTo (λk=>vw a a (λi j=>if i=j then 1 else 0) f x (a+k)*y (a+k)) c=0:=by
   rw [zw (g:=λ_=>0) λj _=>by unfold vw;rw [if_pos h,z5];simp,zI]
  rw [e1,e2];simp
 ·rw [if_neg h]
  have e1:sumTo (λj=>vw a a (λi j=>if i=j then 1 else 0) f x j*y j) a=0:=by
   rw [zw (g:=λ_=>0) λj z=>by unfold vw;rw [if_neg h,zO z];simp,zI]
  have e2:sumTo (λk=>vw a a (λi j=>if i=j then 1 else 0) f x (a+k)*y (a+k)) c=sumTo (λj=>f (x - a) j*y (a+j)) c:=
   zw λj _=>by unfold vw;rw [if_neg h,z5]
  rw [e1,e2];simp
theorem zdr{i t:Nat}(hw:w (i+t)=false){q I:Nat}{B B':Nat->Vc}(J : ∀z,Span p (a+wd (i+t)) (Fam q B) z↔Xh p w wd T i a t z)
 (Y : ∀v,Span p (a+wd (i+t+1)) (Fam I B') v ↔ ∃y,Span p (a+wd (i+t)) (Fam q B) y/\∀x,x<a+wd (i+t+1)->v x%p=app (vw a a (λi j=>if i=j then 1 else 0) (T (i+t))) (a+wd (i+t)) y x%p) (v:Vc) :
 Span p (a+wd (i+t+1)) (Fam I B') v↔Xh p w wd T i a (t+1) v:=by
 rw [Y v];constructor
 ·rintro⟨y,hy,O⟩
  refine⟨λx=>y (a+x),(J _).mp (hy.congr λx hx=>?_),?_⟩
  ·rcases zhy x a with z | z
   ·rw [zO z]
    have:=O x ⋯;rw [vx,if_pos z]at this;exact this
   ·obtain⟨k,rfl⟩ : ∃k,x=a+k:=⟨x - a,by omega⟩
    rw [z5]
  ·unfold Stp
   rw [hw,if_neg zhA];intro x hx;have:=O (a+x) ⋯;rw [vx,if_neg ⋯,zhT]at this;exact this
 ·rintro⟨u,h1,h2⟩
  unfold Stp at h2;rw [hw,if_neg zhA]at h2;refine⟨j8 a v u,(J _).mpr h1,λx hx=>?_⟩;rw [vx];rcases zhy x a with z | z
  ·rw [if_pos z,zO z]
  ·rw [if_neg ⋯]
   obtain⟨k,rfl⟩ : ∃k,x=a+k:=⟨x - a,by omega⟩;rw [zhT,show(λj=>j8 a v u (a+j))=u from funext λj=>z5 j];exact h2 k ⋯
theorem zds{i t:Nat}(hw:w (i+t)=true){q I:Nat}{B B':Nat->Vc}(J : ∀z,Span p (a+wd (i+t)) (Fam q B) z↔Xh p w wd T i a t z)
 (O : ∀v,Span p (a+wd (i+t+1)) (Fam I B') v↔Span p (a+wd (i+t)) (Fam q B) (app (vw a a (λi j=>if i=j then 1 else 0) (T (i+t))) (a+wd (i+t+1)) v)) (v:Vc) :
 Span p (a+wd (i+t+1)) (Fam I B') v↔Xh p w wd T i a (t+1) v:=by
 rw [O v];constructor
 ·intro Y
  refine⟨λx=>app (T (i+t)) (wd (i+t+1)) (λj=>v (a+j)) x,(J _).mp (Y.congr λx hx=>?_),?_⟩
  ·rw [vx]
   rcases zhy x a with z | z
   ·rw [zO z,if_pos z]
   ·obtain⟨k,rfl⟩ : ∃k,x=a+k:=⟨x - a,by omega⟩
    rw [z5,if_neg ⋯,zhT]
  ·unfold Stp
   rw [hw,if_pos rfl];exact λx _=>rfl
 ·rintro⟨u,h1,h2⟩
  unfold Stp at h2;rw [hw,if_pos rfl]at h2;refine((J _).mpr h1).congr λx hx=>?_;rw [vx];rcases zhy x a with z | z
  ·rw [zO z,if_pos z]
  ·obtain⟨k,rfl⟩ : ∃k,x=a+k:=⟨x - a,by omega⟩
   rw [z5,if_neg ⋯,zhT];exact(h2 k ⋯).symm
def XY:CO Fl:=(zes 4 (xN 4 (Qv F_led_on F_led_into (zc (sIx (zk 0) (zo (.int 0))) (zc (sIx (zk 5) (zo (.int 0))) (zc (zE F_tables_beside_5 (zc (ze 3) (zc (sIx (zk 5) (zo (.int 1))) zz))) (zc (ze 4) zz)))))))
theorem WA:F_link=jy 6 (zZ (jv 3 (zE F_same_table (zc (sIx (zH (sIx (zk 0) (zo (.int 1)))) (ze 1)) zz))) (zZ (xN 4 (zJ (zG (zH (sIx (zk 3) (zo (.int 2))))) (.nm 0) 1 [] jF (zq jH (ze 0) (ze 0)))) (zZ (vK (zG (zH (Qt (sIx (zk 0) (zo (.int 2))) (sBd (ze 1)) (sBd (ze 2))))) (.nm 5) XY) (yN 4)))):=rfl
theorem oneS_r{b:Bool}:(qG (wch b)=("r" : Str))↔b=false:=by cases b<;>decide
abbrev lk(p:Int)(m:Nat)(w:Nat->Bool)(wd:Nat->Nat)(T:Nat->Nat->Nat->Int)(i j:Int)(a:Nat)(ds:List D)(c:Cell):Ctx:=[.val (yt p m w wd T),.val (.int i),.val (.int j),.val (xv a a λi j=>if i=j then 1 else 0),.own ds,c]
theorem Yv(O:Pr p)(a1 : ∀k,wd k<=7)(ha:a<=7)(hT : ∀k x y,0<=T k x y/\T k x y<p)(i' j':Int){i t q:Nat}{B:Nat->Vc}(hq:q<=20)(hB : ∀z,Span p (a+wd (i+t)) (Fam q B) z↔Xh p w wd T i a t z) :
 ∃I B' l',XY (lk p m w wd T i' j' a (jb q (a+wd (i+t)) B) (.val (Vf w wd T (i+t))))=some (.next (lk p m w wd T i' j' a (jb I (a+wd (i+t+1)) B') (.val (Vf w wd T (i+t)))))/\IsB p (a+wd (i+t+1)) I B' l'/\
  ∀z,Span p (a+wd (i+t+1)) (Fam I B') z↔Xh p w wd T i a (t+1) z:=by
 have hl:=jM;have a9:=O.le;have h1:=a1 (i+t);have h2:=a1 (i+t+1);have tb:=xP (h:=a) (w:=a) (h':=hiW w wd (i+t)) (w':=wiW w wd (i+t)) (λi j=>if i=j then 1 else 0) (T (i+t)) ⋯ ⋯ (by unfold hiW;split<;>omega) (by unfold wiW;split<;>omega);have rs:jL (yt p m w wd T)=some (.T,[.int p,.tup (zQ (m+1) λk=>(wd k:Int)),.tup (xz m w wd T)]):=rfl;have J:jL (Vf w wd T (i+t))=some (.T,[.str (qG (wch (w (i+t)))),xv (hiW w wd (i+t)) (wiW w wd (i+t)) (T (i+t))]):=rfl;have bd : ∀x y,0<=vw a a (λi j=>if i=j then 1 else 0) (T (i+t)) x y/\vw a a (λi j=>if i=j then 1 else 0) (T (i+t)) x y<100:=λx y=>by
  have:=hT (i+t) (x - a) (y - a);unfold vw j8;split
  ·dsimp only
   split
   ·split<;>omega
   ·omega
  ·dsimp only
   split
   ·omega
   ·omega
 cases hw:w (i+t)with
 | false=>
  have hi:hiW w wd (i+t)=wd (i+t+1):=by unfold hiW;rw [hw];rfl
  have wi:wiW w wd (i+t)=wd (i+t):=by unfold wiW;rw [hw];rfl
  rw [hi,wi]at tb J;obtain⟨I,B',l',e,Y,a0⟩:=J9 O (h:=a+wd (i+t+1)) (w:=a+wd (i+t)) (q:=q) ⋯ ⋯ ⋯ (vw a a (λi j=>if i=j then 1 else 0) (T (i+t))) (λx y _ _=>bd x y) B;refine⟨I,B',l',?_,Y,zdr hw hB a0⟩;have z:qG (wch (w (i+t)))=("r" : Str):=oneS_r.mpr hw;unfold XY;simp only [lk,zaI,J5,Xg,xB,yh,kM,jT,jk,xh,xC,zhj,zhk,ke,zie,zid,zx,zM,rs,J,zhd,zhF,jh,zhJ,zjm,ix0,ix1,tb,qM,z,if_true,e,Qy]
 | true=>
  have hi:hiW w wd (i+t)=wd (i+t):=by unfold hiW;rw [hw];rfl
  have wi:wiW w wd (i+t)=wd (i+t+1):=by unfold wiW;rw [hw];rfl
  rw [hi,wi]at tb J;obtain⟨I,B',l',e,Y,a0⟩:=Zf O (h:=a+wd (i+t)) (w:=a+wd (i+t+1)) (q:=q) ⋯ ⋯ ⋯ (vw a a (λi j=>if i=j then 1 else 0) (T (i+t))) B;refine⟨I,B',l',?_,Y,zds hw hB a0⟩;have z : ¬(qG (wch (w (i+t)))=("r" : Str)):=λq=>by have:=oneS_r.mp q;rw [hw]at this;cases this
  unfold XY;simp only [lk,zaI,J5,Xg,xB,yh,kM,jT,jk,xh,xC,zhj,zhk,ke,zie,zid,zx,zM,rs,J,zhd,zhF,jh,zhJ,zjm,ix0,ix1,tb,qM,z,if_false,e,Qy]
end
section
variable{p:Int}{m:Nat}{w:Nat->Bool}{wd:Nat->Nat}{T:Nat->Nat->Nat->Int}
theorem VL(I:Pr p)(a:Nat):IsB p (a+a) a (λx=>j8 a (xZ x) (xZ x)) id where
 lt:=λk z=>by simp only [id];omega
 mono:=λk m z _=>z
 one:=λk z=>by simp only [id];rw [zO z];exact if_pos rfl
 bef:=λk j z J=>by simp only [id]at J;rw [zO ⋯];exact if_neg ⋯
 oth:=λk m z hm O=>by simp only [id];rw [zO hm];exact if_neg ⋯
 rng:=λk i _ _=>by have:=I.two;unfold j8 xZ;split<;>split<;>omega
theorem Kn(hp:Pr p)(i:Nat)(z:Vc):Span p (wd i+wd i) (Fam (wd i) λx=>j8 (wd i) (xZ x) (xZ x)) z↔Xh p w wd T i (wd i) 0 z:=by
 constructor
 ·intro I
  induction I with
  | @zero z I=>intro x hx;rw [I x ⋯,I (wd i+x) ⋯]
  | @step z u g c O hu he Y=>
   obtain⟨k,J,rfl⟩:=O;intro x hx;dsimp only at he;rw [he x ⋯,he (wd i+x) ⋯,zO hx,z5,zhD,Y x hx,<- zhD]
 ·intro I
  refine(Span.sum (u:=λx=>j8 (wd i) (xZ x) (xZ x)) z (m:=wd i) λk J=> .gen ⟨k,J,rfl⟩).congr λx hx=>?_;have one : ∀y,y<wd i->sumTo (λk=>z k*xZ k y) (wd i)=z y:=λy hy=>by
   rw [zX (f:=λk=>z k*xZ k y) hy λj _ a1=>by simp [xZ,a1]];simp [xZ]
  rcases zhy x (wd i)with q | q
  ·have:sumTo (λk=>z k*j8 (wd i) (xZ k) (xZ k) x) (wd i)=z x:=by
    rw [<- one x q];exact zw λk _=>by rw [zO q]
   rw [this]
  ·obtain⟨k,rfl⟩ : ∃k,x=wd i+k:=⟨x - wd i,by omega⟩
   have:sumTo (λj=>z j*j8 (wd i) (xZ j) (xZ j) (wd i+k)) (wd i)=z k:=by
    rw [<- one k ⋯];exact zw λj _=>by rw [z5]
   rw [this];exact(I k ⋯).symm
theorem Vo(Y:Pr p)(a0 : ∀k,wd k<=7)(hT : ∀k x y,0<=T k x y/\T k x y<p){i j:Nat}(a3:i<=j)(hj:j<=m) :
 ∃q B l,F_link [yt p m w wd T,.int i,.int j]=some (.own (jb q (wd i+wd j) B))/\IsB p (wd i+wd j) q B l/\∀z,Span p (wd i+wd j) (Fam q B) z↔Xh p w wd T i (wd i) (j - i) z:=by
 have hl:=jM;have ha:=a0 i;have a1:wd i<=lim:=by omega
 have a5:wd i+wd i<=lim:=by omega
 have a6 : ∀(k t:Nat) (q:Nat) (B:Nat->Vc) (l:Nat->Nat) (c:Cell),t+k=j - i->IsB p (wd i+wd (i+t)) q B l->(∀z,Span p (wd i+wd (i+t)) (Fam q B) z↔Xh p w wd T i (wd i) t z)->
  ∃O B' l' c',xl (.nm 5) XY ((zjr t k).map λk=>Vf w wd T (i+k)) (lk p m w wd T i j (wd i) (jb q (wd i+wd (i+t)) B) c)=some (.next (lk p m w wd T i j (wd i) (jb O (wd i+wd j) B') c'))/\IsB p (wd i+wd j) O B' l'/\
   ∀z,Span p (wd i+wd j) (Fam O B') z↔Xh p w wd T i (wd i) (j - i) z:=by
  intro k
  induction k with
  | zero=>
   intro t q B l c h I J;have e1:t=j - i:=by omega
   have e2:i+t=j:=by omega
   rw [e2]at I J ⊢;rw [<- e1];exact⟨q,B,l,c,rfl,I,J⟩
  | succ k ih=>
   intro t q B l c h I J;have hq:q<=wd i+wd (i+t):=JP I.mono I.lt;have:=a0 (i+t);obtain⟨q1,B1,l1,e,ab,ac⟩:=Yv (m:=m) Y a0 ha hT i j ⋯ J;obtain⟨O,B',l',c',e',af,ag⟩:=ih (t+1) q1 B1 l1 (.val (Vf w wd T (i+t))) ⋯ ab ac;refine⟨O,B',l',c',?_,af,ag⟩;rw [zi1,zhI,j4];show((XY (lk p m w wd T i j (wd i) (jb q (wd i+wd (i+t)) B) (.val (Vf w wd T (i+t))))).bind _)=_;rw [e];exact e'
 obtain⟨q,B,l,c,e,I,J⟩:=a6 (j - i) 0 (wd i) (λx=>j8 (wd i) (xZ x) (xZ x)) id .no ⋯ (VL Y (wd i)) (Kn Y i);refine⟨q,B,l,?_,I,J⟩;have sm:=Jq (n:=wd i) a1;have wi:i<m+1:=by omega
 have tw:z7 (.nm 0) jF (zq jH (ze 0) (ze 0)) [Cell.no] (jb (wd i) (wd i) λi j=>if i=j then 1 else 0)=some (jb (wd i) (wd i+wd i) λx=>j8 (wd i) (xZ x) (xZ x)):=by
  unfold jb;refine zA _ _ λx hx=>zC rfl rfl ?_;simp [jH,a5,xM];rfl
 have rs:jL (yt p m w wd T)=some (.T,[.int p,.tup (zQ (m+1) λk=>(wd k:Int)),.tup (xz m w wd T)]):=rfl;have dq:jL (xv (wd i) (wd i) λi j=>if i=j then 1 else 0)=some (.T,[.int (wd i),.int (wd i),.tup (jb (wd i) (wd i) λi j=>if i=j then 1 else 0)]):=rfl;have ix:ixD (m+1) (i:Int)=some i:=by rw [jt,if_pos wi]
 have wx:(zQ (m+1) λk=>(wd k:Int))[i]? = some (.int (wd i)):=yw _ wi;have ca:Xb (xz m w wd T) (some (i:Int)) (some (j:Int))=(zhf (j - i)).map λk=>Vf w wd T (i+k):=by
  rw [zea a3 hj];rfl
 rw [<- ziH]at e;rw [WA];unfold jy;have e0:jx 6 [yt p m w wd T,.int i,.int j]=[.val (yt p m w wd T),.val (.int i),.val (.int j),.no,.no,.no]:=rfl;have s1:(jv 3 (zE F_same_table (zc (sIx (zH (sIx (zk 0) (zo (.int 1)))) (ze 1)) zz))) [.val (yt p m w wd T),.val (.int i),.val (.int j),.no,.no,.no]=some (.next [.val (yt p m w wd T),.val (.int i),.val (.int j),.val (xv (wd i) (wd i) λi j=>if i=j then 1 else 0),.no,.no]):=by
  simp only [Vg,xC,xB,yh,kM,qj,jT,jk,xh,zhj,zhk,zx,zM,rs,Ve,zhd,zhF,jh,zhJ,zjm,ix1,xL,ix,wx,sm,qM];rfl
 have s2:(xN 4 (zJ (zG (zH (sIx (zk 3) (zo (.int 2))))) (.nm 0) 1 [] jF (zq jH (ze 0) (ze 0)))) [.val (yt p m w wd T),.val (.int i),.val (.int j),.val (xv (wd i) (wd i) λi j=>if i=j then 1 else 0),.no,.no]=some (.next (lk p m w wd T i j (wd i) (jb (wd i) (wd i+wd i) λx=>j8 (wd i) (xZ x) (xZ x)) .no)):=by
  simp only [J5,qX,qW,qj,kM,jT,xh,zhj,zhk,zM,dq,Ve,zhd,zhF,jh,zhJ,zjm,ix2,WV,a1,if_true];rw [show jn 1 [] [Cell.val (yt p m w wd T),Cell.val (D.int (i:Int)),Cell.val (D.int (j:Int)),Cell.val (xv (wd i) (wd i) λi j=>if i=j then 1 else 0),Cell.no,Cell.no]=[Cell.no]from rfl,tw];rfl
 rw [e0,jm,s1,kl,jm,s2,kl,jm,Xe];simp only [lk,qW,qj,zej,kM,jT,jk,xh,zf8,zhj,zhk,zM,zx,rs,Ve,zhd,zhF,jh,zhJ,zjm,ix2,ca];simp only [lk,zka]at e;rw [e];simp
end
@[simp] theorem zen(γ:Ctx)(i f):JD i f γ=(qV γ[i]?).bind λds=>(f γ).bind λes=>if ds.length+es.length<=lim then some (.next (γ.set i (.own (ds++es))))else none:=rfl
section
variable{p:Int}{m:Nat}{w:Nat->Bool}{wd:Nat->Nat}{T:Nat->Nat->Nat->Int}
theorem Qw:jL (yt p m w wd T)=some (.T,[.int p,.tup (zQ (m+1) λk=>(wd k:Int)),.tup (xz m w wd T)]):=rfl
end
@[simp] theorem vz(γ:Ctx)(f):qp f γ=(f γ).bind λd=>match d with
 | .str z=>if ja z=true then some (qT (qe z))else none
 | _=>none:=rfl
@[simp] theorem W9(γ:Ctx)(f g):V0 f g γ=(f γ).bind λd=>(g γ).bind λe=>match d,e with
 | .str x,.str y=>if ja x=true/\ja y=true then some (.str (x++y))else none
 | _,_=>none:=rfl
theorem k8(m:Nat)(w:Nat->Bool):qT (qe (qf m w))=(zhf m).map λ(k:Nat)=>D.tup [.int k,.str (qG (wch (w k)))]:=by
 have e:qe (qf m w)=(zhf m).map λk=>D.str (qG (wch (w k))):=by
  unfold qe;rw [xG,zim];rfl
 unfold qT;rw [e];simp only [zhB,zhX];refine zht λk z=>?_;simp [zhp.mp z]
theorem JY(w:Nat->Bool)(k:Nat):F_law_ends_k22 [.int k,.str (qG (wch (w k)))]=some (.val (.tup [.int ((begR w k:Nat):Int),.int ((endR w k:Nat):Int)])):=by
 have q:=zbY (w k);cases h:w k<;>rw [h]at q<;>simp [F_law_ends_k22,jy,jx,jm,q,begR,endR,h]
theorem Kk(s:Nat)(w:Nat->Bool):qf s w++qG (wch (w s))=qf (s+1) w:=by
 have h:(qf s w++qG (wch (w s))).cps.toList=(qf (s+1) w).cps.toList:=by
  show((qf s w).cps++(qG (wch (w s))).cps).toList=_;rw [Array.toList_append,xG,xG,ziD,zhZ];rfl
 have h2:=Array.toList_inj.mp h;generalize qf s w++qG (wch (w s))=a at h2;generalize qf (s+1) w=b at h2;cases a;cases b;exact congrArg Str.mk h2
theorem zcz{c:Int}(hc:0<=c){m:Nat}(hm:m<=5) : ∃w,F_law_ways_k22 [.int c,.int (1+(m:Int))]=some (.val (.str (qf m w))):=by
 have hl:=jM;have O:m<=lim:=by omega
 refine⟨λk=>decide (c/2 ^ k%2=1),?_⟩;generalize hw:(λk:Nat=>decide (c/2 ^ k%2=1))=w;have Y : ∀(k s:Nat) (z:Cell),s+k=m->∃I J,xl (.nm 3) (zZ (jv 2 (V0 (ze 2) (Zw (zo (.str "rl")) (zq qm (ze 0) (zo (.int 2)))))) (jv 0 (zq yf (ze 0) (zo (.int 2))))) ((zjr s k).map λ(i:Nat)=>D.int i) [.val (.int (c/2 ^ s)),.val (.int (1+(m:Int))),.val (.str (qf s w)),z] =
  some (.next [I,.val (.int (1+(m:Int))),.val (.str (qf m w)),J]):=by
  intro k
  induction k with
  | zero=>
   intro s z h;obtain rfl:s=m:=by omega
   exact⟨_,z,rfl⟩
  | succ k ih=>
   intro s z h;obtain⟨I,J,e⟩:=ih (s+1) (.val (.int s)) ⋯;refine⟨I,J,?_⟩;rw [zi1,zhI,j4];have sx:Zw (zo (.str "rl")) (zq qm (ze 0) (zo (.int 2))) [.val (.int (c/2 ^ s)),.val (.int (1+(m:Int))),.val (.str (qf s w)),.val (.int s)]=some (.str (qG (wch (w s)))):=by
    have ev:zq qm (ze 0) (zo (.int 2)) [.val (.int (c/2 ^ s)),.val (.int (1+(m:Int))),.val (.str (qf s w)),.val (.int s)]=some (.int (c/2 ^ s%2)):=by simp
    rw [W8,ev];have q:c/2 ^ s%2=0\/c/2 ^ s%2=1:=by omega
    have ws:w s=decide (c/2 ^ s%2=1):=by rw [<- hw]
    rw [ws];rcases q with q | q
    ·rw [q];rfl
    ·rw [q];rfl
   have s1:=xF w (show s<=1000 by omega);have s2:ja (qG (wch (w s)))=true:=rfl;have dv:c/2 ^ s/2=c/2 ^ (s+1):=by rw [Int.pow_succ,Int.ediv_ediv_of_nonneg (Int.pow_nonneg ⋯)]
   simp only [yC,zhd,zie,zid];rw [jm];simp only [Vg,W9,jk,zhj,zhk,zx,zhd,sx,s1,s2,and_self,if_true,Kk,zhF,zie,zid];simp only [Xf,jk,xh,zhj,zx,zhd,WY];rw [if_pos ⟨by omega,by omega⟩,dv];exact e
 obtain⟨c0,z,e⟩:=Y m 0 .no ⋯;rw [<- ziH]at e;have c1:c/2 ^ 0=c:=by simp
 have e1:(1:Int)+(m:Int) - 1=(m:Int):=by omega
 have w0:qf 0 w=("" : Str):=rfl;rw [c1,w0]at e;simp [F_law_ways_k22,jy,jx,jm,e1,O,jQ,zhm];rw [zW m λi=>(i:Int),e];simp
def pr(a b:Nat):D:= .tup [.int a,.int b]
@[simp] theorem zgm(a b):jL (pr a b)=some (.T,[.int (a:Int),.int (b:Int)]):=rfl
def mk(lo:Nat)(ch:List Int)(r:Nat):Int:=if lo<=r then ch.getD (r - lo) 0 else 0
theorem JA{ns:List Int}(hn:ns.length<=63){r n:Nat}{t:Int}(ht:0<=t)(ab:t<1000)(hr:0<r)(ac:r<=6)(ae:n<=60) : ∃bs,xD [Jd ns,.int t,.int n,.int r]=some (.own (zP bs))/\(∀b∈bs,Vu r b)/\bs.length=n:=by
 have hl:=jM;have a2:n<=lim:=by omega
 have a3 : ∀(k s:Nat) (acc:List (Int×Int)) (c5 c6 c7:Cell),s+k=n->acc.length=s->(∀b∈acc,Vu r b)->∃bs I J O,
  xl (.nm 5) (zZ (jv 6 (zE F_law_cell (zc (ze 0) (zc (zq jH (ze 1) (ze 5)) zz)))) (zZ (jv 7 (zq qm (ze 6) (ze 3))) (xo 4 (jC (zc (ze 7) (zc (zq jH (ze 7) (zq qm (zq yf (ze 6) (ze 3)) (zq ye (ze 3) (ze 7)))) zz)))))) ((zjr s k).map λ(i:Nat)=>D.int i)
   [.val (Jd ns),.val (.int t),.val (.int n),.val (.int r),.own (zP acc),c5,c6,c7]=some (.next [.val (Jd ns),.val (.int t),.val (.int n),.val (.int r),.own (zP bs),I,J,O])/\(∀b∈bs,Vu r b)/\bs.length=n:=by
  intro k
  induction k with
  | zero=>intro s acc c5 c6 c7 h1 h2 Y;exact⟨acc,c5,c6,c7,rfl,Y,by omega⟩
  | succ k ih=>
   intro s acc c5 c6 c7 h1 h2 Y;obtain⟨e1,e2,e3⟩:=w9 hn (k:=t+(s:Int)) ⋯ ⋯;have a5:=zh0 (qC ns (t+(s:Int))) (show(r:Int)≠0 by omega);have a6:=zhP (qC ns (t+(s:Int))) (show(0:Int)<r by omega);have ah:=zh0 (qC ns (t+(s:Int))/r) (show(r:Int) - qC ns (t+(s:Int))%r≠0 by omega);have ai:=zhP (qC ns (t+(s:Int))/r) (show(0:Int)<(r:Int) - qC ns (t+(s:Int))%r by omega);obtain⟨bs,I,J,O,h,g1,g2⟩:=ih (s+1) (acc++[(qC ns (t+(s:Int))%r,qC ns (t+(s:Int))%r+qC ns (t+(s:Int))/r%((r:Int) - qC ns (t+(s:Int))%r))]) (.val (.int s)) (.val (.int (qC ns (t+(s:Int))))) (.val (.int (qC ns (t+(s:Int))%r))) ⋯ (by simp [h2]) (λb z=>by
    rcases zi5.mp z with z | z
    ·exact Y b z
    ·have e:b=_:=zil.mp z
     subst e;exact⟨a5,by show _<=_+_;omega,by show _+_<_;omega⟩)
   refine⟨bs,I,J,O,?_,g1,g2⟩;rw [<- h,zi1,zhI,j4];have al:acc.length<lim:=by omega
   have rp:(0:Int)<r:=by omega
   have rq:(0:Int)<(r:Int) - qC ns (t+(s:Int))%r:=by omega
   have rb:(r:Int)<1073741824:=by omega
   simp [jm,e1,rp,hr,a6,al,rb];simp [zP]
 obtain⟨bs,I,J,O,h,g1,g2⟩:=a3 n 0 [] .no .no .no ⋯ rfl ⋯;refine⟨JB bs,?_,λb z=>g1 b ((vZ bs).mem_iff.mp z),by rw [(vZ bs).length_eq,g2]⟩;rw [<- ziH]at h;simp [xD,jy,jx,jm,a2,jQ,zhm];rw [zW n λi=>(i:Int)];have e0:(zP []:List D)=[]:=rfl;rw [e0]at h;rw [h];simp [KB (show bs.length<64 by omega)]
def F_stretches_of:List D->Option Res:=jy 3 (zZ (xN 1 (x6 zz)) (zZ (vK (zY (ze 0)) (.nm 2) (JD 1 (zJ (qA (ze 2) (ze 0)) (.nm 0) 1 [2] jF (jC (zc (ze 1) (zc (ze 0) zz)))))) (yN 1)))
def zft(n k:Nat)(u:Nat->Int):Int:=if 0<k then (if k+1<n then u (k - 1)+(u (k+1)+0)else u (k - 1)+0)else if k+1<n then u (k+1)+0 else 0
def mv(n k:Nat)(u:Nat->Int)(i:Nat):Int:=if i=k then zft n k u - u k else u i
section
variable{wd:Nat->Nat}{b:Bar}{bars:List Bar}
theorem vY(P:Nat->Bool)(g:Nat->Int) : ∀N,sumTo (λi=>g (((zhf N).filter P).getD i 0)) ((zhf N).filter P).length=sumTo (λj=>if P j=true then g j else 0) N
 | 0=>rfl
 | N+1=>by
  have z:=vY P g N;rw [ziD,zks];show _=sumTo _ N+_;rw [<- z];cases hP:P N with
  | false=>simp [hP]
  | true=>
   have e:([N].filter P)=[N]:=by simp [hP]
   rw [e,zhQ,ziO];show sumTo _ _+_=_;simp only [if_true];congr 1
   ·refine zw λi hi=>?_
    simp [zhh,zhL hi]
   ·simp [zhh,hP]
end
def b1:CO Fl:=(sIf (qa (sB (zE ww (zc (ze 1) zz)))) Zz qF)
def b2:CO Fl:=(jv 3 (zq jH (Xx (ze 1)) (zo (.int 1))))
def b3:CO Fl:=(sIf (qa (sB (zeu (jZ (zJ (zG (zk 2)) (.nm 0) 1 [3] jF (zE yi (zc (ze 1) (zc (ze 0) zz)))))))) Zz qF)
def b4:CO Fl:=(jv 4 (qu (Zx (zk 2))))
def b5:CO Fl:=(jv 5 (qu (zJ (zY (ze 3)) (.nm 0) 1 [4] jF (qu (jX Vp (zc (ze 1) (zc (ze 0) zz)))))))
def b6:CO Fl:=(jv 6 (zU (jZ (zJ (zG (zk 5)) (.nm 0) 1 [] jF (yP (zk 0))))))
def b7:CO Fl:=(sIf (sB (zq dGt (zcT (zk 6)) (zo (.int 30)))) Zz qF)
def b8:CO Fl:=(jv 7 (qu (zJ (qp (ze 1)) (.tp [0,1]) 2 [5] jF (jC (zc (ze 1) (zc (zE Qb (zc (sIx (zk 2) (zE zad (zc (ze 0) (zc (ze 1) zz)))) (zc (sIx (zk 2) (zE vU (zc (ze 0) (zc (ze 1) zz)))) zz))) zz))))))
def x1:CO Xn:=(xIf (qa (sB (zE ww (zc (ze 1) zz)))) (ze1 "NoRow") xNo)
def x3:CO Xn:=(xIf (qa (sB (zeu (jZ (zJ (zG (zk 2)) (.nm 0) 1 [3] jF (zE yi (zc (ze 1) (zc (ze 0) zz)))))))) (ze1 "NoRow") xNo)
def x7:CO Xn:=(xIf (sB (zq dGt (zcT (zk 6)) (zo (.int 30)))) (ze1 "TooMany") xNo)
def zcY(m:Nat)(bs:List (Int×Int)):List D:=(zhf (m+1)).map λ(r:Nat)=>D.lst (zfu (zar bs r))
def zaR(m:Nat)(bs:List (Int×Int)):List D:=zQ (m+1) λr=>((zar bs r).length:Int)
section
variable{p:Int}{m:Nat}{w:Nat->Bool}{bs:List (Int×Int)}
abbrev g0(p:Int)(z:Str)(bs:List (Int×Int)):Ctx:=[.val (.int p),.val (.str z),.val (.lst (zP bs)),.no,.no,.no,.no,.no]
abbrev g2(p:Int)(z:Str)(m:Nat)(bs:List (Int×Int)):Ctx:=[.val (.int p),.val (.str z),.val (.lst (zP bs)),.val (.int ((m+1:Nat):Int)),.no,.no,.no,.no]
abbrev g6(p:Int)(z:Str)(m:Nat)(bs:List (Int×Int)):Ctx:=[.val (.int p),.val (.str z),.val (.lst (zP bs)),.val (.int ((m+1:Nat):Int)),.val (.lst (zP (JB bs))),.val (.lst (zcY m (JB bs))),.val (.tup (zaR m (JB bs))),.no]
end
def rnd(n:Nat)(ks:List Nat)(u:Nat->Int):Nat->Int:=ks.foldl (λu k=>mv n k u) u
def sw(k i:Nat):Nat:=if i=k then k+1 else if i=k+1 then k else i
def itr(n:Nat)(ks:List Nat)(u:Nat->Int):Nat->Nat->Int
 | 0=>u
 | j+1=>rnd n ks (itr n ks u j)
def acc(n:Nat)(ks:List Nat)(u:Nat->Int):Nat->Nat->Int
 | 0=>λ_=>0
 | j+1=>λi=>acc n ks u j i+itr n ks u j i
def oD(n:Nat):Option Vc->D
 | none=> .non
 | some y=> .tup (zQ n y)
section
variable{wd:Nat->Nat}{m k:Nat}{p:Int}{w:Nat->Bool}{T:Nat->Nat->Nat->Int}
theorem wL{n r:Nat}{B:Nat->Vc}{l:Nat->Nat}(z:IsB p n r B l):r<=n:=by
 have mono : ∀k,k<r->k<=l k:=by
  intro k
  induction k with
  | zero=>intro _;omega
  | succ k J=>intro O;have:=J ⋯;have:=z.mono k (k+1) ⋯ O;omega
 cases r with
 | zero=>omega
 | succ I=>have:=mono I ⋯;have:=z.lt I ⋯;omega
end
abbrev TB:=Nat×Nat×(Nat->Nat->Int)
section
variable{wd:Nat->Nat}{m k N:Nat}{p:Int}{w:Nat->Bool}{T:Nat->Nat->Nat->Int}{A:Nat->Bar}
def ixs(A:Nat->Bar)(N r:Nat):List Nat:=(zhf N).filter λj=>(A j).has r
end
structure Decp(p:Int)(w:Nat->Bool)(wd:Nat->Nat)(T:Nat->Nat->Nat->Int)(m N:Nat)(A:Nat->Bar):Prop where
 ok : ∀j,j<N->BarOk p w wd T m (A j)
 sp : ∀r,r<=m->∀v:Vc,∃t:Vc,∀i,i<wd r->v i%p=sumTo (λj=>if (A j).has r=true then t j*(A j).v r i else 0) N%p
 inj : ∀r,r<=m->∀t:Vc,(∀i,i<wd r->sumTo (λj=>if (A j).has r=true then t j*(A j).v r i else 0) N%p=0)->∀j,j<N->(A j).has r=true->t j%p=0
 cnt : ∀r,r<=m->(ixs A N r).length=wd r
def Lk(p:Int)(w:Nat->Bool)(wd:Nat->Nat)(T:Nat->Nat->Nat->Int)(k:Nat)(y z:Vc):Prop:=
 if w k=true then ∀i,i<wd k->y i%p=app (T k) (wd (k+1)) z i%p else ∀i,i<wd (k+1)->z i%p=app (T k) (wd k) y i%p
def Wk(p:Int)(w:Nat->Bool)(wd:Nat->Nat)(T:Nat->Nat->Nat->Int)(d:Nat):Nat->Vc->Vc->Prop
 | 0,u,z=>∀i,i<wd d->u i%p=z i%p
 | n+1,u,z=>∃y,Wk p w wd T d n u y/\Lk p w wd T (d+n) y z
section
variable{p:Int}{w:Nat->Bool}{wd:Nat->Nat}{T:Nat->Nat->Nat->Int}{m N N':Nat}{A A':Nat->Bar}{d:Nat}
theorem JQ{a b z I c:Int}(h1:a%p=b%p)(h2:z%p=I%p):(a+c*z)%p=(b+c*I)%p:=by
 rw [zhD,h1,zhr,h2,<- zhr,<- zhD]
theorem zep{k:Nat}{y z I J:Vc}(c:Int)(h:Lk p w wd T k y z)(h':Lk p w wd T k I J):Lk p w wd T k (λi=>y i+c*I i) λi=>z i+c*J i:=by
 unfold Lk at *;split
 ·next hw=>
  rw [if_pos hw]at h h';intro i hi;rw [JQ (h i hi) (h' i hi)];exact(vy (λ_ _=>rfl) i).symm
 ·next hw=>
  rw [if_neg hw]at h h';intro i hi;rw [JQ (h i hi) (h' i hi)];exact(vy (λ_ _=>rfl) i).symm
theorem zaL : ∀(n:Nat) {u z u' I:Vc} (c:Int),Wk p w wd T d n u z->Wk p w wd T d n u' I->Wk p w wd T d n (λi=>u i+c*u' i) λi=>z i+c*I i
 | 0,u,z,u',I,c,h,h'=>λi hi=>JQ (h i hi) (h' i hi)
 | n+1,u,z,u',I,c,⟨y,h1,h2⟩,⟨y',h1',h2'⟩=>⟨_,zaL n c h1 h1',zep c h2 h2'⟩
theorem Vl(k:Nat):Lk p w wd T k (λ_=>0) λ_=>0:=by
 unfold Lk;split<;>exact λi _=>by rw [yE (λ_ _=>by simp) i];simp
theorem J6 : ∀n,Wk p w wd T d n (λ_=>0) λ_=>0
 | 0=>λ_ _=>rfl
 | n+1=>⟨_,J6 n,Vl _⟩
theorem zab{k:Nat}{y z I:Vc}(h:Lk p w wd T k y z)(J : ∀i,i<wd (k+1)->I i%p=z i%p):Lk p w wd T k y I:=by
 unfold Lk at *;split
 ·next hw=>rw [if_pos hw]at h;intro i hi;rw [h i hi];exact(kK J i).symm
 ·next hw=>rw [if_neg hw]at h;intro i hi;rw [J i hi,h i hi]
theorem zga : ∀{n:Nat} {u z I:Vc},Wk p w wd T d n u z->(∀i,i<wd (d+n)->I i%p=z i%p)->Wk p w wd T d n u I
 | 0,u,z,I,h,hz=>λi hi=>by rw [h i hi,hz i hi]
 | n+1,u,z,I,⟨y,h1,h2⟩,hz=>⟨y,h1,zab h2 hz⟩
theorem Jp : ∀{n:Nat} {u u' z:Vc},Wk p w wd T d n u z->(∀i,i<wd d->u' i%p=u i%p)->Wk p w wd T d n u' z
 | 0,u,u',z,h,hu=>λi hi=>by rw [hu i hi,h i hi]
 | n+1,u,u',z,⟨y,h1,h2⟩,hu=>⟨y,Jp h1 hu,h2⟩
theorem zaK{n:Nat}(t:Vc)(u z:Nat->Vc) : ∀K,(∀j,j<K->Wk p w wd T d n (u j) (z j))->Wk p w wd T d n (λi=>sumTo (λj=>t j*u j i) K) λi=>sumTo (λj=>t j*z j i) K
 | 0,_=>J6 n
 | K+1,h=>zaL n (t K) (zaK t u z K λj I=>h j ⋯) (h K ⋯)
theorem W6{b:Bar}(J:BarOk p w wd T m b){k:Nat}(O:k<m)(h1:b.has k=true)(h2:b.has (k+1)=true):Lk p w wd T k (b.v k) (b.v (k+1)):=by
 unfold Lk;cases hw:w k with
 | true=>
  have z:begR w k=k+1:=by unfold begR;rw [hw];rfl
  have I:endR w k=k:=by unfold endR;rw [hw];rfl
  rw [if_pos rfl];intro i hi;have:=J.arr k O (by rw [z];exact h2) i (by rw [I];exact hi);rw [z,I,h1,if_pos rfl]at this;exact this.symm
 | false=>
  have z:begR w k=k:=by unfold begR;rw [hw];rfl
  have I:endR w k=k+1:=by unfold endR;rw [hw];rfl
  rw [if_neg ⋯];intro i hi;have:=J.arr k O (by rw [z];exact h1) i (by rw [I];exact hi);rw [z,I,h2,if_pos rfl]at this;exact this.symm
theorem Zc{b:Bar}(z:BarOk p w wd T m b)(h1:b.has d=true) : ∀n,d+n<=m->b.has (d+n)=true->Wk p w wd T d n (b.v d) (b.v (d+n))
 | 0,_,_=>λ_ _=>rfl
 | n+1,hn,h2=>by
  have I:b.has (d+n)=true:=has_iff.mpr (by have:=has_iff.mp h1;have:=has_iff.mp h2;omega);exact⟨_,Zc z h1 n ⋯ I,W6 z ⋯ I h2⟩
theorem Va{b:Bar}(I:BarOk p w wd T m b)(h1:b.has d=true)(hw:w (b.s+b.n - 1)=false) : ∀n,d+n<=m->b.has (d+n)=false->Wk p w wd T d n (b.v d) λ_=>0
 | 0,_,h2=>by rw [zka,h1]at h2;cases h2
 | n+1,hn,h2=>by
  cases h3:b.has (d+n)with
  | false=>exact⟨_,Va I h1 hw n ⋯ h3,Vl _⟩
  | true=>
   refine⟨_,Zc I h1 n ⋯ h3,?_⟩;have q3:=has_iff.mp h3;have q2 : ¬(d+n+1<b.s+b.n):=λz=>by
    have:b.has (d+(n+1))=true:=has_iff.mpr ⋯;rw [this]at h2;cases h2
   have J:b.s+b.n - 1=d+n:=by omega
   rw [J]at hw;have O:begR w (d+n)=d+n:=by unfold begR;rw [hw];rfl
   have Y:endR w (d+n)=d+n+1:=by unfold endR;rw [hw];rfl
   have:=I.arr (d+n) ⋯;rw [O,Y]at this;unfold Lk;rw [hw,if_neg ⋯];intro i hi;rw [this h3 i hi,show b.has (d+n+1)=false from h2];simp
theorem vW(D:Decp p w wd T m N A) : ∀n,d+n<=m->∀{u z:Vc},Wk p w wd T d n u z->∀{a b:Vc},(∀i,i<wd d->u i%p=sumTo (λj=>if (A j).has d=true then a j*(A j).v d i else 0) N%p)->(∀i,i<wd (d+n)->z i%p=sumTo (λj=>if (A j).has (d+n)=true then b j*(A j).v (d+n) i else 0) N%p)->
 ∀j,j<N->(A j).has d=true->((A j).has (d+n)=true->a j%p=b j%p)/\((A j).has (d+n)=false->w ((A j).s+(A j).n - 1)=true->a j%p=0):=by
 have a2 : ∀r,r<=m->∀{v:Vc} {a b:Vc},(∀i,i<wd r->v i%p=sumTo (λj=>if (A j).has r=true then a j*(A j).v r i else 0) N%p)->(∀i,i<wd r->v i%p=sumTo (λj=>if (A j).has r=true then b j*(A j).v r i else 0) N%p)->∀j,j<N->(A j).has r=true->a j%p=b j%p:=λr hr v a b h1 h2 j J O=>by
  have:=D.inj r hr (λj=>a j - b j) (λi hi=>by
   have e:sumTo (λj=>if (A j).has r=true then (a j - b j)*(A j).v r i else 0) N=sumTo (λj=>if (A j).has r=true then a j*(A j).v r i else 0) N+sumTo (λj=>(if (A j).has r=true then b j*(A j).v r i else 0)*(-1)) N:=by
    rw [<- jD];refine zw λj _=>?_;split
    ·rw [Int.sub_mul];omega
    ·simp
   rw [e,qE,zhD,<- h1 i hi,zhr,<- h2 i hi,<- zhr,<- zhD,show v i+v i * -1=0 by omega];simp) j J O
  exact zke.mpr this
 have a8 : ∀k,k<m->∀(c:Vc) (r r':Nat),r=begR w k->r'=endR w k->∀i,i<wd r'->app (T k) (wd r) (mxV p A N c r) i%p=sumTo (λj=>if (A j).has r'=true then (if (A j).has r=true then c j else 0)*(A j).v r' i else 0) N%p:=λk hk c r r' e1 e2 i hi=>by
  rw [zce];refine jd λj J=>?_;cases hx:(A j).has r with
  | false=>simp
  | true=>
   have q:=(D.ok j J).arr k hk (by rw [<- e1];exact hx) i (by rw [<- e2];exact hi);rw [<- e1,<- e2]at q;simp only [if_true];rw [zhr,q,<- zhr];cases hy:(A j).has r'<;>simp
 intro n
 induction n with
 | zero=>
  intro hn u z a3 a b ha hb j J O;refine⟨λ_=>a2 d ⋯ ha (λi hi=>by rw [a3 i hi];exact hb i hi) j J O,λh=>?_⟩;rw [zka,O]at h;cases h
 | succ n ih=>
  intro hn u z a3 a b ha hb j J O;obtain⟨y,h1,h2⟩:=a3;obtain⟨c,hc⟩:=D.sp (d+n) ⋯ y;obtain⟨i1,i2⟩:=ih ⋯ h1 ha hc j J O;have ae : ∀i,i<wd (d+n)->y i%p=mxV p A N c (d+n) i%p:=λi hi=>by rw [hc i hi];unfold mxV;rw [zh1]
  have af : ∀i,i<wd (d+n+1)->z i%p=mxV p A N b (d+n+1) i%p:=λi hi=>by rw [hb i hi];unfold mxV;rw [zh1];rfl
  have qd:=has_iff.mp O;cases hw:w (d+n)with
  | false=>
   have eb:begR w (d+n)=d+n:=by unfold begR;rw [hw];rfl
   have ee:endR w (d+n)=d+n+1:=by unfold endR;rw [hw];rfl
   unfold Lk at h2;rw [hw,if_neg ⋯]at h2;have a1:=a2 (d+n+1) ⋯ (v:=z) hb (b:=λj=>if (A j).has (d+n)=true then c j else 0) λi hi=>by
    rw [h2 i hi,kK ae i];exact a8 (d+n) ⋯ c (d+n) (d+n+1) eb.symm ee.symm i hi
   refine⟨λh=>?_,λh Y=>?_⟩
   ·have I:(A j).has (d+n)=true:=has_iff.mpr (by have:=has_iff.mp h;omega)
    have:=a1 j J h;rw [I,if_pos rfl]at this;rw [i1 I,this]
   ·cases I:(A j).has (d+n)with
    | false=>exact i2 I Y
    | true=>
     have q3:=has_iff.mp I;have q2 : ¬(d+n+1<(A j).s+(A j).n):=λz=>by
      have:(A j).has (d+(n+1))=true:=has_iff.mpr ⋯;rw [this]at h;cases h
     rw [show(A j).s+(A j).n - 1=d+n by omega,hw]at Y;cases Y
  | true=>
   have eb:begR w (d+n)=d+n+1:=by unfold begR;rw [hw];rfl
   have ee:endR w (d+n)=d+n:=by unfold endR;rw [hw];rfl
   unfold Lk at h2;rw [hw,if_pos rfl]at h2;have a1:=a2 (d+n) ⋯ (v:=y) hc (b:=λj=>if (A j).has (d+n+1)=true then b j else 0) λi hi=>by
    rw [h2 i hi,kK af i];exact a8 (d+n) ⋯ b (d+n+1) (d+n) eb.symm ee.symm i hi
   refine⟨λh=>?_,λh Y=>?_⟩
   ·have I:(A j).has (d+n)=true:=has_iff.mpr (by have:=has_iff.mp h;omega)
    have:=a1 j J I;rw [show(A j).has (d+n+1)=true from h,if_pos rfl]at this;rw [i1 I,this]
   ·cases I:(A j).has (d+n)with
    | false=>exact i2 I Y
    | true=>
     have:=a1 j J I;rw [show(A j).has (d+n+1)=false from h,if_neg ⋯]at this;rw [i1 I,this];simp
end
section
variable{p:Int}{n:Nat}
theorem zaD{l:Nat->Nat} : ∀{r:Nat},(∀k m,k<m->m<r->l k<l m)->∃j,j<=r/\∀k,k<r->l k≠j
 | 0,_=>⟨0,zhn _,λk I=>absurd I (zhC _)⟩
 | r+1,h=>by
  obtain⟨j,h1,h2⟩:=zaD (r:=r) λk m a b=>h k m a ⋯;by_cases e:l r=j
  ·refine⟨r+1,zhn _,λk I=>?_⟩
   rcases zhy k r with z | z
   ·have:=h k r z ⋯;omega
   ·rw [show k=r by omega];omega
  ·refine⟨j,by omega,λk I=>?_⟩
   rcases zhy k r with z | z
   ·exact h2 k z
   ·rw [show k=r by omega];exact e
theorem zdU(hp:Pr p){h N:Nat}{f:Nat->Nat->Int}(inj : ∀t:Vc,(∀i,i<h->app f N t i%p=0)->∀j,j<N->t j%p=0):N<=h:=by
 rcases zhy h N with aa | a7
 ·exfalso
  obtain⟨r,hr,B,l,hb,hs⟩:=zak (n:=N) hp h f;obtain⟨J,ac,a3⟩:=zaD hb.mono;have a4:J<N:=by omega
  let t:Vc:=λj=>if j=J then 1 else sumTo (λk=>if l k=j then B k J*(-1)else 0) r;have t0:t J=1:=if_pos rfl;have tl : ∀k,k<r->t (l k)=B k J*(-1):=λk O=>by
   show(if l k=J then _ else _)=_;rw [if_neg (a3 k O),zX (f:=λI=>if l I=l k then B I J*(-1)else 0) O λI Y a1=>by
    rw [if_neg λe=>a1 (by
     rcases zkC I k with z | z | z
     ·have:=hb.mono I k z O;omega
     ·exact z
     ·have:=hb.mono k I z Y;omega)]]
   rw [if_pos rfl]
  have a9 : ∀k,k<r->sumTo (λj=>B k j*t j) N=0:=λk O=>by
   have e:sumTo (λj=>B k j*t j) N=sumTo (λj=>(if j=J then B k J else 0)+sumTo (λI=>if l I=j then B k (l I)*(B I J*(-1))else 0) r) N:=zw λj hj=>by
    by_cases z:j=J
    ·subst z
     rw [t0,if_pos rfl,zw (g:=λ_=>0) λI Y=>if_neg (a3 I Y),zI];simp
    ·show B k j*(if j=J then _ else _)=_
     rw [if_neg z,if_neg z,Int.zero_add,zi6,<- qE];refine zw λI Y=>?_;by_cases e:l I=j
     ·rw [if_pos e,if_pos e,<- e,zi6]
     ·rw [if_neg e,if_neg e];simp
   rw [e,jD,zX (f:=λj=>if j=J then B k J else 0) a4 (λj _ a1=>if_neg a1),if_pos rfl,kQ];have e2:sumTo (λI=>sumTo (λj=>if l I=j then B k (l I)*(B I J*(-1))else 0) N) r=sumTo (λI=>B k (l I)*(B I J*(-1))) r:=zw λI Y=>by
    rw [zX (f:=λj=>if l I=j then B k (l I)*(B I J*(-1))else 0) (hb.lt I Y) λj _ a1=>if_neg (zic a1),if_pos rfl]
   rw [e2,zX (f:=λI=>B k (l I)*(B I J*(-1))) O λI Y a1=>by rw [hb.oth k I O Y a1];simp];rw [hb.one k O];omega
  have:=inj t (λi hi=>by
   have c:=Ka hb ((hs (f i)).mpr (.gen ⟨i,hi,rfl⟩));unfold app;have e:sumTo (λj=>f i j*t j) N%p=sumTo (λj=>sumTo (λk=>f i (l k)*B k j) r*t j) N%p:=jd λj hj=>by rw [zhr,c j hj,<- zhr]
   rw [e];have e2:sumTo (λj=>sumTo (λk=>f i (l k)*B k j) r*t j) N=sumTo (λk=>f i (l k)*sumTo (λj=>B k j*t j) N) r:=by
    rw [zw (g:=λj=>sumTo (λk=>f i (l k)*B k j*t j) r) λj _=>(qE _ _ _).symm,kQ];refine zw λk _=>?_;rw [<- qk];exact zw λj _=>zjc _ _ _
   rw [e2,zw (g:=λ_=>0) λk O=>by rw [a9 k O,ziY],zI];simp) J a4
  rw [t0,hp.one]at this;cases this
 ·exact a7
theorem wF{m:Nat}(W:Nat->Vc)(t:Vc):Span p n (Fam m W) λi=>sumTo (λj=>t j*W j i) m:=Span.sum (u:=W) t λj z=> .gen ⟨j,z,rfl⟩
theorem zd7(z:Pr p){s m:Nat}{B:Nat->Vc}{l:Nat->Nat}(I:IsB p n s B l){W:Nat->Vc}(sp : ∀v,Span p n (Fam s B) v↔Span p n (Fam m W) v)(J : ∀t:Vc,(∀i,i<n->sumTo (λj=>t j*W j i) m%p=0)->∀j,j<m->t j%p=0):m=s:=by
 have h1:s<=m:=by
  obtain⟨r,hr,O⟩:=zak (n:=n) z m W;have:=zbf z (m:=m) (W:=W) ⟨B,l,I,sp⟩ O;omega
 have hs:s<=n:=wL I;have h2:m<=s:=zdU z (f:=λi j=>W j (l i)) λt Y=>J t λi hi=>by
  have c:=Ka I ((sp _).mpr (wF (n:=n) W t)) i hi;rw [c];have:sumTo (λk=>sumTo (λj=>t j*W j (l k)) m*B k i) s%p=sumTo (λ_=>0) s%p:=jd λk hk=>by
   have:=Y k hk;unfold app at this;rw [Xr]at this;rw [zhr,this];simp
  rw [this,zI];simp
 omega
theorem WX(hp:Pr p){s q c:Nat}{B B2 V:Nat->Vc}{l l2:Nat->Nat}(hX:IsB p n s B l)(O:IsB p n q B2 l2)(a6 : ∀j,j<c->Span p n (Fam s B) (V j))(KX : ∀v,Span p n (Fam q B2) v->Span p n (Fam s B) v)
 (spX : ∀v,Span p n (Fam s B) v->∃t:Vc,Span p n (Fam q B2) λi=>v i - sumTo (λj=>t j*V j i) c) (a8 : ∀t:Vc,Span p n (Fam q B2) (λi=>sumTo (λj=>t j*V j i) c)->∀j,j<c->t j%p=0):q+c=s:=by
 let W:Nat->Vc:=λj=>if j<q then B2 j else V (j - q);have w1 : ∀j,j<q->W j=B2 j:=λj I=>if_pos I;have w2 : ∀j,W (q+j)=V j:=λj=>by show(if q+j<q then _ else _)=_;rw [if_neg ⋯,zhT]
 have sm : ∀t:Vc,∀i,sumTo (λj=>t j*W j i) (q+c)=sumTo (λj=>t j*B2 j i) q+sumTo (λj=>t (q+j)*V j i) c:=λt i=>by
  rw [kj];congr 1
  ·exact zw λj I=>by rw [w1 j I]
  ·exact zw λj I=>by rw [w2 j]
 refine zd7 hp hX (W:=W) (λv=>⟨λY=>?_,λY=>Y.le λg hg=>?_⟩) λt ht=>?_
 ·obtain⟨t,h⟩:=spX v Y
  have h1:Span p n (Fam (q+c) W) λi=>v i - sumTo (λj=>t j*V j i) c:=h.le λg hg=>by
   obtain⟨k,J,rfl⟩:=hg;rw [<- w1 k J];exact .gen ⟨k,by omega,rfl⟩
  have h2:Span p n (Fam (q+c) W) λi=>sumTo (λj=>t j*V j i) c:=Span.sum t λj I=>by rw [<- w2 j];exact .gen ⟨q+j,by omega,rfl⟩
  exact(h2.add h1 1).congr λi _=>by rw [Int.one_mul,Int.sub_add_cancel]
 ·obtain⟨k,J,rfl⟩:=hg
  rcases zhy k q with z | z
  ·rw [w1 k z];exact KX _ (.gen ⟨k,z,rfl⟩)
  ·obtain⟨j,rfl⟩ : ∃j,k=q+j:=⟨k - q,by omega⟩
   rw [w2 j];exact a6 j ⋯
 ·have hz : ∀j,j<c->t (q+j)%p=0:=a8 (λj=>t (q+j)) ((wF (n:=n) B2 λj=> -1*t j).congr λi hi=>by
   have:=ht i hi;rw [sm]at this;have e:sumTo (λj=> -1*t j*B2 j i) q=sumTo (λj=>t j*B2 j i) q * -1:=by
    rw [<- qE];exact zw λj _=>by rw [zi6 (-1),zjc,zi6 (-1),zjc]
   rw [e];refine zke.mpr ?_;rw [<- this];congr 1;omega)
  intro j I;rcases zhy j q with z | z
  ·have h0 : ∀i,i<n->sumTo (λj=>t j*B2 j i) q%p=0:=λi hi=>by
    have:=ht i hi;rw [sm,zhD]at this;have e:sumTo (λj=>t (q+j)*V j i) c%p=sumTo (λ_=>0) c%p:=jd λj I=>by rw [zhr,hz j I];simp
    rw [e,zI]at this;simpa using this
   have h1:=h0 (l2 j) (O.lt j z);rw [zX (f:=λk=>t k*B2 k (l2 j)) z λk J a9=>by rw [O.oth k j J z (zic a9)];simp]at h1;rw [O.one j z,zjG]at h1;exact h1
  ·obtain⟨k,rfl⟩ : ∃k,j=q+k:=⟨j - q,by omega⟩
   exact hz k ⋯
end
def cvL(A:Nat->Bar)(N d e:Nat):List Nat:=(zhf N).filter λj=>(A j).has d && (A j).has e
section
variable{p:Int}{w:Nat->Bool}{wd:Nat->Nat}{T:Nat->Nat->Nat->Int}{m N n:Nat}{A:Nat->Bar}{d:Nat}
theorem YT{d e k:Nat}(z:k<(cvL A N d e).length):(cvL A N d e).getD k 0<N/\(A ((cvL A N d e).getD k 0)).has d=true/\(A ((cvL A N d e).getD k 0)).has e=true:=by
 have hm:(cvL A N d e).getD k 0∈cvL A N d e:=by rw [zhh,zhe z];exact zkH _
 obtain⟨h1,h2⟩:=zin.mp hm;simp only [Bool.and_eq_true]at h2;exact⟨zhp.mp h1,h2.1,h2.2⟩
theorem zd9(D:Decp p w wd T m N A)(hd:d<=m)(e:Nat):(cvL A N d e).length<=wd d:=by
 rw [<- D.cnt d hd];unfold cvL ixs;rw [<- zjz,<- zjz];exact List.countP_mono_left λj _ h=>by simp only [Bool.and_eq_true]at h;exact h.1
theorem WZ(d e:Nat)(t:Vc) : ∃a:Vc,∀k,k<(cvL A N d e).length->a ((cvL A N d e).getD k 0)=t k:=by
 refine⟨λj=>t ((cvL A N d e).idxOf j),λk z=>?_⟩;have nd:(cvL A N d e).Nodup:=List.nodup_range.sublist List.filter_sublist;show t _=_;rw [zhh,zhe z,zkz,nd.idxOf_getElem _ z]
theorem YS(d e:Nat)(a:Vc)(i:Nat):sumTo (λk=>a ((cvL A N d e).getD k 0)*(A ((cvL A N d e).getD k 0)).v d i) (cvL A N d e).length=sumTo (λj=>if (A j).has d=true then (if (A j).has e=true then a j else 0)*(A j).v d i else 0) N:=by
 have:=vY (λj=>(A j).has d && (A j).has e) (λj=>a j*(A j).v d i) N;refine this.trans (zw λj _=>?_);cases (A j).has d<;>cases (A j).has e<;>simp
theorem WK(hp:Pr p)(D:Decp p w wd T m N A)(hd:d+n<=m){s q:Nat}{B B2:Nat->Vc}{l l2:Nat->Nat}(hX:IsB p (wd d) s B l)(O : ∀u,Span p (wd d) (Fam s B) u ↔ ∃z,Wk p w wd T d n u z)
 (hK:IsB p (wd d) q B2 l2) (Y : ∀u,Span p (wd d) (Fam q B2) u↔Wk p w wd T d n u λ_=>0):q+(cvL A N d (d+n)).length=s:=by
 have hc:=zd9 D (show d<=m by omega) (d+n);have hq:=wL hK;refine WX hp hX hK (V:=λk=>(A ((cvL A N d (d+n)).getD k 0)).v d) (λk I=>?_) (λv hv=>(O v).mpr ⟨_,(Y v).mp hv⟩) (λv hv=>?_) λt ht=>?_
 ·obtain⟨h1,h2,J⟩:=YT I
  exact(O _).mpr ⟨_,Zc (D.ok _ h1) h2 n hd J⟩
 ·obtain⟨z,hz⟩:=(O v).mp hv
  obtain⟨a,ha⟩:=D.sp d ⋯ v;obtain⟨b,hb⟩:=D.sp (d+n) hd z;have a2:=vW D n hd hz ha hb;refine⟨λk=>a ((cvL A N d (d+n)).getD k 0),(Y _).mpr ?_⟩;let u:Nat->Vc:=λj=>if (A j).has d=true/\(A j).has (d+n)=false/\w ((A j).s+(A j).n - 1)=false then (A j).v d else λ_=>0;have hu : ∀j,j<N->Wk p w wd T d n (u j) λ_=>0:=λj hj=>by
   show Wk p w wd T d n (if _ then _ else _) _;split
   ·next h=>exact Va (D.ok j hj) h.1 h.2.2 n hd h.2.1
   ·exact J6 n
  have hs:=zaK a u (λ_ _=>0) N hu;refine zga (Jp hs λi hi=>?_) λi _=>by simp [zI]
  rw [YS d (d+n) a i];rw [zjv,ha i hi,<- zjv];have e:sumTo (λj=>if (A j).has d=true then a j*(A j).v d i else 0) N - sumTo (λj=>if (A j).has d=true then (if (A j).has (d+n)=true then a j else 0)*(A j).v d i else 0) N=sumTo (λj=>(if (A j).has d=true then a j*(A j).v d i else 0)+(if (A j).has d=true then (if (A j).has (d+n)=true then a j else 0)*(A j).v d i else 0) * -1) N:=by
   rw [jD,qE];omega
  rw [e];refine jd λj hj=>?_;show _=a j*(if _ then (A j).v d else λ_=>0) i%p;cases h1:(A j).has d with
  | false=>simp
  | true=>
   cases h2:(A j).has (d+n)with
   | true=>
    have e0:a j*(A j).v d i+a j*(A j).v d i * -1=0:=by omega
    simp only [if_true,e0,Bool.true_eq_false,false_and,and_false,if_false,ziY]
   | false=>
    cases J:w ((A j).s+(A j).n - 1)with
    | false=>simp
    | true=>
     have:=(a2 j hj h1).2 h2 J;simp only [if_true,zkt,if_false,Int.zero_mul,zi7,ziY,Bool.true_eq_false,and_false];rw [zhr,this];simp
 ·obtain⟨a,ha⟩:=WZ (A:=A) (N:=N) d (d+n) t
  have hz:=(Y _).mp ht;have a2:=vW D n hd hz (a:=λj=>if (A j).has (d+n)=true then a j else 0) (b:=λ_=>0) (λi hi=>by
   rw [<- YS d (d+n) a i];congr 1;exact zw λk I=>by rw [ha k I]) (λi _=>by
   have:sumTo (λj=>if (A j).has (d+n)=true then 0*(A j).v (d+n) i else 0) N=sumTo (λ_=>0) N:=zw λj _=>by simp
   rw [this,zI])
  intro k I;obtain⟨h1,h2,J⟩:=YT I;have:=(a2 _ h1 h2).1 J;rw [J,if_pos rfl,ha k I]at this;simpa using this
theorem wU : ∀(t:Nat) (z:Vc),Xh p w wd T d (wd d) t z↔Wk p w wd T d t z λx=>z (wd d+x)
 | 0,z=>Iff.rfl
 | t+1,z=>by
  have e : ∀u:Vc,Xh p w wd T d (wd d) t (j8 (wd d) z u)↔Wk p w wd T d t z u:=λu=>by
   rw [wU t];have e1:(λx=>j8 (wd d) z u (wd d+x))=u:=funext λx=>z5 x;rw [e1];exact⟨λh=>Jp h λi hi=>by rw [zO hi],λh=>Jp h λi hi=>by rw [zO hi]⟩
  show(∃u:Vc,Xh p w wd T d (wd d) t (j8 (wd d) z u)/\Stp p w wd T (d+t) u λx=>z (wd d+x)) ↔ ∃y,Wk p w wd T d t z y/\Lk p w wd T (d+t) y λx=>z (wd d+x);exact exists_congr λu=>and_congr (e u) Iff.rfl
end
def gV(p:Int)(a b:Nat)(c:Int)(v:Vc):Vc:=λi=>if i=b then (v b+c*v a)%p else v i
def jU(p:Int)(w:Nat->Bool)(r a b:Nat)(c c':Int)(T:Nat->Nat->Nat->Int):Nat->Nat->Nat->Int:=λk i j=>
 if endR w k=r then (if i=b then (T k b j+c*T k a j)%p else T k i j)else if begR w k=r then (if j=a then (T k i a+c'*T k i b)%p else T k i j)else T k i j
def za2(p:Int)(r a b:Nat)(c:Int)(x:Bar):Bar:=⟨x.s,x.n,λr'=>if r'=r then gV p a b c (x.v r')else x.v r'⟩
theorem Qq(p:Int)(r a b:Nat)(c:Int)(x:Bar)(r':Nat):(za2 p r a b c x).has r'=x.has r':=rfl
theorem yb(w:Nat->Bool)(k:Nat):begR w k≠endR w k:=by unfold begR endR;split<;>omega
section
variable{p:Int}{w:Nat->Bool}{wd:Nat->Nat}{T:Nat->Nat->Nat->Int}{m N:Nat}{A:Nat->Bar}{r a b:Nat}{c c':Int}
theorem qK(v:Vc)(i:Nat):gV p a b c v i%p=(v i+(if i=b then c*v a else 0))%p:=by
 unfold gV;by_cases h:i=b
 ·rw [if_pos h,if_pos h,zh1,h]
 ·rw [if_neg h,if_neg h,zi7]
theorem zdZ(z:0<p){v:Vc}{n:Nat}(h : ∀i,i<n->0<=v i/\v i<p) : ∀i,i<n->0<=gV p a b c v i/\gV p a b c v i<p:=λi hi=>by
 unfold gV;split
 ·exact⟨zh0 _ ⋯,zhP _ z⟩
 ·exact h i hi
theorem zcg(ha:endR w k=r)(n:Nat)(v:Vc)(i:Nat):app (jU p w r a b c c' T k) n v i%p=gV p a b c (app (T k) n v) i%p:=by
 rw [qK];unfold app;by_cases h:i=b
 ·subst h
  rw [if_pos rfl];have e:sumTo (λj=>jU p w r a i c c' T k i j*v j) n%p=sumTo (λj=>T k i j*v j+c*(T k a j*v j)) n%p:=jd λj _=>by
   unfold jU;rw [if_pos ha,if_pos rfl,zhr,zh1,<- zhr,zkp,zjc]
  rw [e,jD,qk]
 ·rw [if_neg h,zi7]
  congr 1;exact zw λj _=>by unfold jU;rw [if_pos ha,if_neg h]
theorem Qo{n x:Nat}(hx:x<n)(f:Nat->Int):sumTo (λj=>if j=x then f j else 0) n=f x:=by
 rw [zX (f:=λj=>if j=x then f j else 0) hx λj _ z=>if_neg z,if_pos rfl]
theorem zch(I:begR w k=r)(J:(c+c'+(if a=b then c*c' else 0))%p=0){n:Nat}(ha:a<n)(O:b<n)(v:Vc)(i:Nat):app (jU p w r a b c c' T k) n (gV p a b c v) i%p=app (T k) n v i%p:=by
 have he:endR w k≠r:=λz=>yb w k (by rw [I,z]);unfold app;have e:sumTo (λj=>jU p w r a b c c' T k i j*gV p a b c v j) n%p=sumTo (λj=>T k i j*v j+((if j=b then T k i j*(c*v a)else 0)+(if j=a then (c'*T k i b)*(v j+(if j=b then c*v a else 0))else 0))) n%p:=jd λj _=>by
  rw [zhr,qK];have e1:jU p w r a b c c' T k i j%p=(T k i j+(if j=a then c'*T k i b else 0))%p:=by
   unfold jU;rw [if_neg he,if_pos I];by_cases h:j=a
   ·rw [if_pos h,if_pos h,zh1,h]
   ·rw [if_neg h,if_neg h,zi7]
  rw [e1,<- zhr];congr 1;by_cases h1:j=b<;>by_cases h2:j=a<;>simp only [h1,h2,if_true,if_false,zkp,zko,zi7,ziY,Int.zero_add,Int.zero_mul]<;>(try split)<;>omega
 rw [e,jD,jD,Qo O (λj=>T k i j*(c*v a)),Qo ha (λj=>(c'*T k i b)*(v j+(if j=b then c*v a else 0)))];have Y:T k i b*(c*v a)+c'*T k i b*(v a+if a=b then c*v a else 0)=T k i b*v a*(c+c'+(if a=b then c*c' else 0)):=by
  by_cases h:a=b
  ·simp only [h,if_true]
   grind
  ·simp only [h,if_false]
   grind
 rw [Y,zhD,zhr (T k i b*v a),J];simp
theorem Jo(h1:endR w k≠r)(h2:begR w k≠r):jU p w r a b c c' T k=T k:=by
 funext i j;unfold jU;rw [if_neg h1,if_neg h2]
theorem Xt(hp:0<p)(hc:(c+c'+(if a=b then c*c' else 0))%p=0)(ha:a<wd r)(hb:b<wd r){x:Bar}(h:BarOk p w wd T m x):BarOk p w wd (jU p w r a b c c' T) m (za2 p r a b c x):=by
 refine⟨h.n1,h.le,λr' i O hi=>?_,λk hk O i hi=>?_⟩
 ·show 0<=(if r'=r then gV p a b c (x.v r')else x.v r') i/\(if r'=r then gV p a b c (x.v r')else x.v r') i<p
  by_cases e:r'=r
  ·rw [if_pos e];exact zdZ hp (λi hi=>h.rng r' i O hi) i hi
  ·rw [if_neg e];exact h.rng r' i O hi
 ·rw [Qq]at O ⊢
  have Y:=h.arr k hk O;show app _ _ (if begR w k=r then gV p a b c (x.v (begR w k))else x.v (begR w k)) i%p=(if x.has (endR w k)=true then (if endR w k=r then gV p a b c (x.v (endR w k))else x.v (endR w k)) i else 0)%p;by_cases he:endR w k=r
  ·have I:begR w k≠r:=λz=>yb w k (by rw [he,z])
   rw [if_neg I,if_pos he,zcg he,qK];have a6:i<wd (endR w k):=hi;have a7:a<wd (endR w k):=by rw [he];exact ha
   have o1:=Y i a6;have o2:=Y a a7;by_cases hx:x.has (endR w k)=true
   ·rw [if_pos hx]at o1 o2 ⊢
    rw [qK,zhD,o1];by_cases J:i=b
    ·rw [if_pos J,if_pos J,zhr,o2,<- zhr,<- zhD]
    ·rw [if_neg J,if_neg J,<- zhD]
   ·rw [if_neg hx]at o1 o2 ⊢
    rw [zhD,o1];by_cases J:i=b
    ·rw [if_pos J,zhr,o2];simp
    ·rw [if_neg J];simp
  ·rw [if_neg he]
   by_cases I:begR w k=r
   ·rw [if_pos I,zch I hc (by rw [I];exact ha) (by rw [I];exact hb)]
    exact Y i hi
   ·rw [if_neg I,Jo he I]
    exact Y i hi
theorem zaE(t:Vc)(q:Nat->Bool)(u:Nat->Vc)(i:Nat):sumTo (λj=>if q j=true then t j*gV p a b c (u j) i else 0) N%p=gV p a b c (λi=>sumTo (λj=>if q j=true then t j*u j i else 0) N) i%p:=by
 rw [qK];have e:sumTo (λj=>if q j=true then t j*gV p a b c (u j) i else 0) N%p=sumTo (λj=>(if q j=true then t j*u j i else 0)+(if i=b then c*(if q j=true then t j*u j a else 0)else 0)) N%p:=jd λj _=>by
  by_cases h:q j=true
  ·rw [if_pos h,if_pos h,if_pos h,zhr,qK,<- zhr,zko]
   by_cases hi:i=b
   ·rw [if_pos hi,if_pos hi];congr 2;exact Int.mul_left_comm _ _ _
   ·rw [if_neg hi,if_neg hi,ziY]
  ·rw [if_neg h,if_neg h,if_neg h];split<;>simp
 rw [e,jD];by_cases hi:i=b
 ·rw [if_pos hi,zw (g:=λj=>c*(if q j=true then t j*u j a else 0)) λj _=>if_pos hi,qk]
 ·rw [if_neg hi,zw (g:=λ_=>0) λj _=>if_neg hi,zI]
theorem zd0(I:(c+c'+(if a=b then c*c' else 0))%p=0){n:Nat}(ha:a<n)(O:b<n){v:Vc}(h : ∀i,i<n->gV p a b c v i%p=0) : ∀i,i<n->v i%p=0:=λi hi=>by
 have h1:=h i hi;rw [qK]at h1;by_cases z:i=b
 ·rw [if_pos z]at h1
  subst z;have h2:=h a ha;rw [qK]at h2;by_cases J:a=i
  ·subst J
   rw [if_pos rfl]at h2 I;have e:v a=(v a+c*v a)*(1+c') - v a*(c+c'+c*c'):=by grind
   rw [e,zjv,zhr,h2,zhr (v a),I];simp
  ·rw [if_neg J,zi7]at h2
   rw [zhD,zhr,h2]at h1;simpa using h1
 ·rw [if_neg z,zi7]at h1
  exact h1
theorem zdY(I:(c+c'+(if a=b then c*c' else 0))%p=0)(v:Vc)(i:Nat):gV p a b c (gV p a b c' v) i%p=v i%p:=by
 rw [qK,zhD,qK];by_cases z:i=b
 ·subst z
  rw [if_pos rfl,if_pos rfl,zhr c,qK,<- zhr,<- zhD];have e:v i+c'*v a+c*(v a+if a=i then c'*v a else 0)=v i+v a*(c+c'+if a=i then c*c' else 0):=by
   by_cases h:a=i
   ·simp only [h,if_true];grind
   ·simp only [h,if_false];grind
  rw [e,zhD,zhr,I];simp
 ·rw [if_neg z,if_neg z]
  simp
theorem Kw(hp:0<p)(J:(c+c'+(if a=b then c*c' else 0))%p=0)(ha:a<wd r)(Y:b<wd r)(D:Decp p w wd T m N A):Decp p w wd (jU p w r a b c c' T) m N λj=>za2 p r a b c (A j):=by
 refine⟨λj O=>Xt hp J ha Y (D.ok j O),λr' z v=>?_,λr' z t ht j O hh=>?_,D.cnt⟩
 ·by_cases e:r'=r
  ·subst e
   obtain⟨t,h⟩:=D.sp r' z (gV p a b c' v);refine⟨t,λi hi=>?_⟩;show v i%p=sumTo (λj=>if (A j).has r'=true then t j*(if r'=r' then gV p a b c ((A j).v r')else (A j).v r') i else 0) N%p;simp only [if_true];rw [zaE,qK,<- zdY J v i,qK,zhD,h i hi];by_cases I:i=b
   ·rw [if_pos I,if_pos I,zhr,h a ha,<- zhr,<- zhD]
   ·rw [if_neg I,if_neg I,<- zhD]
  ·obtain⟨t,h⟩:=D.sp r' z v
   refine⟨t,λi hi=>?_⟩;show v i%p=sumTo (λj=>if (A j).has r'=true then t j*(if r'=r then gV p a b c ((A j).v r')else (A j).v r') i else 0) N%p;simp only [if_neg e];exact h i hi
 ·rw [Qq]at hh
  refine D.inj r' z t (λi hi=>?_) j O hh;by_cases e:r'=r
  ·subst e
   refine zd0 (v:=λi=>sumTo (λj=>if (A j).has r'=true then t j*(A j).v r' i else 0) N) J ha Y (λi hi=>?_) i hi;rw [<- zaE];have:=ht i hi;refine zjw ?_ this;congr 1;exact zw λj _=>by show _=if (A j).has r'=true then t j*(if r'=r' then gV p a b c ((A j).v r')else (A j).v r') i else 0;rw [if_pos rfl]
  ·refine zjw ?_ (ht i hi)
   congr 1;exact zw λj _=>by show _=if (A j).has r'=true then t j*(if r'=r then gV p a b c ((A j).v r')else (A j).v r') i else 0;rw [if_neg e]
theorem VR(O:0<p)(I : ∀k x y,0<=T k x y/\T k x y<p) : ∀k x y,0<=jU p w r a b c c' T k x y/\jU p w r a b c c' T k x y<p:=λk x y=>by
 have J : ∀z:Int,0<=z%p/\z%p<p:=λz=>⟨zh0 _ ⋯,zhP _ O⟩;unfold jU;split
 ·split
  ·exact J _
  ·exact I k x y
 ·split
  ·split
   ·exact J _
   ·exact I k x y
  ·exact I k x y
end
def zfw(S E:Nat->Nat)(j:Nat):Bar:=⟨S j,E j - S j+1,λ_ _=>0⟩
def jE(S E:Nat->Nat)(N r:Nat):List Nat:=ixs (zfw S E) N r
def layB(S E:Nat->Nat)(N j:Nat):Bar:=⟨S j,E j - S j+1,λr i=>if (jE S E N r).getD i N=j then 1 else 0⟩
def Vr(S E:Nat->Nat)(N r:Nat):Nat:=(jE S E N r).length
def WF(w:Nat->Bool)(S E:Nat->Nat)(N k i j:Nat):Int:=if (jE S E N (endR w k)).getD i N=(jE S E N (begR w k)).getD j (N+1)then 1 else 0
section
variable{S E:Nat->Nat}{N r:Nat}{w:Nat->Bool}{p:Int}{m:Nat}
theorem VT:(jE S E N r).Nodup:=List.Nodup.sublist List.filter_sublist List.nodup_range
theorem stand_mem{j:Nat}:j∈jE S E N r↔j<N/\(layB S E N j).has r=true:=by
 unfold jE ixs;rw [zin,zhp];rfl
theorem Qr{j:Nat}(h:j<N)(I:(layB S E N j).has r=true) : ∃c,c<Vr S E N r/\(jE S E N r)[c]? = some j:=by
 obtain⟨c,z⟩:=zjy (stand_mem.mpr ⟨h,I⟩);exact⟨c,(zhg.mp z).1,z⟩
theorem yJ{c d:Nat}(h:c<Vr S E N r) : ∃j,(jE S E N r)[c]? = some j/\(jE S E N r).getD c d=j/\j<N/\(layB S E N j).has r=true:=by
 have e:=zhe (l:=jE S E N r) h;obtain⟨h1,h2⟩:=stand_mem.mp (zhE e);exact⟨_,e,by rw [zhh,e];rfl,h1,h2⟩
theorem Zs{c c' j:Nat}(h1:(jE S E N r)[c]? = some j)(h2:(jE S E N r)[c']? = some j):c=c':=by
 exact(List.getElem?_inj (zhg.mp h1).1 VT).mp (h1.trans h2.symm)
theorem wj{c j:Nat}(h:c<Vr S E N r):(layB S E N j).v r c=if (jE S E N r)[c]? = some j then 1 else 0:=by
 obtain⟨I,e1,e2,_⟩:=yJ (d:=N) h;show(if (jE S E N r).getD c N=j then (1:Int)else 0)=_;rw [e1,e2];by_cases z:I=j
 ·rw [if_pos z,if_pos (by rw [z])]
 ·rw [if_neg z,if_neg (λq=>z (zhM q))]
theorem QT(hp:Pr p)(hE : ∀j,j<N->S j<=E j/\E j<=m):Decp p w (Vr S E N) (WF w S E N) m N (layB S E N):=by
 have two:=hp.two;refine⟨λj J=>⟨by show 1<=_+1;omega,by show S j+(E j - S j+1)<=m+1;have:=hE j J;omega,λr i _ _=>?_,λk hk hh i hi=>?_⟩,λr hr v=>?_,λr hr t ht j J hh=>?_,λr hr=>rfl⟩
 ·show 0<=(if _ then (1:Int)else 0)/\(if _ then (1:Int)else 0)<p
  split<;>omega
 ·obtain⟨O,Y,e0⟩:=Qr J hh
  obtain⟨ji,i1,i2,i3,i4⟩:=yJ (d:=N) hi;have e:app (WF w S E N k) (Vr S E N (begR w k)) ((layB S E N j).v (begR w k)) i=WF w S E N k i O:=by
   unfold app;rw [zX (f:=λc=>WF w S E N k i c*(layB S E N j).v (begR w k) c) Y λc hc I=>by
    rw [wj hc,if_neg (λq=>I (Zs q e0)),ziY]]
   rw [wj Y,if_pos e0,zjG]
  rw [e];congr 1;unfold WF;rw [show(jE S E N (begR w k)).getD O (N+1)=j by rw [zhh,e0];rfl];by_cases hx:(layB S E N j).has (endR w k)=true
  ·rw [if_pos hx];rfl
  ·rw [if_neg hx,i2,if_neg (λz=>hx (by rw [<- z];exact i4))]
 ·refine⟨λj=>sumTo (λc=>if (jE S E N r)[c]? = some j then v c else 0) (Vr S E N r),λi hi=>?_⟩
  obtain⟨ji,i1,i2,i3,i4⟩:=yJ (d:=N) hi;rw [zX (f:=λj=>if (layB S E N j).has r=true then sumTo (λc=>if (jE S E N r)[c]? = some j then v c else 0) (Vr S E N r)*(layB S E N j).v r i else 0) i3 λj J I=>by
   rw [wj hi,show(if (jE S E N r)[i]? = some j then (1:Int)else 0)=0 from if_neg (λq=>I (zhM (q.symm.trans i1))),ziY,ite_self]]
  rw [if_pos i4,wj hi,if_pos i1,zjG,zX (f:=λc=>if (jE S E N r)[c]? = some ji then v c else 0) hi λc hc I=>if_neg λq=>I (Zs q i1),if_pos i1]
 ·obtain⟨O,Y,e0⟩:=Qr J hh
  have:=ht O Y;rw [zX (f:=λj=>if (layB S E N j).has r=true then t j*(layB S E N j).v r O else 0) J λj' af I=>by
   rw [wj Y,show(if (jE S E N r)[O]? = some j' then (1:Int)else 0)=0 from if_neg (λq=>I (zhM (q.symm.trans e0))),ziY,ite_self]]at this
  rw [if_pos hh,wj Y,if_pos e0,zjG]at this;exact this
theorem QU(z:Pr p) : ∀k x y,0<=WF w S E N k x y/\WF w S E N k x y<p:=λk x y=>by
 have:=z.two;unfold WF;split<;>omega
end
def F_kept:List D->Option Res:=jy 7 (zZ (jv 3 (qu (jX F_link (zc (ze 0) (zc (ze 1) (zc (ze 2) zz)))))) (zZ (jv 4 (sIx (zH (sIx (zk 0) (zo (.int 1)))) (ze 1))) (zZ (jv 5 (sIx (zH (sIx (zk 0) (zo (.int 1)))) (ze 2))) (zZ (jv 6 (qu (jX F_base_of (zc (sIx (zk 0) (zo (.int 0))) (zc (zq jH (ze 5) (ze 4)) (zc (qu (zJ (zG (zk 3)) (.nm 0) 1 [4] jF (zq jH (Qt (ze 0) (sBd (ze 1)) Ki) (Qt (ze 0) Ki (sBd (ze 1)))))) zz)))))) (qo (zq ye (zq ye (yP (zk 3)) (yP (jZ (jX F_behind_noughts (zc (ze 5) (zc (ze 6) zz)))))) (yP (jZ (jX F_behind_noughts (zc (ze 4) (zc (ze 3) zz)))))))))))
def F_number_of:List D->Option Res:=jy 4 (zZ (jv 3 (zq jH (ZA (ze 0) (jC (zc (zq ye (ze 1) (zo (.int 1))) (zc (ze 2) zz))) (zo (.int 0))) (ZA (ze 0) (jC (zc (ze 1) (zc (zq jH (ze 2) (zo (.int 1))) zz))) (zo (.int 0))))) (qo (zq jH (zq ye (yS (ze 0) (jC (zc (ze 1) (zc (ze 2) zz)))) (ze 3)) (ZA (ze 0) (jC (zc (zq ye (ze 1) (zo (.int 1))) (zc (zq jH (ze 2) (zo (.int 1))) zz))) (zo (.int 0))))))
def F_numbers:List D->Option Res:=jy 3 (zZ (jv 1 (qu (jX F_stretches_of (zc (yP (zH (sIx (zk 0) (zo (.int 1))))) zz)))) (zZ (jv 2 (yR (zJ (zG (zk 1)) (.tp [0,1]) 2 [0] jF (jC (zc (jC (zc (ze 0) (zc (ze 1) zz))) (zc (zE F_kept (zc (ze 2) (zc (ze 0) (zc (ze 1) zz)))) zz)))))) (qo (yR (zJ (zG (zk 1)) (.tp [0,1]) 2 [2] jF (jC (zc (jC (zc (ze 0) (zc (ze 1) zz))) (zc (zE F_number_of (zc (ze 2) (zc (ze 0) (zc (ze 1) zz)))) zz))))))))
def F_law_bars_23:List D->Option Res:=jy 8 (zZ (xN 4 (x6 zz)) (zZ (vK (zY (ze 2)) (.nm 5) (zZ (jv 6 (zE F_law_cell (zc (ze 0) (zc (zq jH (ze 1) (ze 5)) zz)))) (zZ (jv 7 (zq qm (ze 6) (ze 3))) (xo 4 (jC (zc (ze 7) (zc (zq jH (ze 7) (zq qm (zq yf (ze 6) (ze 3)) (zq ye (ze 3) (ze 7)))) zz))))))) (Zy (Zx (zk 4)))))
def F_law_laid:List D->Option (D×TT):=zbe 8 (zfy (jv 2 (qu (zJ (zY (zq jH (Xx (ze 0)) (zo (.int 1)))) (.nm 0) 1 [1] jF (qu (zJ (zY (yP (zk 1))) (.nm 0) 1 [0,1] (sB (yc dLe dLe (sIx (zH (sIx (zk 2) (ze 0))) (zo (.int 0))) (ze 1) (sIx (zH (sIx (zk 2) (ze 0))) (zo (.int 1))))) (ze 0)))))) (zcr 3 (Zh [3] (qp (ze 0)) (.tp [4,5]) (vC (Jt [3] (.tp [6,7]) (zE F_law_ends_k22 (zc (ze 4) (zc (ze 5) zz)))) (zcy (ZB (zG (zH (sIx (zk 2) (ze 7)))) (.nm 0) 1 [2,6] (zJ (zG (zH (sIx (zk 1) (ze 2)))) (.nm 0) 1 [0] jF (VY (zq dEq (ze 1) (ze 0)))))))) (qu (zJ (zG (zk 2)) (.nm 0) 1 [] jF (yP (zk 0))))))
def F_law_step:List D->List D->TT->Option TT:=zfj 14 2 (vC (Jt [2] (.nm 7) (sIx (jZ (zJ (zY (ze 0)) (.nm 0) 1 [0,6] (sB (zq dEq (zq qm (zq qw (ze 0) (ze 2)) (ze 1)) (zo (.int 1)))) (ze 0))) (zo (.int 0)))) (Zh [2] (qp (ze 1)) (.tp [8,9]) (vC (Jt [2] (.tp [10,11]) (zE F_law_ends_k22 (zc (ze 8) (zc (ze 9) zz)))) (zcl [2] 12 (ze 8) (λk=>vC (yIf (yU (sB (zq dEq (ze 11) (ze 3))) (sB (zq dEq (ze 4) (ze 5)))) (xW 12 (ze 5) (zJ (zG (zH (sIx (zk 12) (ze 5)))) (.nm 0) 1 [0,6] jF (zq qm (zq qw (ze 2) (ze 0)) (ze 1))) k)) (vC (yIf (yU (sB (zq dEq (ze 11) (ze 3))) (sB (zq dNe (ze 4) (ze 5)))) (xW 12 (ze 5) (zJ (VW (sIx (zk 12) (ze 4)) (sIx (zk 12) (ze 5))) (.tp [0,1]) 2 [0,6] jF (zq qm (zq jH (ze 1) (zq qw (ze 3) (ze 0))) (ze 2))) k)) (xY [12,2] 13 (λm=>vC (yIf (yU (sB (zq dEq (ze 10) (ze 3))) (sB (zq dEq (ze 4) (ze 5)))) (xX 13 (ze 5) (zq qm (zq qw (ze 7) (sIx (zk 13) (ze 5))) (ze 0)) k m)) (yIf (yU (sB (zq dEq (ze 10) (ze 3))) (sB (zq dNe (ze 4) (ze 5)))) (xX 13 (ze 4) (zq qm (zq ye (sIx (zk 13) (ze 4)) (zq qw (ze 6) (sIx (zk 13) (ze 5)))) (ze 0)) k m))) k)))))))
def F_law_built:List D->Option Res:=jy 11 (zZ (wJ 5 6 F_law_laid (zc (ze 3) (zc (ze 4) zz)) (vC (Zh [6] (yQ (ze 5)) (.tp [7,8]) (Zh [6] (zY (zq qw (zo (.int 2)) (ze 8))) (.nm 9) (vC (Jt [6] (.nm 10) (zE F_law_cell (zc (ze 0) (zc (zq jH (zq jH (ze 1) (zq qw (zo (.int 14)) (ze 7))) (ze 9)) zz)))) (VE F_law_step (zc (ze 2) (zc (ze 3) zz)) (zc (ze 7) (zc (zq qm (ze 10) (ze 8)) (zc (zq qm (zq yf (ze 10) (zo (.int 7))) (ze 8)) (zc (zq jH (zo (.int 1)) (zq qm (zq yf (ze 10) (zo (.int 49))) (zq ye (ze 2) (zo (.int 1))))) zz)))))))) zcm)) (qo (zE F_law_row_k22 (zc (ze 2) (zc (ze 3) (zc (ze 5) (zc (ze 6) zz)))))))
def ZD:CO Fl:=(zZ (KL (.tp [7,8]) (zE F_law_ends_k22 (zc (ze 5) (zc (ze 6) zz)))) (xo 4 (jC (zc (ze 6) (zc (jC (zc (sIx (zk 2) (ze 8)) (zc (sIx (zk 2) (ze 7)) (zc (zU (jZ (zJ (zG (zH (sIx (zk 3) (ze 5)))) (.nm 0) 1 [] jF (zU (zk 0))))) zz)))) zz)))))
theorem KN:F_law_row_k22=jy 9 (zZ (xN 4 (x6 zz)) (zZ (vK (qp (ze 1)) (.tp [5,6]) ZD) (qo (jC (zc (ze 0) (zc (zU (zk 2)) (zc (zU (zk 4)) zz))))))):=rfl
section
variable{p:Int}{m:Nat}{w:Nat->Bool}{wd:Nat->Nat}{T:Nat->Nat->Nat->Int}
def qY(w:Nat->Bool)(wd:Nat->Nat)(T:Nat->Nat->Nat->Int)(m:Nat):List D:=(zhf m).map λk=>D.lst (qU (hiW w wd k) (wiW w wd k) (T k))
@[simp] theorem Ks(m):(qY w wd T m).length=m:=by simp [qY]
theorem Ke(k):xz (k+1) w wd T=xz k w wd T++[Vf w wd T k]:=by simp [xz,ziD]
theorem Wy(h v:Nat)(f:Nat->Nat->Int):z7 (.nm 0) jF (zU (zk 0)) [Cell.no] (qU h v f)=some (jb h v f):=by
 unfold qU jb;refine zA _ _ λy z=>zC rfl rfl ?_;simp
abbrev rc(p:Int)(m:Nat)(w:Nat->Bool)(wd:Nat->Nat)(T:Nat->Nat->Nat->Int)(acc:List D)(c5 c6 c7 c8:Cell):Ctx:=[.val (.int p),.val (.str (qf m w)),.val (.lst (zQ (m+1) λk=>(wd k:Int))),.val (.lst (qY w wd T m)),.own acc,c5,c6,c7,c8]
theorem Xz(hm:m<=5)(I : ∀k,wd k<=7){k:Nat}(z:k<m)(acc:List D)(ha:acc.length<lim)(c7 c8:Cell) : ∃J O,ZD (rc p m w wd T acc (.val (.int k)) (.val (.str (qG (wch (w k))))) c7 c8)=some (.next (rc p m w wd T (acc++[Vf w wd T k]) (.val (.int k)) (.val (.str (qG (wch (w k))))) J O)):=by
 have hl:=jM;have h1:=YM w z;have h2:=Y8 w z;have Y:hiW w wd k<=lim:=by rw [Z4];have:=I (endR w k);omega
 have i1:ixD (m+1) ((endR w k:Nat):Int)=some (endR w k):=by rw [jt,if_pos h1]
 have i2:ixD (m+1) ((begR w k:Nat):Int)=some (begR w k):=by rw [jt,if_pos h2]
 have i3:ixD m (k:Int)=some k:=by rw [jt,if_pos z]
 have w1:(zQ (m+1) λk=>(wd k:Int))[endR w k]? = some (.int (wd (endR w k):Int)):=yw (n:=m+1) (λk=>(wd k:Int)) h1;have w2:(zQ (m+1) λk=>(wd k:Int))[begR w k]? = some (.int (wd (begR w k):Int)):=yw (n:=m+1) (λk=>(wd k:Int)) h2;have tx:(qY w wd T m)[k]? = some (D.lst (qU (hiW w wd k) (wiW w wd k) (T k))):=by simp [qY,z]
 refine⟨.val (.int ((begR w k:Nat):Int)),.val (.int ((endR w k:Nat):Int)),?_⟩;unfold ZD;rw [jm,zci,xC];simp only [rc,xB,yh,jk,zhj,zhk,zx,zhd,zhF,JY,qM,vv,zie,zid];have cm:(zJ (zG (zH (sIx (zk 3) (ze 5)))) (.nm 0) 1 [] jF (zU (zk 0))) [.val (.int p),.val (.str (qf m w)),.val (.lst (zQ (m+1) λk=>(wd k:Int))),.val (.lst (qY w wd T m)),.own acc,.val (.int k),.val (.str (qG (wch (w k)))),.val (.int ((begR w k:Nat):Int)),.val (.int ((endR w k:Nat):Int))]=some (jb (hiW w wd k) (wiW w wd k) (T k)):=by
  simp only [qX,qW,qj,kM,jT,jk,zhj,zhk,zx,zM,xU,zhd,zhF,jh,Ks,i3,tx,ya,Y,if_true];exact Wy _ _ _
 simp only [Vj,zei,xB,yh,jk,kM,jT,Kf,Vh,cm,zhj,zhk,zx,zM,ke,xU,zhd,zhF,jh,xL,i1,i2,w1,w2,zhJ,zjm,ha,if_true];rw [<- Z4 w wd k,<- Zm w wd k];rfl
theorem xV(hm:m<=5)(O : ∀k,wd k<=7):F_law_row_k22 [.int p,.str (qf m w),.lst (zQ (m+1) λk=>(wd k:Int)),.lst (qY w wd T m)]=some (.val (yt p m w wd T)):=by
 have hl:=jM;have Y:=xF w (show m<=1000 by omega);have a0 : ∀(k s:Nat) (c5 c6 c7 c8:Cell),s+k=m->∃a1 a2 a3 a4,xl (.tp [5,6]) ZD ((zjr s k).map λ(k:Nat)=>D.tup [.int k,.str (qG (wch (w k)))]) (rc p m w wd T (xz s w wd T) c5 c6 c7 c8)=some (.next (rc p m w wd T (xz m w wd T) a1 a2 a3 a4)):=by
  intro k
  induction k with
  | zero=>
   intro s c5 c6 c7 c8 h;obtain rfl:s=m:=by omega
   exact⟨c5,c6,c7,c8,rfl⟩
  | succ k ih=>
   intro s c5 c6 c7 c8 h;obtain⟨z,I,e⟩:=Xz (p:=p) (w:=w) (T:=T) hm O (show s<m by omega) (xz s w wd T) (by simp;omega) c7 c8;obtain⟨a6,a7,a8,a9,J⟩:=ih (s+1) (.val (.int s)) (.val (.str (qG (wch (w s))))) z I ⋯;refine⟨a6,a7,a8,a9,?_⟩;rw [zi1,zhI,j4];show((ZD (rc p m w wd T _ (.val (.int s)) (.val (.str (qG (wch (w s))))) c7 c8)).bind _)=_;rw [e];rw [Ke]at J;exact J
 obtain⟨d5,d6,z,I,e⟩:=a0 m 0 .no .no .no .no ⋯;rw [<- ziH]at e;rw [KN];unfold jy;rw [jm];show(zZ _ _ (rc p m w wd T [] .no .no .no .no)).bind _=_;rw [jm,Xe,vz];simp only [rc,jk,zhj,zhk,zx,zhd,Y,if_true,k8];have e0:xz 0 w wd T=[]:=rfl;simp only [rc,e0]at e;rw [e];simp;rfl
end
def kp1:CO Fl:=jv 3 (qu (jX F_link (zc (ze 0) (zc (ze 1) (zc (ze 2) zz)))))
def kp2:CO Fl:=jv 4 (sIx (zH (sIx (zk 0) (zo (.int 1)))) (ze 1))
def kp3:CO Fl:=jv 5 (sIx (zH (sIx (zk 0) (zo (.int 1)))) (ze 2))
def kp4:CO Fl:=jv 6 (qu (jX F_base_of (zc (sIx (zk 0) (zo (.int 0))) (zc (zq jH (ze 5) (ze 4)) (zc (qu (zJ (zG (zk 3)) (.nm 0) 1 [4] jF (zq jH (Qt (ze 0) (sBd (ze 1)) Ki) (Qt (ze 0) Ki (sBd (ze 1)))))) zz)))))
def kp5:CO Fl:=qo (zq ye (zq ye (yP (zk 3)) (yP (jZ (jX F_behind_noughts (zc (ze 5) (zc (ze 6) zz)))))) (yP (jZ (jX F_behind_noughts (zc (ze 4) (zc (ze 3) zz))))))
theorem zdG:F_kept=jy 7 (zZ kp1 (zZ kp2 (zZ kp3 (zZ kp4 kp5)))):=rfl
section
variable{p:Int}{w:Nat->Bool}{wd:Nat->Nat}{T:Nat->Nat->Nat->Int}{m:Nat}
theorem X4{a b q s:Nat}{B:Nat->Vc}{l:Nat->Nat}(I:IsB p (a+b) q B l)(hs:s<=q)(s1 : ∀k,k<s->l k<a)(s2 : ∀k,s<=k->k<q->a<=l k) :
 IsB p a s B l/\∀u,Span p a (Fam s B) u ↔ ∃z,Span p (a+b) (Fam q B) (j8 a u z):=by
 refine⟨{
  lt:=s1
  mono:=λk m h1 h2=>I.mono k m h1 ⋯
  one:=λk J=>I.one k ⋯
  bef:=λk j J Y=>I.bef k j ⋯ Y
  oth:=λk m J hm a0=>I.oth k m ⋯ ⋯ a0
  rng:=λk i J hi=>I.rng k i ⋯ ⋯},λu=>⟨λO=>?_,λO=>?_⟩⟩
 ·obtain⟨t,ht⟩:=Ky O
  refine⟨λj=>sumTo (λk=>t k*B k (a+j)) s,(Span.sum (u:=B) t (m:=s) λk J=> .gen ⟨k,by omega,rfl⟩).congr λi hi=>?_⟩;rcases zhy i a with z | z
  ·rw [zO z,ht i z]
  ·obtain⟨j,rfl⟩ : ∃j,i=a+j:=⟨i - a,by omega⟩
   rw [z5]
 ·obtain⟨z,hz⟩:=O
  have c:=Ka I hz;refine(wF (n:=a) B λk=>j8 a u z (l k)).congr λi hi=>?_;have:=c i ⋯;rw [zO hi]at this;rw [this];obtain⟨e,rfl⟩ : ∃e,q=s+e:=⟨q - s,by omega⟩;rw [kj];have e0:sumTo (λk=>j8 a u z (l (s+k))*B (s+k) i) e=sumTo (λ_=>0) e:=zw λk J=>by
   rw [I.bef (s+k) i ⋯ (by have:=s2 (s+k) ⋯ ⋯;omega)];simp
  rw [e0,zI,zi7]
theorem Xq{a b q:Nat}{B:Nat->Vc}(v:Vc):Span p (b+a) (Fam q λk=>j8 b (λj=>B k (a+j)) (B k)) (j8 b (λ_=>0) v)↔Span p (a+b) (Fam q B) (j8 a v λ_=>0):=by
 constructor
 ·intro h
  refine(h.map (n':=a+b) (G':=Fam q B) (λi=>if i<a then b+i else i - a) (λi hi=>by split<;>omega) λg I=>?_).congr λi hi=>?_
  ·obtain⟨k,J,rfl⟩:=I
   refine(Span.gen (g:=B k) ⟨k,J,rfl⟩).congr λi hi=>?_;show j8 b (λj=>B k (a+j)) (B k) (if i<a then b+i else i - a)%p=_;split
   ·rw [z5]
   ·rw [zO ⋯];congr 2;omega
  ·split
   ·next z=>rw [z5,zO z]
   ·next z=>
    obtain⟨j,rfl⟩ : ∃j,i=a+j:=⟨i - a,by omega⟩;rw [z5,zO ⋯]
 ·intro h
  refine(h.map (n':=b+a) (G':=Fam q λk=>j8 b (λj=>B k (a+j)) (B k)) (λi=>if i<b then a+i else i - b) (λi hi=>by split<;>omega) λg I=>?_).congr λi hi=>?_
  ·obtain⟨k,J,rfl⟩:=I
   refine(Span.gen (g:=j8 b (λj=>B k (a+j)) (B k)) ⟨k,J,rfl⟩).congr λi hi=>?_;split
   ·next z=>rw [zO z]
   ·next z=>
    obtain⟨j,rfl⟩ : ∃j,i=b+j:=⟨i - b,by omega⟩;rw [z5];congr 2;omega
  ·split
   ·next z=>rw [z5,zO z]
   ·next z=>
    obtain⟨j,rfl⟩ : ∃j,i=b+j:=⟨i - b,by omega⟩;rw [z5,zO ⋯];congr 2;omega
theorem zbP(hp:Pr p)(a0 : ∀k,wd k<=7)(hT : ∀k x y,0<=T k x y/\T k x y<p)(hm:m<=20){i j:Nat}(aa:i<=j)(hj:j<=m) :
 ∃(s q:Nat) (B B2:Nat->Vc) (l l2:Nat->Nat),F_kept [yt p m w wd T,.int i,.int j]=some (.val (.int ((s:Int) - (q:Int))))/\IsB p (wd i) s B l/\(∀u,Span p (wd i) (Fam s B) u ↔ ∃z,Wk p w wd T i (j - i) u z)/\IsB p (wd i) q B2 l2/\∀u,Span p (wd i) (Fam q B2) u↔Wk p w wd T i (j - i) u λ_=>0:=by
 have hl:=jM;have ha:=a0 i;have an:=a0 j;obtain⟨q,B,l,e1,J,hP⟩:=Vo (m:=m) (w:=w) hp a0 hT aa hj;have hq:=wL J;have O:q<=lim:=by omega
 obtain⟨r,B',l',e2,Y,hS⟩:=xE hp (show wd j+wd i<=100 by omega) O .L λk=>j8 (wd j) (λx=>B k (wd i+x)) (B k);have hr:=wL Y;obtain⟨s,hs,s1,s2⟩:=yp (l:=l) (wd i) J.mono;obtain⟨s',a5,a6,a7⟩:=yp (l:=l') (wd j) Y.mono;have b1:=kf J O hs s1 s2;have b2:=kf Y ⋯ a5 a6 a7;obtain⟨h1,h2⟩:=X4 J hs s1 s2;obtain⟨h3,h4⟩:=vX Y a5 a6 a7;refine⟨s,r - s',B,_,l,_,?_,h1,λu=>?_,h3,λu=>?_⟩
 ·have ag:i<m+1:=by omega
  have ah:j<m+1:=by omega
  have sw:z7 (.nm 0) jF (zq jH (Qt (ze 0) (sBd (ze 1)) Ki) (Qt (ze 0) Ki (sBd (ze 1)))) [.no,.val (.int (wd i))] (jb q (wd i+wd j) B)=some (jb q (wd j+wd i) λk=>j8 (wd j) (λx=>B k (wd i+x)) (B k)):=by
   unfold jb;refine zA _ _ λk hk=>zC rfl rfl ?_;have a8:wd j+wd i<=lim:=by omega
   simp [Xa,Q9,jH,a8,xM]
  let R:=yt p m w wd T;let I:D:= .lst (jb q (wd i+wd j) B);let L2:D:= .lst (jb r (wd j+wd i) B');rw [zdG];refine kS (jf (γ':=[.val R,.val (.int i),.val (.int j),.val I,.no,.no,.no]) ?_
   (jf (γ':=[.val R,.val (.int i),.val (.int j),.val I,.val (.int (wd i)),.no,.no]) ?_
   (jf (γ':=[.val R,.val (.int i),.val (.int j),.val I,.val (.int (wd i)),.val (.int (wd j)),.no]) ?_
   (jf (γ':=[.val R,.val (.int i),.val (.int j),.val I,.val (.int (wd i)),.val (.int (wd j)),.val L2]) ?_ ?_))))
  ·simp [kp1,jx,zhm,R,I,e1]
  ·simp [kp2,R,Qw,ag]
  ·simp [kp3,R,Qw,ah]
  ·have c1:((wd j:Int)+(wd i:Int))=((wd j+wd i:Nat):Int):=by omega
   have a8:wd j+wd i<=lim:=by omega
   simp only [dsq]at e2;simp [kp4,jn,R,Qw,I,O,sw];rw [c1,e2];simp [L2]
  ·have r1:q - s<=lim:=by omega
   have r2:r - s'<=lim:=by omega
   have f1:(q:Int) - ((r - s':Nat):Int) - ((q - s:Nat):Int)=(s:Int) - ((r - s':Nat):Int):=by omega
   simp [kp5,I,L2,b1,b2,O,r1,r2,f1]
 ·rw [h2 u]
  constructor
  ·rintro⟨z,hz⟩
   have:=(wU (j - i) _).mp ((hP _).mp hz);exact⟨_,Jp this λx hx=>by rw [zO hx]⟩
  ·rintro⟨z,hz⟩
   refine⟨z,(hP _).mpr ((wU (j - i) _).mpr ?_)⟩;rw [show(λx=>j8 (wd i) u z (wd i+x))=z from funext λx=>z5 x];exact Jp hz λx hx=>by rw [zO hx]
 ·rw [h4 u,hS,Xq,hP,wU,show(λx=>j8 (wd i) u (λ_=>0) (wd i+x))=λ_=>0 from funext λx=>z5 x]
  exact⟨λh=>Jp h λx hx=>by rw [zO hx],λh=>Jp h λx hx=>by rw [zO hx]⟩
end
def stN(M:Nat):List (Nat×Nat):=(zhf M).flatMap λi=>(zjr i (M - i)).map λj=>(i,j)
def kI(s:Nat×Nat):List Int:=[(s.1:Int),(s.2:Int)]
def kD(s:Nat×Nat):D:= .tup [.int s.1,.int s.2]
theorem mem_st{M:Nat}{s:Nat×Nat}:s∈stN M↔s.1<=s.2/\s.2<M:=by
 unfold stN;simp only [List.mem_flatMap,zhp,ziJ,List.mem_range'_1];constructor
 ·rintro⟨i,hi,j,z,rfl⟩
  exact⟨z.1,by show j<M;omega⟩
 ·intro h
  exact⟨s.1,by omega,s.2,⟨h.1,by omega⟩,rfl⟩
theorem Qs : ∀M:Fin 7,(stN M.val).Nodup/\((stN M.val).map kI).Nodup/\(stN M.val).length<=21:=by decide +kernel
theorem zff : ∀M:Fin 7,F_stretches_of [.int (M.val:Int)]=some (.own ((stN M.val).map kD))
 | ⟨0,_⟩=>by kernel_rfl
 | ⟨1,_⟩=>by kernel_rfl
 | ⟨2,_⟩=>by kernel_rfl
 | ⟨3,_⟩=>by kernel_rfl
 | ⟨4,_⟩=>by kernel_rfl
 | ⟨5,_⟩=>by kernel_rfl
 | ⟨6,_⟩=>by kernel_rfl
theorem zdN{s t:Nat×Nat}(h:kI s=kI t):s=t:=by
 unfold kI at h;simp only [List.cons.injEq,and_true]at h;obtain⟨a,b⟩:=s;obtain⟨c,d⟩:=t;simp only [Prod.mk.injEq];have h1:=h.1;have h2:=h.2;dsimp only at h1 h2;omega
theorem JV(f:Nat×Nat->D)(k:List Int) : ∀L:List (Nat×Nat),QZ (L.map kI) (L.map f) k=(L.find? λs=>decide (kI s=k)).map f
 | []=>rfl
 | s::L=>by
  show(if kI s=k then _ else _)=_;by_cases h:kI s=k
  ·rw [if_pos h,zj0 (by simpa using h)];rfl
  ·rw [if_neg h,zj1 (by simpa using h)];exact JV f k L
theorem YJ{L:List (Nat×Nat)}{s:Nat×Nat}(h:s∈L):(L.find? λt=>decide (kI t=kI s))=some s:=by
 cases e:L.find? λt=>decide (kI t=kI s)with
 | none=>
  have:=zkr.mp e s h;simp at this
 | some t=>
  have:=List.find?_some e;rw [zdN (of_decide_eq_true this)]
def atS(f:Nat×Nat->Int)(M:Nat)(a b:Int):Int:=if 0<=a/\a<=b/\b<M then f (a.toNat,b.toNat)else 0
theorem wZ(f:Nat×Nat->Int)(M:Nat)(a b:Int):(QZ ((stN M).map kI) ((stN M).map λs=> .int (f s)) [a,b]).getD (.int 0) = .int (atS f M a b):=by
 rw [JV (λs=> .int (f s))];unfold atS;split
 ·next h=>
  have e:[a,b]=kI (a.toNat,b.toNat):=by unfold kI;simp;omega
  rw [e,YJ (mem_st.mpr (by show a.toNat<=b.toNat/\b.toNat<M;omega))];rfl
 ·next h=>
  rw [zkr.mpr λs I z=>h ?_]
  ·rfl
  ·have hm:=mem_st.mp I
   have z:=of_decide_eq_true z;unfold kI at z;simp only [List.cons.injEq,and_true]at z;omega
theorem YI(f:Nat×Nat->Int){M:Nat}{s:Nat×Nat}(h:s∈stN M):QZ ((stN M).map kI) ((stN M).map λs=>D.int (f s)) [(s.1:Int),(s.2:Int)]=some (.int (f s)):=by
 rw [JV (λs=> .int (f s))];rw [show [(s.1:Int),(s.2:Int)]=kI s from rfl,YJ h];rfl
def zbH(f:Nat×Nat->Int)(M:Nat)(s:Nat×Nat):Int:=f s - (atS f M ((s.1:Int) - 1) s.2+atS f M s.1 ((s.2:Int)+1))+atS f M ((s.1:Int) - 1) ((s.2:Int)+1)
def Je(f:Nat×Nat->Int)(M:Nat):D:= .dct ((stN M).map kI) ((stN M).map λs=> .int (f s))
theorem zdL(a b:Int):Vs (.tup [.int a,.int b])=some [a,b]:=rfl
def no1:CO Fl:=jv 3 (zq jH (ZA (ze 0) (jC (zc (zq ye (ze 1) (zo (.int 1))) (zc (ze 2) zz))) (zo (.int 0))) (ZA (ze 0) (jC (zc (ze 1) (zc (zq jH (ze 2) (zo (.int 1))) zz))) (zo (.int 0))))
def no2:CO Fl:=qo (zq jH (zq ye (yS (ze 0) (jC (zc (ze 1) (zc (ze 2) zz)))) (ze 3)) (ZA (ze 0) (jC (zc (zq ye (ze 1) (zo (.int 1))) (zc (zq jH (ze 2) (zo (.int 1))) zz))) (zo (.int 0))))
theorem zdA:F_number_of=jy 4 (zZ no1 no2):=rfl
theorem Yl(f:Nat×Nat->Int){M:Nat}{s:Nat×Nat}(h:s∈stN M):F_number_of [Je f M,.int s.1,.int s.2]=some (.val (.int (zbH f M s))):=by
 have h1:=wZ f M ((s.1:Int) - 1) s.2;have h2:=wZ f M s.1 ((s.2:Int)+1);have z:=wZ f M ((s.1:Int) - 1) ((s.2:Int)+1);have I:=YI f h;rw [zdA];refine kS (jf (γ':=[.val (Je f M),.val (.int s.1),.val (.int s.2),.val (.int (atS f M ((s.1:Int) - 1) s.2+atS f M s.1 ((s.2:Int)+1)))]) ?_ ?_)
 ·simp [no1,jx,zhm,Je,WR,zdL,h1,h2]
 ·simp [no2,Je,WR,zdL,z,I,zbH]
theorem wC(f:Nat×Nat->Int) : ∀L:List (Nat×Nat),yH (L.map λs=>D.tup [kD s,.int (f s)])=some (L.map kD,L.map λs=> .int (f s))
 | []=>rfl
 | s::L=>by
  show(yH (L.map λs=>D.tup [kD s,.int (f s)])).map _=_;rw [wC f L];rfl
theorem Yz : ∀L:List (Nat×Nat),XZ (L.map kD)=some (L.map kI)
 | []=>rfl
 | s::L=>by
  show(Vs (kD s)).bind _=_;rw [show Vs (kD s)=some (kI s)from rfl];show(XZ (L.map kD)).map _=_;rw [Yz L];rfl
def nm1:CO Fl:=jv 1 (qu (jX F_stretches_of (zc (yP (zH (sIx (zk 0) (zo (.int 1))))) zz)))
def nm2:CO Fl:=jv 2 (yR (zJ (zG (zk 1)) (.tp [0,1]) 2 [0] jF (jC (zc (jC (zc (ze 0) (zc (ze 1) zz))) (zc (zE F_kept (zc (ze 2) (zc (ze 0) (zc (ze 1) zz)))) zz)))))
def nm3:CO Fl:=qo (yR (zJ (zG (zk 1)) (.tp [0,1]) 2 [2] jF (jC (zc (jC (zc (ze 0) (zc (ze 1) zz))) (zc (zE F_number_of (zc (ze 2) (zc (ze 0) (zc (ze 1) zz)))) zz)))))
theorem zdD:F_numbers=jy 3 (zZ nm1 (zZ nm2 nm3)):=rfl
section
variable{p:Int}{w:Nat->Bool}{wd:Nat->Nat}{T:Nat->Nat->Nat->Int}{m:Nat}
theorem XQ(hm:m<=5)(f:Nat×Nat->Int)(Y : ∀s,s∈stN (m+1)->F_kept [yt p m w wd T,.int s.1,.int s.2]=some (.val (.int (f s)))):F_numbers [yt p m w wd T]=some (.val (Je (zbH f (m+1)) (m+1))):=by
 have hl:=jM;obtain⟨n1,n2,n3⟩:=Qs ⟨m+1,by omega⟩;have I:=zff ⟨m+1,by omega⟩;dsimp only at n1 n2 n3 I;have J:(stN (m+1)).length<=lim:=by omega
 let S:D:= .lst ((stN (m+1)).map kD);have c1:z7 (.tp [0,1]) jF (jC (zc (jC (zc (ze 0) (zc (ze 1) zz))) (zc (zE F_kept (zc (ze 2) (zc (ze 0) (zc (ze 1) zz)))) zz))) [.no,.no,.val (yt p m w wd T)] ((stN (m+1)).map kD)=some ((stN (m+1)).map λs=>D.tup [kD s,.int (f s)]):=by
  refine zA _ _ λs z=>zC (γ1:=[.val (.int s.1),.val (.int s.2),.val (yt p m w wd T)]) rfl rfl ?_;have:=Y s z;simp [this,kD]
 have c2:z7 (.tp [0,1]) jF (jC (zc (jC (zc (ze 0) (zc (ze 1) zz))) (zc (zE F_number_of (zc (ze 2) (zc (ze 0) (zc (ze 1) zz)))) zz))) [.no,.no,.val (Je f (m+1))] ((stN (m+1)).map kD)=some ((stN (m+1)).map λs=>D.tup [kD s,.int (zbH f (m+1) s)]):=by
  refine zA _ _ λs z=>zC (γ1:=[.val (.int s.1),.val (.int s.2),.val (Je f (m+1))]) rfl rfl ?_;have:=Yl f z;simp [this,kD]
 have u1:=wC f (stN (m+1));have u2:=wC (zbH f (m+1)) (stN (m+1));have O:=Yz (stN (m+1));have em:((m:Int)+1)=((m+1:Nat):Int):=by omega
 rw [zdD];refine kS (jf (γ':=[.val (yt p m w wd T),.val S,.no]) ?_ (jf (γ':=[.val (yt p m w wd T),.val S,.val (Je f (m+1))]) ?_ ?_))
 ·simp [nm1,jx,zhm,Qw]
  rw [em,I];simp [S]
 ·simp [nm2,jn,S,J,c1,u1,O,n2,Je]
 ·simp [nm3,jn,S,J,c2,u2,O,n2]
  rfl
end
def cvZ(K:List (Nat×Nat))(a b:Int):Nat:=K.countP λx=>decide ((x.1:Int)<=a) && decide (b<=(x.2:Int))
def muZ(K:List (Nat×Nat))(s:Nat×Nat):Nat:=K.countP λx=>decide (x=s)
theorem yx(x:Nat×Nat)(K:List (Nat×Nat))(a b:Int):(cvZ (x::K) a b:Int)=(cvZ K a b:Int)+if (x.1:Int)<=a/\b<=(x.2:Int)then 1 else 0:=by
 unfold cvZ;rw [zjZ];by_cases h1:(x.1:Int)<=a
 ·by_cases h2:b<=(x.2:Int)
  ·rw [if_pos (show(decide ((x.1:Int)<=a) && decide (b<=(x.2:Int)))=true by simp only [decide_eq_true h1,decide_eq_true h2];rfl),if_pos ⟨h1,h2⟩];rfl
  ·rw [if_neg (show ¬(decide ((x.1:Int)<=a) && decide (b<=(x.2:Int)))=true by simp only [decide_eq_false h2,Bool.and_false];decide),if_neg λz=>h2 z.2];rfl
 ·rw [if_neg (show ¬(decide ((x.1:Int)<=a) && decide (b<=(x.2:Int)))=true by simp only [decide_eq_false h1,Bool.false_and];decide),if_neg λz=>h1 z.1];rfl
theorem Wx(x s:Nat×Nat)(K:List (Nat×Nat)):(muZ (x::K) s:Int)=(muZ K s:Int)+if (x.1=s.1/\x.2=s.2)then 1 else 0:=by
 unfold muZ;rw [zjZ];by_cases h:x=s
 ·rw [if_pos (decide_eq_true h),if_pos (by rw [h];exact⟨rfl,rfl⟩)];rfl
 ·rw [if_neg (by simpa using h),if_neg λz=>h (Prod.ext z.1 z.2)];rfl
theorem Z2(s:Nat×Nat) : ∀K:List (Nat×Nat),(cvZ K s.1 s.2:Int) - ((cvZ K ((s.1:Int) - 1) s.2:Int)+(cvZ K s.1 ((s.2:Int)+1):Int))+(cvZ K ((s.1:Int) - 1) ((s.2:Int)+1):Int)=(muZ K s:Int)
 | []=>rfl
 | x::K=>by
  have z:=Z2 s K;rw [yx,yx,yx,yx,Wx];generalize (cvZ K s.1 s.2:Int)=I at *;generalize (cvZ K ((s.1:Int) - 1) s.2:Int)=J at *;generalize (cvZ K s.1 ((s.2:Int)+1):Int)=O at *;generalize (cvZ K ((s.1:Int) - 1) ((s.2:Int)+1):Int)=Y at *;generalize (muZ K s:Int)=c5 at *
  repeat' split
  all_goals omega
section
variable{p:Int}{w:Nat->Bool}{wd:Nat->Nat}{T:Nat->Nat->Nat->Int}{m N:Nat}{A:Nat->Bar}
def keyN(A:Nat->Bar)(N:Nat):List (Nat×Nat):=(zhf N).map λj=>((A j).s,(A j).s+(A j).n - 1)
theorem zbO(D:Decp p w wd T m N A) : ∀x,x∈keyN A N->x∈stN (m+1):=λx hx=>by
 obtain⟨j,z,rfl⟩:=ziJ.mp hx;have h1:=(D.ok j (zhp.mp z)).n1;have h2:=(D.ok j (zhp.mp z)).le;exact mem_st.mpr (by show(A j).s<=(A j).s+(A j).n - 1/\(A j).s+(A j).n - 1<m+1;omega)
theorem zed(D:Decp p w wd T m N A){i j:Nat}(I:i<=j):(cvL A N i j).length=cvZ (keyN A N) i j:=by
 unfold cvL cvZ keyN;rw [<- zjz,zjD];refine List.countP_congr λk z=>?_;have h1:=(D.ok k (zhp.mp z)).n1;simp only [Bool.and_eq_true,zjp,decide_eq_true_eq];rw [has_iff,has_iff];omega
theorem zcc(D:Decp p w wd T m N A){a b:Int}(I:a<=b):atS (λs=>(cvZ (keyN A N) s.1 s.2:Int)) (m+1) a b=(cvZ (keyN A N) a b:Int):=by
 unfold atS;split
 ·next h=>
  show((cvZ (keyN A N) (a.toNat:Int) (b.toNat:Int):Nat):Int)=_;rw [zkn h.1,zkn ⋯]
 ·next h=>
  have:cvZ (keyN A N) a b=0:=by
   unfold cvZ;rw [List.countP_eq_zero];intro x hx z;have:=mem_st.mp (zbO D x hx);simp only [Bool.and_eq_true,decide_eq_true_eq]at z;omega
  rw [this];rfl
theorem zdz(D:Decp p w wd T m N A){s:Nat×Nat}(z:s.1<=s.2):zbH (λs=>(cvZ (keyN A N) s.1 s.2:Int)) (m+1) s=(muZ (keyN A N) s:Int):=by
 unfold zbH;rw [zcc D ⋯,zcc D ⋯,zcc D ⋯];exact Z2 s _
theorem WJ(z:Pr p)(J : ∀k,wd k<=7)(O : ∀k x y,0<=T k x y/\T k x y<p)(hm:m<=20)(D:Decp p w wd T m N A){i j:Nat}(I:i<=j)(Y:j<=m):F_kept [yt p m w wd T,.int i,.int j]=some (.val (.int ((cvZ (keyN A N) i j:Nat):Int))):=by
 obtain⟨s,q,B,B2,l,l2,e,h1,h2,h3,h4⟩:=zbP (w:=w) z J O hm I Y;have:=WK z D (n:=j - i) ⋯ h1 h2 h3 h4;rw [show i+(j - i)=j by omega]at this;rw [e,<- zed D I];congr 3;omega
end
def u1:CO Fl:=(jv 1 (zE F_law_cell (zc (ze 0) (zc (zo (.int 0)) zz))))
def u2:CO Fl:=(jv 2 (sIx (jZ (x6 (zc (zo (.int 2)) (zc (zo (.int 3)) (zc (zo (.int 5)) (zc (zo (.int 7)) zz)))))) (zq qm (ze 1) (zo (.int 4)))))
def u3:CO Fl:=(KL (.tp [3,4]) (sIx (jZ (x6 (zc (jC (zc (zo (.int 4)) (zc (zo (.int 2)) zz))) (zc (jC (zc (zo (.int 3)) (zc (zo (.int 2)) zz))) (zc (jC (zc (zo (.int 2)) (zc (zo (.int 2)) zz))) (zc (jC (zc (zo (.int 2)) (zc (zo (.int 2)) zz))) (zc (jC (zc (zo (.int 6)) (zc (zo (.int 1)) zz))) (zc (jC (zc (zo (.int 5)) (zc (zo (.int 1)) zz))) (zc (jC (zc (zo (.int 4)) (zc (zo (.int 1)) zz))) (zc (jC (zc (zo (.int 3)) (zc (zo (.int 1)) zz))) zz)))))))))) (zq qm (ze 1) (zo (.int 8)))))
theorem ZX{c:Int}{n:Nat}(hn:0<n) : ∃a:Nat,c%(n:Int)=a/\a<n:=by
 obtain⟨a,ha⟩:=ziu (zh0 c (show(n:Int)≠0 by omega));have:=zhP c (show(0:Int)<n by omega);exact⟨a,ha,by omega⟩
theorem zdi{c:Int}(h:0<=c) : ∃q:Nat,Pr (q:Int)/\([D.int 2,.int 3,.int 5,.int 7])[(c%4).toNat]? = some (.int q)/\ixD 4 (c%4)=some (c%4).toNat:=by
 have h1:=zh0 c (show(4:Int)≠0 by decide);have h2:=zhP c (show(0:Int)<4 by decide);obtain⟨r,z⟩:=ziu h1;rw [z];have I:r<4:=by omega
 rw [jt,if_pos I,zib];rcases (by omega:r=0\/r=1\/r=2\/r=3)with e | e | e | e<;>subst e
 ·exact⟨2,.inl rfl,rfl,rfl⟩
 ·exact⟨3,.inr (.inl rfl),rfl,rfl⟩
 ·exact⟨5,.inr (.inr (.inl rfl)),rfl,rfl⟩
 ·exact⟨7,.inr (.inr (.inr rfl)),rfl,rfl⟩
section
variable{p:Int}{w:Nat->Bool}{wd:Nat->Nat}{T:Nat->Nat->Nat->Int}{m N:Nat}{A:Nat->Bar}
theorem wg(I:Pr p)(J : ∀k,wd k<=7)(O : ∀k x y,0<=T k x y/\T k x y<p)(hm:m<=5)(D:Decp p w wd T m N A):F_numbers [yt p m w wd T]=some (.val (Je (λs=>(muZ (keyN A N) s:Int)) (m+1))):=by
 rw [XQ hm (λs=>(cvZ (keyN A N) s.1 s.2:Int)) λs z=>by
  have:=mem_st.mp z;exact WJ I J O ⋯ D this.1 ⋯]
 congr 2;unfold Je;congr 1;exact zht λs z=>by rw [zdz D (mem_st.mp z).1]
end
def Ju(n:Nat)(v:Vc):List Int:=(zhf n).map v
def Zk(h v:Nat)(f:Nat->Nat->Int):List (List Int):=(zhf h).map λi=>Ju v (f i)
def j9(w:Nat->Bool)(wd:Nat->Nat)(T:Nat->Nat->Nat->Int)(m:Nat):TT:=(zhf m).map λk=>Zk (hiW w wd k) (wiW w wd k) (T k)
@[simp] theorem VH(n v):(Ju n v).length=n:=by simp [Ju]
@[simp] theorem Qd(h v f):(Zk h v f).length=h:=by simp [Zk]
@[simp] theorem Ql(w wd T m):(j9 w wd T m).length=m:=by simp [j9]
theorem Q5(n v):zcu (Ju n v) = .lst (zQ n v):=by simp [zcu,Ju,zW,zim,zjp]
theorem Q4(h v f):zct (Zk h v f) = .lst (qU h v f):=by
 unfold zct Zk qU;rw [zim];congr 1;exact zht λi _=>Q5 v (f i)
theorem Q7(w wd T m):zaG (j9 w wd T m) = .lst (qY w wd T m):=by
 unfold zaG j9 qY;rw [zim];congr 1;exact zht λk _=>Q4 _ _ _
theorem xK : ∀(l:List Int),xi (l.map D.int)=some l
 | []=>rfl
 | i::l=>by show(xi (l.map D.int)).map _=_;rw [xK l];rfl
theorem YD(n v):xi (zQ n v)=some (Ju n v):=by
 have:zQ n v=(Ju n v).map D.int:=by simp [Ju,zW,zim,zjp]
 rw [this,xK]
theorem VI{n:Nat}{u v:Vc}(h : ∀i,i<n->u i=v i):Ju n u=Ju n v:=zht λi hi=>h i (zhp.mp hi)
theorem Vw{h v:Nat}{f g:Nat->Nat->Int}(e : ∀i,i<h->∀j,j<v->f i j=g i j):Zk h v f=Zk h v g:=zht λi hi=>VI (e i (zhp.mp hi))
theorem jI{w:Nat->Bool}{wd:Nat->Nat}{T U:Nat->Nat->Nat->Int}{m:Nat}(e : ∀k,k<m->∀i,i<hiW w wd k->∀j,j<wiW w wd k->T k i j=U k i j):j9 w wd T m=j9 w wd U m:=zht λk z=>Vw (e k (zhp.mp z))
theorem yV{α:Type}{n b:Nat}{f:Nat->α}{x:α}(z:b<n):((zhf n).map f).set b x=(zhf n).map λi=>if i=b then x else f i:=by
 apply zjb;intro i;rw [List.getElem?_set];by_cases h:b=i
 ·subst h;simp [z]
 ·by_cases hi:i<n
  ·simp [h,hi,zic h]
  ·simp [h,hi]
theorem VG{n b:Nat}{v:Vc}{x:Int}(z:b<n):(Ju n v).set b x=Ju n λj=>if j=b then x else v j:=yV z
theorem Qc{h v b:Nat}{f:Nat->Nat->Int}{g:Vc}(z:b<h):(Zk h v f).set b (Ju v g)=Zk h v λi=>if i=b then g else f i:=by
 unfold Zk;rw [yV z];refine zht λi _=>?_;by_cases e:i=b
 ·rw [if_pos e];exact congrArg (Ju v) (if_pos e).symm
 ·rw [if_neg e];exact congrArg (Ju v) (if_neg e).symm
theorem Qk{w:Nat->Bool}{wd:Nat->Nat}{T:Nat->Nat->Nat->Int}{m k:Nat}{f:Nat->Nat->Int}(I:k<m):(j9 w wd T m).set k (Zk (hiW w wd k) (wiW w wd k) f)=j9 w wd (λz=>if z=k then f else T z) m:=by
 unfold j9;rw [yV I];refine zht λz _=>?_;by_cases e:z=k
 ·subst e;rw [if_pos rfl];exact congrArg (Zk _ _) (if_pos rfl).symm
 ·rw [if_neg e];exact congrArg (Zk _ _) (if_neg e).symm
theorem yo{w:Nat->Bool}{wd:Nat->Nat}{T:Nat->Nat->Nat->Int}{m k:Nat}(z:k<m):(j9 w wd T m)[k]? = some (Zk (hiW w wd k) (wiW w wd k) (T k)):=by simp [j9,z]
theorem Vv{h v i:Nat}{f:Nat->Nat->Int}(hi:i<h):(Zk h v f)[i]? = some (Ju v (f i)):=by simp [Zk,hi]
theorem qD{T:Tg}{F:YF}(P:Nat->Ctx->TT->Prop) : ∀(ds:List D) (k:Nat) (γ:Ctx) (Z:TT),P k γ Z->(∀i d γ Z,ds[i]? = some d->P (k+i) γ Z->∃γ1 r,jN T d γ=some γ1/\F γ1 Z=some r/\P (k+i+1) r.1 r.2)->∃r,Zl T F ds γ Z=some r/\P (k+ds.length) r.1 r.2
 | [],k,γ,Z,h,_=>⟨(γ,Z),rfl,h⟩
 | d::ds,k,γ,Z,h,step=>by
  obtain⟨γ1,r,e1,e2,h2⟩:=step 0 d γ Z rfl h;obtain⟨r',z,I⟩:=qD P ds (k+1) r.1 r.2 h2 λi d' γ' Z' hd J=>by
   have:=step (i+1) d' γ' Z' (by simpa using hd) (by rw [show k+(i+1)=k+1+i by omega];exact J);rw [show k+(i+1)+1=k+1+i+1 by omega]at this;exact this
  refine⟨r',?_,by rw [zhJ,show k+(ds.length+1)=k+1+ds.length by omega];exact I⟩;show(jN T d γ).bind _=_;rw [e1,zhd,e2,zhd];exact z
theorem VD{j k N:Nat}{F:Nat->YF}(P:Nat->Ctx->TT->Prop){γ:Ctx}{Z:TT}(h0:P 0 γ Z)(step : ∀m γ Z,m<N->P m γ Z->j<γ.length/\∃r,F m (γ.set j .no) Z=some r/\(r.2[k]?).map ziQ=some N/\P (m+1) r.1 r.2) : ∃r,yF j F k N N γ Z=some r/\P N r.1 r.2:=by
 have z : ∀n γ Z,n<=N->P (N - n) γ Z->∃r,yF j F k N n γ Z=some r/\P N r.1 r.2:=by
  intro n
  induction n with
  | zero=>exact λγ Z _ h=>⟨(γ,Z),rfl,h⟩
  | succ n I=>
   intro γ Z hn h;obtain⟨Y,r,e1,e2,h2⟩:=step (N - (n+1)) γ Z ⋯ h;rw [show N - (n+1)+1=N - n by omega]at h2;obtain⟨r',J,O⟩:=I r.1 r.2 ⋯ h2;refine⟨r',?_,O⟩;show(if γ.length<=j then none else _)=_;rw [if_neg ⋯,e1,zhd,if_pos e2];exact J
 exact z N γ Z (zhn _) (by rw [Nat.sub_self];exact h0)
theorem Jw{F G:YF}{γ γ':Ctx}{Z Z':TT}{r:Option (Ctx×TT)}(h:F γ Z=some (γ',Z'))(g:G γ' Z'=r):vC F G γ Z=r:=by
 show(F γ Z).bind _=_;rw [h];exact g
theorem xQ{t:CO Bool}{F:YF}{γ:Ctx}{Z:TT}(h:t γ=some false):yIf t F γ Z=some (γ,Z):=by
 show(t γ).bind _=_;rw [h];rfl
theorem wz{t:CO Bool}{F:YF}{γ:Ctx}{Z:TT}(h:t γ=some true):yIf t F γ Z=F γ Z:=by
 show(t γ).bind _=_;rw [h];rfl
def wH:CO D:=sIx (jZ (zJ (zY (ze 0)) (.nm 0) 1 [0,6] (sB (zq dEq (zq qm (zq qw (ze 0) (ze 2)) (ze 1)) (zo (.int 1)))) (ze 0))) (zo (.int 0))
def tE1:CO Bool:=yU (sB (zq dEq (ze 11) (ze 3))) (sB (zq dEq (ze 4) (ze 5)))
def tE2:CO Bool:=yU (sB (zq dEq (ze 11) (ze 3))) (sB (zq dNe (ze 4) (ze 5)))
def tB1:CO Bool:=yU (sB (zq dEq (ze 10) (ze 3))) (sB (zq dEq (ze 4) (ze 5)))
def tB2:CO Bool:=yU (sB (zq dEq (ze 10) (ze 3))) (sB (zq dNe (ze 4) (ze 5)))
def cpA:CO (List D):=zJ (zG (zH (sIx (zk 12) (ze 5)))) (.nm 0) 1 [0,6] jF (zq qm (zq qw (ze 2) (ze 0)) (ze 1))
def cpB:CO (List D):=zJ (VW (sIx (zk 12) (ze 4)) (sIx (zk 12) (ze 5))) (.tp [0,1]) 2 [0,6] jF (zq qm (zq jH (ze 1) (zq qw (ze 3) (ze 0))) (ze 2))
def enA:CO D:=zq qm (zq qw (ze 7) (sIx (zk 13) (ze 5))) (ze 0)
def enB:CO D:=zq qm (zq ye (sIx (zk 13) (ze 4)) (zq qw (ze 6) (sIx (zk 13) (ze 5)))) (ze 0)
def Kz(k m:Nat):YF:=vC (yIf tB1 (xX 13 (ze 5) enA k m)) (yIf tB2 (xX 13 (ze 4) enB k m))
def zcO(k:Nat):YF:=vC (yIf tE1 (xW 12 (ze 5) cpA k)) (vC (yIf tE2 (xW 12 (ze 5) cpB k)) (xY [12,2] 13 (Kz k) k))
def KA:YF:=vC (Jt [2] (.tp [10,11]) (zE F_law_ends_k22 (zc (ze 8) (zc (ze 9) zz)))) (zcl [2] 12 (ze 8) zcO)
theorem VS:F_law_step=zfj 14 2 (vC (Jt [2] (.nm 7) wH) (Zh [2] (qp (ze 1)) (.tp [8,9]) KA)):=rfl
abbrev cst(p:Int)(m:Nat)(w:Nat->Bool)(r a b:Nat)(t:Int)(o c8 c9 c10 c11 c12 c13:Cell):Ctx:=[.val (.int p),.val (.str (qf m w)),.no,.val (.int r),.val (.int a),.val (.int b),.val (.int t),o,c8,c9,c10,c11,c12,c13]
section
variable{p:Int}{m:Nat}{w:Nat->Bool}{wd:Nat->Nat}{U:Nat->Nat->Nat->Int}{r a b k:Nat}{t o c c':Int}{c8 c9 c10 c11 c12 c13:Cell}
theorem Ku(e:Nat):tE1 (cst p m w r a b t c8 c9 c10 c11 (.val (.int e)) c12 c13)=some (decide (e=r/\a=b)):=by
 by_cases h1:e=r<;>by_cases h2:a=b<;>simp [tE1,h1,h2]<;>omega
theorem Kt(e:Nat):tE2 (cst p m w r a b t c8 c9 c10 c11 (.val (.int e)) c12 c13)=some (decide (e=r/\a≠b)):=by
 by_cases h1:e=r<;>by_cases h2:a=b<;>simp [tE2,h1,h2]<;>omega
theorem Qn(e:Nat):tB1 (cst p m w r a b t c8 c9 c10 (.val (.int e)) c11 c12 c13)=some (decide (e=r/\a=b)):=by
 by_cases h1:e=r<;>by_cases h2:a=b<;>simp [tB1,h1,h2]<;>omega
theorem Qm(e:Nat):tB2 (cst p m w r a b t c8 c9 c10 (.val (.int e)) c11 c12 c13)=some (decide (e=r/\a≠b)):=by
 by_cases h1:e=r<;>by_cases h2:a=b<;>simp [tB2,h1,h2]<;>omega
theorem zec(I:0<p)(Y:0<=t/\t<=7){h v:Nat}(J:v<=lim)(f:Nat->Nat->Int)(z:b<h):cpA (cst p m w r a b t c8 c9 c10 c11 c12 (.val (.lst (qU h v f))) c13)=some (zQ v λj=>t*f b j%p):=by
 have e:(qU h v f)[b]? = some (.lst (zQ v (f b))):=by simp [qU,z]
 have O : ∀x,vE t x=true:=λx=>qL _ _ ⋯ ⋯;unfold cpA;simp only [qX,qW,qj,kM,jT,jk,zhj,zhk,zx,zM,xU,zhd,zhF,jh,ya,jt,z,if_true,e,xL,J];rw [zW,zW];refine zA _ _ λj hj=>zC rfl rfl ?_;simp [jn,qh,O,I]
theorem zeb(J:0<p)(ht:0<=t/\t<=7){h v:Nat}(O:v<=lim)(f:Nat->Nat->Int)(ha:a<h)(I:b<h):cpB (cst p m w r a b t c8 c9 c10 c11 c12 (.val (.lst (qU h v f))) c13)=some (zQ v λj=>(f b j+t*f a j)%p):=by
 have e1:(qU h v f)[b]? = some (.lst (zQ v (f b))):=by simp [qU,I]
 have e2:(qU h v f)[a]? = some (.lst (zQ v (f a))):=by simp [qU,ha]
 have Y : ∀x,vE t x=true:=λx=>qL _ _ ⋯ ⋯;have z:=wy v (f a) (f b);unfold cpB;simp only [qX,zeh,kM,jT,jk,zhj,zhk,zx,zM,xU,zhd,zhF,jh,ya,jt,I,ha,if_true,e1,e2,z,zhB,zhX,O];rw [zW];refine zA _ _ λj hj=>zC rfl rfl ?_;simp [jn,qh,Y,J]
theorem zd5(z:0<p)(O:0<=o/\o<=7){v:Nat}(f:Vc)(I:b<v):enA (cst p m w r a b t (.val (.int o)) c8 c9 c10 c11 c12 (.val (.lst (zQ v f))))=some (.int (o*f b%p)):=by
 have J : ∀x,vE o x=true:=λx=>qL _ _ ⋯ ⋯;unfold enA;simp [I,J,z]
theorem zd4(z:0<p)(O:0<=t/\t<=7){v:Nat}(f:Vc)(ha:a<v)(I:b<v):enB (cst p m w r a b t c8 c9 c10 c11 c12 c13 (.val (.lst (zQ v f))))=some (.int ((f a - t*f b)%p)):=by
 have J : ∀x,vE t x=true:=λx=>qL _ _ ⋯ ⋯;unfold enB;simp [ha,I,J,z,ye,dI]
end
section
variable{p:Int}{m:Nat}{w:Nat->Bool}{wd:Nat->Nat}{U:Nat->Nat->Nat->Int}{r a b k:Nat}{t o c c':Int}{c8 c9 c10 c11 c12 c13:Cell}
theorem ZK{γ:Ctx}{f:CO (List D)}{g:Vc}(z:k<m)(I:b<hiW w wd k)(O:γ[5]? = some (.val (.int b)))(Y:f (γ.set 12 (.val (.lst (qU (hiW w wd k) (wiW w wd k) (U k)))))=some (zQ (wiW w wd k) g)) :
 xW 12 (ze 5) f k γ (j9 w wd U m)=some (γ,j9 w wd (λJ=>if J=k then (λi=>if i=b then g else U k i)else U J) m):=by
 unfold xW;rw [yo z,zhd,Q4,Y,zhd,YD,zhd,jk,O];simp only [zx,zhd,jh,Qd,jt,I,if_true,zhF,Qc I,Qk z]
theorem ZL{γ:Ctx}{s i q:Nat}{e:CO D}{x:Int}(z:k<m)(hi:i<hiW w wd k)(I:q<wiW w wd k)(Y:γ[s]? = some (.val (.int q)))(he:e (γ.set 13 (.val (.lst (zQ (wiW w wd k) (U k i)))))=some (.int x)) :
 xX 13 (ze s) e k i γ (j9 w wd U m)=some (γ,j9 w wd (λJ=>if J=k then (λO=>if O=i then (λj=>if j=q then x else U k i j)else U k O)else U J) m):=by
 unfold xX;rw [yo z,zhd,Vv hi,zhd,Q5,he,zhd,jh,zhd,jk,Y];simp only [zx,zhd,jh,VH,jt,I,if_true,zhF,VG I,Qc hi,Qk z]
theorem Z9{γ:Ctx}(hγ:(γ.set 13 .no)=γ)(hl:13<γ.length)(O:k<m){F:Nat->YF}{V:Nat->Vc}
 (h : ∀i J,i<hiW w wd k->J k i=U k i->F i γ (j9 w wd J m)=some (γ,j9 w wd (λz=>if z=k then (λI=>if I=i then V i else J k I)else J z) m)) :
 xY [12,2] 13 F k γ (j9 w wd U m)=some (γ,j9 w wd (λz=>if z=k then V else U z) m):=by
 unfold xY;rw [if_neg ⋯,yo O,zhd,Qd];obtain⟨r,e,h1,h2⟩:=VD (j:=13) (k:=k) (N:=hiW w wd k) (F:=F) (λi γ' Z=>γ'=γ/\Z=j9 w wd (λz=>if z=k then (λI=>if I<i then V I else U k I)else U z) m) (γ:=γ) (Z:=j9 w wd U m)
  ⟨rfl,jI λz _ I _ j _=>by
   by_cases e:z=k
   ·subst e;simp
   ·simp [e]⟩ (by
  rintro i γ' Z hi ⟨rfl,rfl⟩;refine⟨hl,_,by rw [hγ];exact h i _ hi ⋯,?_,rfl,?_⟩
  ·simp [yo O]
  ·refine jI λz _ I _ j _=>?_
   by_cases e:z=k
   ·subst e
    simp only [if_true];by_cases e2:I=i
    ·subst e2;simp
    ·simp only [if_neg e2]
     by_cases Y:I<i
     ·rw [if_pos Y,if_pos ⋯]
     ·rw [if_neg Y,if_neg ⋯]
   ·simp [e])
 rw [e];obtain⟨r1,r2⟩:=r;dsimp only at h1 h2;rw [h1,h2];congr 2;refine jI λz _ I a2 j _=>?_;by_cases e:z=k
 ·subst e;simp [a2]
 ·simp [e]
def CC(a b:Nat)(t o c c':Int):Prop:=(a=b/\c=t - 1/\c'=o - 1)\/(a≠b/\c=t/\c' = -t)
theorem za1(hp:0<p)(ht:0<=t/\t<=7)(ho:0<=o/\o<=7)(a6:CC a b t o c c')(ae : ∀k,wd k<=7)(ha:a<wd r)(hb:b<wd r)(hk:k<m) :
 zcO k (cst p m w r a b t (.val (.int o)) c8 c9 (.val (.int ((begR w k:Nat):Int))) (.val (.int ((endR w k:Nat):Int))) .no .no) (j9 w wd U m)=some (cst p m w r a b t (.val (.int o)) c8 c9 (.val (.int ((begR w k:Nat):Int))) (.val (.int ((endR w k:Nat):Int))) .no .no,j9 w wd (λI=>if I=k then jU p w r a b c c' U k else U I) m):=by
 have hl:=jM;have a8:wiW w wd k<=lim:=by rw [Zm];have:=ae (begR w k);omega
 by_cases he:endR w k=r
 ·have a9:begR w k≠r:=λz=>yb w k (by rw [he,z])
  have af:a<hiW w wd k:=by rw [Z4,he];exact ha
  have a3:b<hiW w wd k:=by rw [Z4,he];exact hb
  have aa : ∀Y,xY [12,2] 13 (Kz k) k (cst p m w r a b t (.val (.int o)) c8 c9 (.val (.int ((begR w k:Nat):Int))) (.val (.int ((endR w k:Nat):Int))) .no .no) (j9 w wd Y m)=some (cst p m w r a b t (.val (.int o)) c8 c9 (.val (.int ((begR w k:Nat):Int))) (.val (.int ((endR w k:Nat):Int))) .no .no,j9 w wd Y m):=λY=>by
   rw [Z9 (U:=Y) (V:=Y k) rfl (by show 13<14;decide) hk (F:=Kz k) λi U2 hi e=>?_]
   ·congr 2
    refine jI λI _ i _ j _=>?_;by_cases z:I=k
    ·subst z;simp
    ·simp [z]
   ·refine Jw (xQ (by rw [Qn,decide_eq_false (λz=>a9 z.1)])) (zjw (xQ (by rw [Qm,decide_eq_false (λz=>a9 z.1)])) ?_)
    congr 2;refine jI λI _ i' _ j _=>?_;by_cases z:I=k
    ·subst z
     by_cases z2:i'=i
     ·subst z2;simp [e]
     ·simp [z2]
    ·simp [z]
  rcases a6 with⟨J,rfl,rfl⟩ | ⟨J,rfl,rfl⟩
  ·refine Jw (zjw (wz (by rw [Ku,decide_eq_true ⟨he,J⟩])) (ZK hk a3 rfl (zec hp ht a8 (U k) a3))) (Jw (xQ (by rw [Kt,decide_eq_false (λz=>z.2 J)])) (zjw (aa _) ?_))
   congr 2;refine jI λI _ i _ j _=>?_;by_cases z:I=k
   ·subst z
    simp only [if_true];unfold jU;rw [if_pos he];by_cases z2:i=b
    ·rw [if_pos z2,if_pos z2,<- J]
     congr 1
     grind
    ·rw [if_neg z2,if_neg z2]
   ·simp [z]
  ·refine Jw (xQ (by rw [Ku,decide_eq_false (λz=>J z.2)])) (Jw (zjw (wz (by rw [Kt,decide_eq_true ⟨he,J⟩])) (ZK hk a3 rfl (zeb hp ht a8 (U k) af a3))) (zjw (aa _) ?_))
   congr 2;refine jI λI _ i _ j _=>?_;by_cases z:I=k
   ·subst z
    simp only [if_true];unfold jU;rw [if_pos he];by_cases z2:i=b
    ·rw [if_pos z2,if_pos z2]
    ·rw [if_neg z2,if_neg z2]
   ·simp [z]
 ·refine Jw (xQ (by rw [Ku,decide_eq_false (λz=>he z.1)])) (Jw (xQ (by rw [Kt,decide_eq_false (λz=>he z.1)])) ?_)
  refine Z9 (V:=jU p w r a b c c' U k) rfl (by show 13<14;decide) hk λi Y hi e=>?_;by_cases O:begR w k=r
  ·have ab:a<wiW w wd k:=by rw [Zm,O];exact ha
   have a5:b<wiW w wd k:=by rw [Zm,O];exact hb
   rcases a6 with⟨J,rfl,rfl⟩ | ⟨J,rfl,rfl⟩
   ·refine Jw (zjw (wz (by rw [Qn,decide_eq_true ⟨O,J⟩])) (ZL (s:=5) (q:=b) hk hi a5 rfl (zd5 hp ho (Y k i) a5))) (zjw (xQ (by rw [Qm,decide_eq_false (λz=>z.2 J)])) ?_)
    congr 2;refine jI λI _ i' _ j _=>?_;by_cases z:I=k
    ·subst z
     simp only [if_true];by_cases z2:i'=i
     ·subst z2
      simp only [if_true];unfold jU;rw [if_neg he,if_pos O,e,J];by_cases z3:j=b
      ·rw [if_pos z3,if_pos z3]
       congr 1
       grind
      ·rw [if_neg z3,if_neg z3]
     ·simp [z2]
    ·simp [z]
   ·refine Jw (xQ (by rw [Qn,decide_eq_false (λz=>J z.2)])) (zjw (zjw (wz (by rw [Qm,decide_eq_true ⟨O,J⟩])) (ZL (s:=4) (q:=a) hk hi ab rfl (zd4 hp ht (Y k i) ab a5))) ?_)
    congr 2;refine jI λI _ i' _ j _=>?_;by_cases z:I=k
    ·subst z
     simp only [if_true];by_cases z2:i'=i
     ·subst z2
      simp only [if_true];unfold jU;rw [if_neg he,if_pos O,e];by_cases z3:j=a
      ·rw [if_pos z3,if_pos z3]
       congr 1
       grind
      ·rw [if_neg z3,if_neg z3]
     ·simp [z2]
    ·simp [z]
  ·refine Jw (xQ (by rw [Qn,decide_eq_false (λz=>O z.1)])) (zjw (xQ (by rw [Qm,decide_eq_false (λz=>O z.1)])) ?_)
   congr 2;refine jI λI _ i' _ j _=>?_;by_cases z:I=k
   ·subst z
    simp only [if_true];by_cases z2:i'=i
    ·subst z2
     simp only [if_true];rw [Jo he O,e]
    ·simp [z2]
   ·simp [z]
theorem zbD(z:Pr p)(O:1<=t/\t<p) : ∃o:Int,0<=o/\o<p/\o*t%p=1/\wH (cst p m w r a b t .no c8 c9 c10 c11 c12 c13)=some (.int o):=by
 have hl:=jM;have h7:=z.le;obtain⟨y,y1,y2,Y⟩:=zaC z (x:=t) ⋯ O.2;obtain⟨q,hq⟩:=ziu (show 0<=p by omega);subst hq;have I:z7 (.nm 0) (sB (zq dEq (zq qm (zq qw (ze 0) (ze 2)) (ze 1)) (zo (.int 1)))) (ze 0) [Cell.no,Cell.val (.int q),Cell.val (.int t)] ((zhf q).map λ(i:Nat)=>D.int i)=some (((zhf q).filter λ(i:Nat)=>decide ((i:Int)*t%q=1)).map λ(i:Nat)=>D.int i):=by
  refine jY _ _ _ λi hi=>⟨_,rfl,?_,λ_=>rfl⟩;have a5:=zhp.mp hi;simp [qL (i:Int) t ⋯ ⋯,show 0<q by omega]
 cases hg:(zhf q).filter λ(i:Nat)=>decide ((i:Int)*t%q=1)with
 | nil=>
  have:=Yn hg y ⋯;simp [Y]at this
 | cons x j3=>
  obtain⟨h1,h2,_⟩:=Jb hg;refine⟨x,by omega,by omega,by simpa using h2,?_⟩;rw [hg]at I;unfold wH;have J:q<=lim:=by omega
  simp only [kM,Vh,qX,xA,jk,xh,zhj,zhk,zx,zhd,jh,x9 J,if_true,zib,jQ,xL,J];rw [zW q λi=>(i:Int)];show((z7 _ _ _ [Cell.no,Cell.val (.int q),Cell.val (.int t)] _).map _).bind _=_;rw [I];simp [ixD]
theorem Zg(J:Pr p)(ht:1<=t/\t<p)(a3 : ∀k,wd k<=7)(hm:m<=20)(ha:a<wd r)(hb:b<wd r) :
 ∃c c':Int,(c+c'+(if a=b then c*c' else 0))%p=0/\∀U,F_law_step [.int p,.str (qf m w)] [.int r,.int a,.int b,.int t] (j9 w wd U m)=some (j9 w wd (jU p w r a b c c' U) m):=by
 have h7:=J.le;have two:=J.two;have hs:=xF w (show m<=1000 by omega);obtain⟨o,o1,o2,o3,oe⟩:=zbD (m:=m) (w:=w) (r:=r) (a:=a) (b:=b) (c8:= .no) (c9:= .no) (c10:= .no) (c11:= .no) (c12:= .no) (c13:= .no) J ht;obtain⟨c,c',a8,hc⟩ : ∃c c':Int,CC a b t o c c'/\(c+c'+(if a=b then c*c' else 0))%p=0:=by
  by_cases O:a=b
  ·refine⟨t - 1,o - 1,.inl ⟨O,rfl,rfl⟩,?_⟩
   rw [if_pos O,show t - 1+(o - 1)+(t - 1)*(o - 1)=o*t - 1 by grind,zjv,o3,J.one];simp
  ·refine⟨t,-t,.inr ⟨O,rfl,rfl⟩,?_⟩
   rw [if_neg O,zi7,Int.add_right_neg];rfl
 refine⟨c,c',hc,λU=>?_⟩;rw [VS];show(vC _ _ (cst p m w r a b t .no .no .no .no .no .no .no) (j9 w wd U m)).map _=_;obtain⟨x,e,h1⟩:=qD (T:= .tp [8,9]) (F:=KA) (λk γ Z=>(∃c8 c9 c10 c11,γ=cst p m w r a b t (.val (.int o)) c8 c9 c10 c11 .no .no)/\Z=j9 w wd (λI=>if I<k then jU p w r a b c c' U I else U I) m)
  ((zhf m).map λ(k:Nat)=>D.tup [.int k,.str (qG (wch (w k)))]) 0 (cst p m w r a b t (.val (.int o)) .no .no .no .no .no .no) (j9 w wd U m) ⟨⟨.no,.no,.no,.no,rfl⟩,jI λI _ i _ j _=>by simp⟩ (by
  rintro k d γ Z hd ⟨⟨c8,c9,c10,c11,rfl⟩,rfl⟩;rw [zjM]at *;obtain⟨Y,rfl⟩:k<m/\d=D.tup [.int k,.str (qG (wch (w k)))]:=by
   rw [zhz]at hd;obtain⟨I,q1,q2⟩:=zi0.mp hd;obtain⟨q3,q4⟩:=zhg.mp q1;rw [zhX]at q3;rw [zjn]at q4;subst q4;exact⟨q3,q2.symm⟩
  have e1:Jt [2] (.tp [10,11]) (zE F_law_ends_k22 (zc (ze 8) (zc (ze 9) zz))) (cst p m w r a b t (.val (.int o)) (.val (.int k)) (.val (.str (qG (wch (w k))))) c10 c11 .no .no) (j9 w wd (λI=>if I<k then jU p w r a b c c' U I else U I) m)=some (cst p m w r a b t (.val (.int o)) (.val (.int k)) (.val (.str (qG (wch (w k))))) (.val (.int ((begR w k:Nat):Int))) (.val (.int ((endR w k:Nat):Int))) .no .no,j9 w wd (λI=>if I<k then jU p w r a b c c' U I else U I) m):=by
   unfold Jt;rw [if_pos (by rfl),xC];simp only [xB,yh,jk,zhj,zhk,zx,zhd,zhF,JY,qM,vv,zie,zid]
  refine⟨cst p m w r a b t (.val (.int o)) (.val (.int k)) (.val (.str (qG (wch (w k))))) c10 c11 .no .no,(cst p m w r a b t (.val (.int o)) (.val (.int k)) (.val (.str (qG (wch (w k))))) (.val (.int ((begR w k:Nat):Int))) (.val (.int ((endR w k:Nat):Int))) .no .no,j9 w wd (λI=>if I=k then jU p w r a b c c' (λI=>if I<k then jU p w r a b c c' U I else U I) k else (λI=>if I<k then jU p w r a b c c' U I else U I) I) m),rfl,Jw e1 ?_,⟨_,_,_,_,rfl⟩,?_⟩
  ·unfold zcl
   rw [if_neg ⋯,jk];simp only [zhj,zhk,zx,zhd,jh,Ql,jt,Y,if_true,zie,zid];exact za1 ⋯ ⋯ ⋯ a8 a3 ha hb Y
  ·refine jI λI _ i _ j _=>?_
   by_cases z:I=k
   ·subst z
    rw [if_pos rfl,if_pos ⋯];unfold jU;simp
   ·rw [if_neg z]
    by_cases z2:I<k
    ·simp only [if_pos z2,if_pos (show I<k+1 by omega)]
    ·simp only [if_neg z2,if_neg (show ¬I<k+1 by omega)])
 obtain⟨⟨c8,c9,c10,c11,h1⟩,h2⟩:=h1;have e0:Jt [2] (.nm 7) wH (cst p m w r a b t .no .no .no .no .no .no .no) (j9 w wd U m)=some (cst p m w r a b t (.val (.int o)) .no .no .no .no .no .no,j9 w wd U m):=by
  unfold Jt;rw [if_pos (by rfl),oe];rfl
 rw [Jw e0 (r:=some x) ?_]
 ·rw [zhF,h2]
  congr 1;refine jI λI ae i _ j _=>?_;rw [if_pos (by simpa using ae)]
 ·unfold Zh
  rw [if_pos (by rfl)];have src:qp (ze 1) (cst p m w r a b t (.val (.int o)) .no .no .no .no .no .no)=some ((zhf m).map λ(k:Nat)=>D.tup [.int k,.str (qG (wch (w k)))]):=by
   simp only [vz,jk,zhj,zhk,zx,zhd,hs,if_true,k8]
  rw [src];exact e
end
def zfv:CO (List D):=zJ (zY (yP (zk 1))) (.nm 0) 1 [0,1] (sB (yc dLe dLe (sIx (zH (sIx (zk 2) (ze 0))) (zo (.int 0))) (ze 1) (sIx (zH (sIx (zk 2) (ze 0))) (zo (.int 1))))) (ze 0)
def ld1:CO Fl:=jv 2 (qu (zJ (zY (zq jH (Xx (ze 0)) (zo (.int 1)))) (.nm 0) 1 [1] jF (qu zfv)))
def zdE:CO (List D):=zJ (zG (zH (sIx (zk 1) (ze 2)))) (.nm 0) 1 [0] jF (VY (zq dEq (ze 1) (ze 0)))
def WE:CO (List (List D)):=ZB (zG (zH (sIx (zk 2) (ze 7)))) (.nm 0) 1 [2,6] zdE
def ldB:YF:=vC (Jt [3] (.tp [6,7]) (zE F_law_ends_k22 (zc (ze 4) (zc (ze 5) zz)))) (zcy WE)
def ldW:CO D:=qu (zJ (zG (zk 2)) (.nm 0) 1 [] jF (yP (zk 0)))
theorem WH:F_law_laid=zbe 8 (zfy ld1 (zcr 3 (Zh [3] (qp (ze 0)) (.tp [4,5]) ldB) ldW)):=rfl
def bS(bs:List (Int×Int))(j:Nat):Nat:=(bs.getD j (0,0)).1.toNat
def bE(bs:List (Int×Int))(j:Nat):Nat:=(bs.getD j (0,0)).2.toNat
abbrev bW(bs:List (Int×Int)):Nat->Nat:=Vr (bS bs) (bE bs) bs.length
abbrev bT(w:Nat->Bool)(bs:List (Int×Int)):Nat->Nat->Nat->Int:=WF w (bS bs) (bE bs) bs.length
abbrev bL(bs:List (Int×Int))(r:Nat):List Nat:=jE (bS bs) (bE bs) bs.length r
def wV(l:List Nat):List D:=l.map λ(j:Nat)=>D.int j
def j1(bs:List (Int×Int))(m:Nat):D:= .lst ((zhf (m+1)).map λr=>D.lst (wV (bL bs r)))
section
variable{bs:List (Int×Int)}{m:Nat}{w:Nat->Bool}
theorem Vb(h : ∀b∈bs,Vu ((m+1:Nat):Int) b){j:Nat}(z:j<bs.length):bs[j]? = some ((bS bs j:Int),(bE bs j:Int))/\bS bs j<=bE bs j/\bE bs j<=m:=by
 have e:=zhe z;have I:=h _ (zhE e);obtain⟨h1,h2,J⟩:=I;unfold bS bE;rw [zhh,e,zkz];refine⟨?_,by omega,by omega⟩;congr 1;exact Prod.ext (by dsimp only;omega) (by dsimp only;omega)
theorem zbN(h : ∀b∈bs,Vu ((m+1:Nat):Int) b)(hb:bs.length<=60)(r:Nat):zfv [.val (.int r),.val (.lst (zP bs))]=some (wV (bL bs r)):=by
 have hl:=jM;have J:bs.length<=lim:=by omega
 unfold zfv;simp only [qX,xA,zem,jT,zhj,zhk,zM,xU,zhd,zhF,jh,kJ,x9 J,if_true,zib,jQ,xL,J];rw [zW bs.length λi=>(i:Int)];show z7 _ _ _ [Cell.no,Cell.val (.int r),Cell.val (.lst (zP bs))] _=_;rw [jY (λj=>(zfw (bS bs) (bE bs) j).has r) (λ(j:Nat)=>D.int j) _ λj I=>⟨[Cell.val (.int j),Cell.val (.int r),Cell.val (.lst (zP bs))],rfl,?_,λ_=>rfl⟩]
 ·rfl
 ·have I:=zhp.mp I
  obtain⟨e,h1,h2⟩:=Vb h I;have e2:(zP bs)[j]? = some (.tup [.int (bS bs j),.int (bE bs j)]):=by unfold zP;rw [zhz,e];rfl
  have O:(zfw (bS bs) (bE bs) j).has r=(decide (bS bs j<=r) && decide (r<=bE bs j)):=by
   show(decide (bS bs j<=r) && decide (r<bS bs j+(bE bs j - bS bs j+1)))=_;congr 1;exact decide_eq_decide.mpr ⋯
  rw [O];have Y:sIx (zH (sIx (zk 2) (ze 0))) (zo (.int 0)) [Cell.val (.int j),Cell.val (.int r),Cell.val (.lst (zP bs))]=some (.int (bS bs j)):=by
   simp only [kM,qj,jT,jk,xh,zhj,zhk,zx,zM,xU,zhd,jh,kJ,jt,I,if_true,e2];rfl
  have x1:sIx (zH (sIx (zk 2) (ze 0))) (zo (.int 1)) [Cell.val (.int j),Cell.val (.int r),Cell.val (.lst (zP bs))]=some (.int (bE bs j)):=by
   simp only [kM,qj,jT,jk,xh,zhj,zhk,zx,zM,xU,zhd,jh,kJ,jt,I,if_true,e2];rfl
  show(yc dLe dLe _ _ _ _).bind asB=_;unfold yc;simp only [Y,x1,jk,zhj,zhk,zx,zhd];by_cases z:bS bs j<=r<;>by_cases z2:r<=bE bs j<;>simp [dLe,dI,z,z2]
theorem va(l:List Nat):(wV l).length=l.length:=by simp [wV]
theorem wG{S E:Nat->Nat}{N r:Nat}:Vr S E N r<=N:=by
 unfold Vr jE ixs;exact zh3 (List.length_filter_le _ _) ⋯
theorem QP{α β:Type}(d:α)(f:α->β)(l:List α):l.map f=(zhf l.length).map λi=>f (l.getD i d):=by
 apply zjb;intro i;by_cases hi:i<l.length
 ·rw [zhz,zhe hi,zhz,ziX hi]
  simp [zhh,hi]
 ·rw [ziP (by simpa using hi),ziP (by simpa using hi)]
theorem ZC{f:Nat->List Int} : ∀(l:List Nat),KM (l.map λx=>(f x).map D.int)=some (l.map f)
 | []=>rfl
 | x::l=>by
  show(xi ((f x).map D.int)).bind _=_;rw [xK,zhd,ZC l];rfl
theorem WD(hb:bs.length<=60){k:Nat}(I:k<m)(J O Y c4 c5:Cell):(WE [J,O,.val (j1 bs m),Y,c4,c5,.val (.int ((begR w k:Nat):Int)),.val (.int ((endR w k:Nat):Int))]).bind KM=some (Zk (hiW w (bW bs) k) (wiW w (bW bs) k) (bT w bs k)):=by
 have hl:=jM;have h1:=YM w I;have h2:=Y8 w I;have g : ∀r,r<m+1->((zhf (m+1)).map λr=>D.lst (wV (bL bs r)))[r]? = some (D.lst (wV (bL bs r))):=λr hr=>by simp [hr]
 have l1 : ∀r,(bL bs r).length<=lim:=λr=>zh3 (wG (S:=bS bs) (E:=bE bs) (N:=bs.length)) ⋯;have e:WE [J,O,.val (j1 bs m),Y,c4,c5,.val (.int ((begR w k:Nat):Int)),.val (.int ((endR w k:Nat):Int))]=some ((bL bs (endR w k)).map λx=>((bL bs (begR w k)).map λy=>if x=y then (1:Int)else 0).map D.int):=by
  unfold WE j1;show(zi4 _ _)=_;simp only [qW,qj,kM,jT,jk,zhj,zhk,zx,zM,xU,zhd,zhF,jh,zhB,zhX,jt,h1,if_true,g _ h1,va,l1];refine Jf _ λx _=>⟨[.val (.int x),.val (j1 bs m),.val (.int ((begR w k:Nat):Int))],rfl,?_⟩;unfold zdE j1;simp only [qX,qW,qj,kM,jT,jk,zhj,zhk,zx,zM,xU,zhd,zhF,jh,zhB,zhX,jt,h2,if_true,g _ h2,va,l1];rw [zim];refine zA _ _ λy _=>zC rfl rfl ?_;by_cases z:x=y
  ·subst z;simp [jn,qh]
  ·have z' : ¬((x:Int)=(y:Int)):=λq=>z ⋯
   simp [jn,qh,z,z']
 rw [e,zhd,ZC,Z4,Zm];congr 1;rw [QP bs.length];refine zht λi _=>?_;rw [QP (bs.length+1)];rfl
theorem kO(h : ∀b∈bs,Vu ((m+1:Nat):Int) b)(J:bs.length<=60)(hm:m<=20):F_law_laid [.str (qf m w),.lst (zP bs)]=some (.lst (zQ (m+1) λr=>(bW bs r:Int)),j9 w (bW bs) (bT w bs) m):=by
 have hl:=jM;have I:m+1<=lim:=by omega
 have O:=xF w (show m<=1000 by omega);have s1:ld1 [.val (.str (qf m w)),.val (.lst (zP bs)),.no,.no,.no,.no,.no,.no]=some (.next [.val (.str (qf m w)),.val (.lst (zP bs)),.val (j1 bs m),.no,.no,.no,.no,.no]):=by
  unfold ld1;rw [Vg,Vi,qX,xA];simp only [Xf,zcj,jk,xh,zhj,zhk,zx,zhd,O,if_true,Qg,Q8,jh];rw [show((m:Int)+1)=((m+1:Nat):Int)by omega];simp only [x9 I,if_true,zib,zhd,jQ,xL,I];show(((z7 _ _ _ [Cell.no,Cell.val (.lst (zP bs))] (zQ (m+1) λi=>(i:Int))).map _).map _)=_;rw [zW,zA (λr=>D.lst (wV (bL bs r))) _ λr _=>zC (γ1:=[.val (.int r),.val (.lst (zP bs))]) rfl rfl (by rw [Vi,zbN h J];rfl)];rfl
 obtain⟨x,e,h1⟩:=qD (T:= .tp [4,5]) (F:=ldB) (λk γ Z=>(∃z c5 c6 c7,γ=[.val (.str (qf m w)),.val (.lst (zP bs)),.val (j1 bs m),.no,z,c5,c6,c7])/\Z=j9 w (bW bs) (bT w bs) k)
  ((zhf m).map λ(k:Nat)=>D.tup [.int k,.str (qG (wch (w k)))]) 0 [.val (.str (qf m w)),.val (.lst (zP bs)),.val (j1 bs m),.no,.no,.no,.no,.no] [] ⟨⟨.no,.no,.no,.no,rfl⟩,rfl⟩ (by
  rintro k d γ Z hd ⟨⟨z,c5,c6,c7,rfl⟩,rfl⟩;rw [zjM]at *;obtain⟨hk,rfl⟩:k<m/\d=D.tup [.int k,.str (qG (wch (w k)))]:=by
   rw [zhz]at hd;obtain⟨k',q1,q2⟩:=zi0.mp hd;obtain⟨Y,q4⟩:=zhg.mp q1;rw [zhX]at Y;rw [zjn]at q4;subst q4;exact⟨Y,q2.symm⟩
  refine⟨[.val (.str (qf m w)),.val (.lst (zP bs)),.val (j1 bs m),.no,.val (.int k),.val (.str (qG (wch (w k)))),c6,c7],([.val (.str (qf m w)),.val (.lst (zP bs)),.val (j1 bs m),.no,.val (.int k),.val (.str (qG (wch (w k)))),.val (.int ((begR w k:Nat):Int)),.val (.int ((endR w k:Nat):Int))],j9 w (bW bs) (bT w bs) (k+1)),rfl,
   Jw (γ':=[.val (.str (qf m w)),.val (.lst (zP bs)),.val (j1 bs m),.no,.val (.int k),.val (.str (qG (wch (w k)))),.val (.int ((begR w k:Nat):Int)),.val (.int ((endR w k:Nat):Int))]) (Z':=j9 w (bW bs) (bT w bs) k) ?_ ?_,⟨_,_,_,_,rfl⟩,rfl⟩
  ·unfold Jt
   rw [if_pos (by rfl),xC];simp only [xB,yh,jk,zhj,zhk,zx,zhd,zhF,JY,qM,vv,zie,zid]
  ·unfold zcy
   rw [WD J hk,zhd,Ql,if_pos ⋯];congr 2;simp [j9,ziD])
 obtain⟨x1,x2⟩:=x;obtain⟨⟨z,c5,c6,c7,h1⟩,h2⟩:=h1;dsimp only at h1 h2;subst h1 h2;rw [WH];show(ld1 [.val (.str (qf m w)),.val (.lst (zP bs)),.no,.no,.no,.no,.no,.no]).bind _=_;rw [s1];show zcr 3 (Zh [3] (qp (ze 0)) (.tp [4,5]) ldB) ldW [.val (.str (qf m w)),.val (.lst (zP bs)),.val (j1 bs m),.no,.no,.no,.no,.no]=_;unfold zcr;rw [if_pos ⟨rfl,by show 3<8;decide⟩];have src:qp (ze 0) [.val (.str (qf m w)),.val (.lst (zP bs)),.val (j1 bs m),.no,.no,.no,.no,.no]=some ((zhf m).map λ(k:Nat)=>D.tup [.int k,.str (qG (wch (w k)))]):=by
  simp only [vz,jk,zhj,zhk,zx,zhd,O,if_true,k8]
 have lp:Zh [3] (qp (ze 0)) (.tp [4,5]) ldB [.val (.str (qf m w)),.val (.lst (zP bs)),.val (j1 bs m),.no,.no,.no,.no,.no] []=some ([.val (.str (qf m w)),.val (.lst (zP bs)),.val (j1 bs m),.no,z,c5,c6,c7],j9 w (bW bs) (bT w bs) m):=by
  unfold Zh;rw [if_pos (by rfl),src,zhd,e];simp
 show(Zh [3] (qp (ze 0)) (.tp [4,5]) ldB [.val (.str (qf m w)),.val (.lst (zP bs)),.val (j1 bs m),.no,.no,.no,.no,.no] []).bind _=_;rw [lp,zhd];have wq:ldW [.val (.str (qf m w)),.val (.lst (zP bs)),.val (j1 bs m),.no,z,c5,c6,c7]=some (.lst (zQ (m+1) λr=>(bW bs r:Int))):=by
  unfold ldW j1;simp only [Vi,qX,qW,jT,zhj,zhk,zM,xU,zhd,zhF,zhB,zhX,I,if_true];rw [zW,zA (λr=>D.int (bW bs r:Int)) _ λr _=>zC (γ1:=[.val (.lst (wV (bL bs r)))]) rfl rfl (by show some (D.int ((wV (bL bs r)).length:Int))=_;rw [va];rfl)];rfl
 rw [wq];rfl
end
def btA:CO (List D):=zc (ze 2) (zc (ze 3) zz)
def btX:CO (List D):=zc (ze 7) (zc (zq qm (ze 10) (ze 8)) (zc (zq qm (zq yf (ze 10) (zo (.int 7))) (ze 8)) (zc (zq jH (zo (.int 1)) (zq qm (zq yf (ze 10) (zo (.int 49))) (zq ye (ze 2) (zo (.int 1))))) zz)))
def btC:CO D:=zE F_law_cell (zc (ze 0) (zc (zq jH (zq jH (ze 1) (zq qw (zo (.int 14)) (ze 7))) (ze 9)) zz))
def btI:YF:=vC (Jt [6] (.nm 10) btC) (VE F_law_step btA btX)
def btO:YF:=Zh [6] (zY (zq qw (zo (.int 2)) (ze 8))) (.nm 9) btI
theorem Y7:F_law_built=jy 11 (zZ (wJ 5 6 F_law_laid (zc (ze 3) (zc (ze 4) zz)) (vC (Zh [6] (yQ (ze 5)) (.tp [7,8]) btO) zcm)) (qo (zE F_law_row_k22 (zc (ze 2) (zc (ze 3) (zc (ze 5) (zc (ze 6) zz))))))):=rfl
abbrev cbt(ns:List Int)(at_ p:Int)(m:Nat)(w:Nat->Bool)(bs:List (Int×Int))(c6 c7 c8 c9 c10:Cell):Ctx:=[.val (Jd ns),.val (.int at_),.val (.int p),.val (.str (qf m w)),.val (.lst (zP bs)),.val (.lst (zQ (m+1) λr=>(bW bs r:Int))),c6,c7,c8,c9,c10]
structure Blt(p:Int)(m:Nat)(w:Nat->Bool)(bs:List (Int×Int))(T:Nat->Nat->Nat->Int):Prop where
 rng : ∀k x y,0<=T k x y/\T k x y<p
 dec : ∃A,Decp p w (bW bs) T m bs.length A/\keyN A bs.length=keyN (layB (bS bs) (bE bs) bs.length) bs.length
section
variable{ns:List Int}{at_ p:Int}{m:Nat}{w:Nat->Bool}{bs:List (Int×Int)}
theorem W4(z:Pr p){T:Nat->Nat->Nat->Int}(B:Blt p m w bs T){r a b:Nat}{c c':Int}(I:(c+c'+(if a=b then c*c' else 0))%p=0)(ha:a<bW bs r)(J:b<bW bs r):Blt p m w bs (jU p w r a b c c' T):=by
 obtain⟨A,D,e⟩:=B.dec;exact⟨VR z.pos B.rng,_,Kw z.pos I ha J D,e⟩
theorem Yo{x n:Int}(hx:0<=x)(hn:0<n) : ∃a:Nat,x%n=(a:Int)/\(a:Int)<n:=by
 obtain⟨a,ha⟩:=ziu (zh0 x (show n≠0 by omega));exact⟨a,ha,by rw [<- ha];exact zhP _ hn⟩
theorem W3(a1:ns.length<=63)(z:Pr p)(h0:0<=at_)(h2:at_<=1000)(hm:m<=5)(J : ∀k,bW bs k<=7){r q:Nat}(hr:r<=m)(hq:q<2*bW bs r){T:Nat->Nat->Nat->Int}(B:Blt p m w bs T)(c10:Cell) :
 ∃a2 O,btI (cbt ns at_ p m w bs .no (.val (.int r)) (.val (.int (bW bs r:Int))) (.val (.int q)) c10) (j9 w (bW bs) T m)=some (cbt ns at_ p m w bs .no (.val (.int r)) (.val (.int (bW bs r:Int))) (.val (.int q)) a2,j9 w (bW bs) O m)/\Blt p m w bs O:=by
 have two:=z.two;have h7:=z.le;have aj:=J r;have a3:vE 14 (r:Int)=true:=qL _ _ ⋯ ⋯;obtain⟨Y,y2,y3⟩:=w9 a1 (k:=at_+14*(r:Int)+(q:Int)) ⋯ ⋯;generalize qC ns (at_+14*(r:Int)+(q:Int))=x at Y y2 y3;obtain⟨a,ea,ha⟩:=Yo (x:=x) (n:=(bW bs r:Int)) y2 ⋯;obtain⟨b,eb,I⟩:=Yo (x:=x/7) (n:=(bW bs r:Int)) ⋯ ⋯;obtain⟨t,et,ht⟩:=Yo (x:=x/49) (n:=p - 1) ⋯ ⋯;have ha:a<bW bs r:=by omega
 have I:b<bW bs r:=by omega
 obtain⟨c,c',hc,st⟩:=Zg (m:=m) (w:=w) (wd:=bW bs) (r:=r) (a:=a) (b:=b) (t:=1+(t:Int)) z ⋯ J ⋯ ha I;have am:(0:Int)<(bW bs r:Int):=by omega
 refine⟨.val (.int x),_,Jw (γ':=cbt ns at_ p m w bs .no (.val (.int r)) (.val (.int (bW bs r:Int))) (.val (.int q)) (.val (.int x))) (Z':=j9 w (bW bs) T m) ?_ ?_,W4 z B hc ha I⟩
 ·unfold Jt
  rw [if_pos (by rfl)];unfold btC;simp only [xC,xB,yh,Xf,jk,xh,zhj,zhk,zx,zhd,zhF,Q6,a3,if_true,Q8,Y,qM,yC,zie,zid]
 ·unfold VE
  have A1:btA (cbt ns at_ p m w bs .no (.val (.int r)) (.val (.int (bW bs r:Int))) (.val (.int q)) (.val (.int x)))=some [.int p,.str (qf m w)]:=rfl;have A2:btX (cbt ns at_ p m w bs .no (.val (.int r)) (.val (.int (bW bs r:Int))) (.val (.int q)) (.val (.int x)))=some [.int r,.int a,.int b,.int (1+(t:Int))]:=by
   unfold btX;have c1:Vt x (bW bs r:Int)=true:=by simp [Vt];omega
   have c2:Vt (x/7) (bW bs r:Int)=true:=by simp [Vt];omega
   have c3:Vt (x/49) (p - 1)=true:=by simp [Vt];omega
   have c4:Y6 x 7=true:=by simp [Y6]
   have c5:Y6 x 49=true:=by simp [Y6]
   simp [qm,yf,ye,dIc,dI,c1,c2,c3,c4,c5,ea,eb,et]
  rw [A1,zhd,A2,zhd,st T];rfl
theorem vT(a3:ns.length<=63)(O:Pr p)(h0:0<=at_)(h2:at_<=1000)(hm:m<=5)(h : ∀b∈bs,Vu ((m+1:Nat):Int) b)(hb:bs.length<=7) :
 ∃T,F_law_built [Jd ns,.int at_,.int p,.str (qf m w),.lst (zP bs)]=some (.val (yt p m w (bW bs) T))/\Blt p m w bs T:=by
 have hl:=jM;have Y : ∀k,bW bs k<=7:=λk=>zh3 (wG (S:=bS bs) (E:=bE bs) (N:=bs.length)) hb;have B0:Blt p m w bs (bT w bs):=⟨QU O,_,QT O λj hj=>(Vb h hj).2,rfl⟩;obtain⟨x,e,h1⟩:=qD (T:= .tp [7,8]) (F:=btO) (λ_ γ Z=>(∃c7 c8 c9 c10,γ=cbt ns at_ p m w bs .no c7 c8 c9 c10)/\∃T,Z=j9 w (bW bs) T m/\Blt p m w bs T)
  ((zhf (m+1)).map λ(r:Nat)=>D.tup [.int r,.int (bW bs r:Int)]) 0 (cbt ns at_ p m w bs .no .no .no .no .no) (j9 w (bW bs) (bT w bs) m) ⟨⟨.no,.no,.no,.no,rfl⟩,_,rfl,B0⟩ (by
  rintro r d γ Z hd ⟨⟨c7,c8,c9,c10,rfl⟩,T,rfl,B⟩;obtain⟨hr,rfl⟩:r<m+1/\d=D.tup [.int r,.int (bW bs r:Int)]:=by
   rw [zhz]at hd;obtain⟨k',q1,q2⟩:=zi0.mp hd;obtain⟨I,J⟩:=zhg.mp q1;rw [zhX]at I;rw [zjn]at J;subst J;exact⟨I,q2.symm⟩
  have ah:=Y r;obtain⟨y,e2,z⟩:=qD (T:= .nm 9) (F:=btI) (λ_ γ Z=>(∃c9 c10,γ=cbt ns at_ p m w bs .no (.val (.int r)) (.val (.int (bW bs r:Int))) c9 c10)/\∃T,Z=j9 w (bW bs) T m/\Blt p m w bs T)
   ((zhf (2*bW bs r)).map λ(q:Nat)=>D.int q) 0 (cbt ns at_ p m w bs .no (.val (.int r)) (.val (.int (bW bs r:Int))) c9 c10) (j9 w (bW bs) T m) ⟨⟨c9,c10,rfl⟩,T,rfl,B⟩ (by
   rintro q d γ Z hd ⟨⟨c9,c10,rfl⟩,T,rfl,B⟩;obtain⟨hq,rfl⟩:q<2*bW bs r/\d=D.int q:=by
    rw [zhz]at hd;obtain⟨k',q1,q2⟩:=zi0.mp hd;obtain⟨I,J⟩:=zhg.mp q1;rw [zhX]at I;rw [zjn]at J;subst J;exact⟨I,q2.symm⟩
   obtain⟨a9,T',e3,B'⟩:=W3 (at_:=at_) a3 O h0 h2 hm Y (show r<=m by omega) hq B c10;exact⟨_,_,rfl,e3,⟨_,_,rfl⟩,T',rfl,B'⟩)
  obtain⟨⟨ai,a9,z⟩,T',h4,B'⟩:=z;refine⟨cbt ns at_ p m w bs .no (.val (.int r)) (.val (.int (bW bs r:Int))) c9 c10,y,rfl,?_,⟨_,_,_,_,z⟩,T',h4,B'⟩;unfold btO Zh;rw [if_pos (by rfl)];have hn:2*bW bs r<=lim:=by omega
  have c2:vE 2 (bW bs r:Int)=true:=qL _ _ ⋯ ⋯;have src:zY (zq qw (zo (.int 2)) (ze 8)) (cbt ns at_ p m w bs .no (.val (.int r)) (.val (.int (bW bs r:Int))) c9 c10)=some ((zhf (2*bW bs r)).map λ(q:Nat)=>D.int q):=by
   simp only [xA,Xf,jk,xh,zhj,zhk,zx,zhd,Q6,c2,if_true,jh];rw [show(2:Int)*(bW bs r:Int)=((2*bW bs r:Nat):Int)by omega];simp only [x9 hn,if_true,zib,jQ];rw [zW]
  rw [src];exact e2)
 obtain⟨x1,x2⟩:=x;obtain⟨⟨c7,c8,c9,c10,h1⟩,T,z,B⟩:=h1;dsimp only at h1 z;subst h1 z;refine⟨T,?_,B⟩;rw [Y7];have ae:wJ 5 6 F_law_laid (zc (ze 3) (zc (ze 4) zz)) (vC (Zh [6] (yQ (ze 5)) (.tp [7,8]) btO) zcm) [.val (Jd ns),.val (.int at_),.val (.int p),.val (.str (qf m w)),.val (.lst (zP bs)),.no,.no,.no,.no,.no,.no]=some (.next (cbt ns at_ p m w bs (.val (.lst (qY w (bW bs) T m))) c7 c8 c9 c10)):=by
  unfold wJ;rw [if_pos ⟨rfl,by show 6<11;decide,by decide⟩];show(zi4 (some [D.str (qf m w),.lst (zP bs)]) _)=_;rw [zhd,kO h ⋯ ⋯,zhd];show(vC _ _ (cbt ns at_ p m w bs .no .no .no .no .no) _).map _=_;rw [Jw (γ':=cbt ns at_ p m w bs .no c7 c8 c9 c10) (Z':=j9 w (bW bs) T m) ?_ rfl]
  ·show some (Fl.next (cbt ns at_ p m w bs (.val (zaG (j9 w (bW bs) T m))) c7 c8 c9 c10))=_
   rw [Q7]
  ·unfold Zh
   rw [if_pos (by rfl)];have src:yQ (ze 5) (cbt ns at_ p m w bs .no .no .no .no .no)=some ((zhf (m+1)).map λ(r:Nat)=>D.tup [.int r,.int (bW bs r:Int)]):=by
    rw [<- X8 (m+1) λr=>D.int (bW bs r:Int)];rfl
   rw [src];exact e
 have R:=xV (p:=p) (w:=w) (T:=T) hm Y;refine kS (jf ae ?_);rw [zek,xC];show((F_law_row_k22 [.int p,.str (qf m w),.lst (zQ (m+1) λr=>(bW bs r:Int)),.lst (qY w (bW bs) T m)]).map V2).map _=_;rw [R];rfl
end
def zcH:CO Fl:=jv 1 (zE F_law_cell (zc (ze 0) (zc (zo (.int 0)) zz)))
def zcG:CO Fl:=jv 2 (sIx (jZ (x6 (zc (zo (.int 2)) (zc (zo (.int 3)) (zc (zo (.int 5)) (zc (zo (.int 7)) zz)))))) (zq qm (ze 1) (zo (.int 4))))
def zcF:CO Fl:=jv 3 (zq jH (zo (.int 1)) (zq qm (zq yf (ze 1) (zo (.int 4))) (zo (.int 5))))
def zcE:CO Fl:=jv 4 (zE F_law_ways_k22 (zc (zq yf (ze 1) (zo (.int 32))) (zc (ze 3) zz)))
def zcD:CO Fl:=jv 5 (qu (jX F_law_bars_23 (zc (ze 0) (zc (zo (.int 2)) (zc (zq qm (zE F_law_cell (zc (ze 0) (zc (zo (.int 1)) zz))) (zo (.int 7))) (zc (ze 3) zz))))))
def zcC:CO Fl:=jv 6 (zE F_law_built (zc (ze 0) (zc (zo (.int 10)) (zc (ze 2) (zc (ze 4) (zc (ze 5) zz))))))
section
variable{bs:List (Int×Int)}{m:Nat}
theorem zca(h : ∀b∈bs,Vu ((m+1:Nat):Int) b):bs=(zhf bs.length).map λj=>((bS bs j:Int),(bE bs j:Int)):=by
 apply zjb;intro j;by_cases z:j<bs.length
 ·rw [(Vb h z).1];simp [z]
 ·rw [ziP ⋯,ziP (by simpa using z)]
end
theorem zef{ns:List Int}(hn:ns.length<=63){m n:Nat}(hm:m<=5)(z:n<=60) : ∃bs,F_law_bars_23 [Jd ns,.int 2,.int (n:Int),.int (1+(m:Int))]=some (.own (zP bs))/\(∀b∈bs,Vu ((m+1:Nat):Int) b)/\bs.length=n:=by
 obtain⟨bs,h1,h2,I⟩:=JA hn (r:=m+1) (n:=n) (t:=2) ⋯ ⋯ ⋯ ⋯ z;rw [show((m+1:Nat):Int)=1+(m:Int)by omega]at h1;exact⟨bs,h1,h2,I⟩
def F_law_is_dict:List D->Option Res:=jy 5 (zZ (sIf (Xw (qa (sB (v9 (ze 0)))) (sB (zq dNe (JC (ze 0)) (zq yf (zq qw (ze 1) (zq jH (ze 1) (zo (.int 1)))) (zo (.int 2)))))) (qo (zo (.bl false))) qF) (zZ (vK (zY (ze 1)) (.nm 3) (vK (qA (ze 3) (ze 1)) (.nm 4) (sIf (Xw (sB (yO (jC (zc (ze 3) (zc (ze 4) zz))) (ze 0))) (Xw (qa (sB (zE F_law_whole (zc (yS (ze 0) (jC (zc (ze 3) (zc (ze 4) zz)))) zz)))) (sB (zq dNe (yS (ze 0) (jC (zc (ze 3) (zc (ze 4) zz)))) (yT (zk 2) (jC (zc (ze 3) (zc (ze 4) zz)))))))) (qo (zo (.bl false))) qF))) (qo (zo (.bl true)))))
def F_law_k24:List D->Option Res:=jy 10 (zZ (jv 1 (zE F_law_cell (zc (ze 0) (zc (zo (.int 0)) zz)))) (zZ (jv 2 (sIx (jZ (x6 (zc (zo (.int 2)) (zc (zo (.int 3)) (zc (zo (.int 5)) (zc (zo (.int 7)) zz)))))) (zq qm (ze 1) (zo (.int 4))))) (zZ (jv 3 (zq jH (zo (.int 1)) (zq qm (zq yf (ze 1) (zo (.int 4))) (zo (.int 5))))) (zZ (jv 4 (zE F_law_ways_k22 (zc (zq yf (ze 1) (zo (.int 32))) (zc (ze 3) zz)))) (zZ (jv 5 (qu (jX F_law_bars_23 (zc (ze 0) (zc (zo (.int 2)) (zc (zq qm (zE F_law_cell (zc (ze 0) (zc (zo (.int 1)) zz))) (zo (.int 7))) (zc (ze 3) zz))))))) (zZ (jv 6 (zE F_law_built (zc (ze 0) (zc (zo (.int 10)) (zc (ze 2) (zc (ze 4) (zc (ze 5) zz))))))) (KK 7 (Qu F_numbers (zc (ze 6) zz)) (qa (sB (zE F_law_is_dict (zc (ze 7) (zc (ze 3) (zc (ze 5) zz)))))) (zfl (zc2 (jC (zc (zo (.int 0)) (zc (zo (.int 0)) zz))) (zo (.int 9))) (zc2 (jC (zc (zo (.int 0)) (zc (zo (.int 9)) zz))) (zo (.int 1)))) (zZ (sIf (qa (sB (zE F_law_is_dict (zc (zE F_numbers (zc (ze 6) zz)) (zc (ze 3) (zc (ze 5) zz)))))) (qo (zo (.bl false))) qF) (zZ (wJ 8 9 F_law_laid (zc (ze 4) (zc (ze 5) zz)) zcm) (qo (zE F_law_is_dict (zc (zE F_numbers (zc (zE F_law_row_k22 (zc (ze 2) (zc (ze 4) (zc (ze 8) (zc (ze 9) zz))))) zz)) (zc (ze 3) (zc (ze 5) zz))))))))))))))
theorem WU(a b c d:Int):eqD (.tup [.int a,.int b]) (.tup [.int c,.int d])=(a==c && b==d):=by
 simp [eqD,eqDs,eqI]
theorem ZV : ∀bs:List (Int×Int),okSs (zP bs)=true
 | []=>rfl
 | b::bs=>by
  have z:=ZV bs;unfold zP at z ⊢;rw [zhI];show(okS _ && okSs _)=true;rw [z];rfl
def zgp:CO Fl:=sIf (Xw (qa (sB (v9 (ze 0)))) (sB (zq dNe (JC (ze 0)) (zq yf (zq qw (ze 1) (zq jH (ze 1) (zo (.int 1)))) (zo (.int 2)))))) (qo (zo (.bl false))) qF
def zeK:CO Bool:=Xw (sB (yO (jC (zc (ze 3) (zc (ze 4) zz))) (ze 0))) (Xw (qa (sB (zE F_law_whole (zc (yS (ze 0) (jC (zc (ze 3) (zc (ze 4) zz)))) zz)))) (sB (zq dNe (yS (ze 0) (jC (zc (ze 3) (zc (ze 4) zz)))) (yT (zk 2) (jC (zc (ze 3) (zc (ze 4) zz)))))))
def zcs:CO Fl:=sIf zeK (qo (zo (.bl false))) qF
theorem zdV:F_law_is_dict=jy 5 (zZ zgp (zZ (vK (zY (ze 1)) (.nm 3) (vK (qA (ze 3) (ze 1)) (.nm 4) zcs)) (qo (zo (.bl true))))):=rfl
theorem zcN : ∀M:Fin 7,((stN M.val).length:Int)=(M.val:Int)*((M.val:Int)+1)/2:=by decide +kernel
section
variable{bs:List (Int×Int)}{m:Nat}
theorem Ww(h : ∀b∈bs,Vu ((m+1:Nat):Int) b)(s:Nat×Nat):((zP bs).countP λd=>eqD d (.tup [.int s.1,.int s.2]))=muZ (keyN (layB (bS bs) (bE bs) bs.length) bs.length) s:=by
 unfold muZ keyN zP
 conv=>lhs;rw [zca h]
 rw [zjD,zjD,zjD];refine List.countP_congr λj z=>?_;have:=(Vb h (zhp.mp z)).2.1;show eqD (.tup [.int (bS bs j),.int (bE bs j)]) (.tup [.int s.1,.int s.2])=true↔decide (((bS bs j,bS bs j+(bE bs j - bS bs j+1) - 1):Nat×Nat)=s)=true;rw [WU,show bS bs j+(bE bs j - bS bs j+1) - 1=bE bs j by omega];obtain⟨a,b⟩:=s;simp only [Bool.and_eq_true,beq_iff_eq,decide_eq_true_eq,Prod.mk.injEq];omega
theorem X0(hm:m<=5)(g:Nat×Nat->Int)(hg : ∀s:Nat×Nat,g s=(((zP bs).countP λd=>eqD d (.tup [.int s.1,.int s.2]):Nat):Int)):F_law_is_dict [Je g (m+1),.int (1+(m:Int)),.lst (zP bs)]=some (.val (.bl true)):=by
 have hl:=jM;have sl:=zcN ⟨m+1,by omega⟩;dsimp only at sl;let Fd:=Je g (m+1);let z:Cell->Cell->Ctx:=λJ I=>[.val Fd,.val (.int (1+(m:Int))),.val (.lst (zP bs)),J,I];have s1:zgp (z .no .no)=some (.next (z .no .no)):=by
  have l1:JC (ze 0) (z .no .no)=some (.int ((stN (m+1)).length:Int)):=by
   show some (D.int (((stN (m+1)).map kI).length:Int))=_;rw [zhB]
  have l2:zq yf (zq qw (ze 1) (zq jH (ze 1) (zo (.int 1)))) (zo (.int 2)) (z .no .no)=some (.int ((stN (m+1)).length:Int)):=by
   have c1:vE (1+(m:Int)) (1+(m:Int)+1)=true:=qL _ _ ⋯ ⋯;have c2:Y6 ((1+(m:Int))*(1+(m:Int)+1)) 2=true:=by simp [Y6]
   rw [sl,show((m+1:Nat):Int)=1+(m:Int)by omega];simp [z,c1,yf,dIc,c2]
  have i1:v9 (ze 0) (z .no .no)=some (.bl true):=rfl;have tt:(Xw (qa (sB (v9 (ze 0)))) (sB (zq dNe (JC (ze 0)) (zq yf (zq qw (ze 1) (zq jH (ze 1) (zo (.int 1)))) (zo (.int 2)))))) (z .no .no)=some false:=by
   show(((v9 (ze 0) (z .no .no)).bind asB).map _).bind _=_;rw [i1];show((zi4 (JC (ze 0) (z .no .no)) λx=>zi4 (zq yf (zq qw (ze 1) (zq jH (ze 1) (zo (.int 1)))) (zo (.int 2)) (z .no .no)) λy=>dNe x y).bind asB)=_;rw [l1,l2];simp
  show((_:Option Bool).bind _)=_;rw [tt];rfl
 have a9 : ∀i,i<m+1->∀I,∃O,vK (qA (ze 3) (ze 1)) (.nm 4) zcs (z (.val (.int i)) I)=some (.next (z (.val (.int i)) O)):=λi hi I=>by
  have src:qA (ze 3) (ze 1) (z (.val (.int i)) I)=some (qy i (m+1 - i)):=by
   have r1:inR (i:Int)=true:=x9 ⋯;have r2:inR (1+(m:Int))=true:=QX ⋯ ⋯;show(if inR (i:Int)=true/\inR (1+(m:Int))=true then some (qy i (1+(m:Int) - (i:Int)).toNat)else none)=_;rw [if_pos ⟨r1,r2⟩,show(1+(m:Int) - (i:Int)).toNat=m+1 - i by omega]
  rw [Xe,src];obtain⟨γ',e,O,rfl⟩:=vn (T:= .nm 4) (F:=zcs) (λ_ γ=>∃I,γ=z (.val (.int i)) I) (qy i (m+1 - i)) 0 (z (.val (.int i)) I) ⟨I,rfl⟩ (by
   rintro s dd γ Y ⟨I,rfl⟩;obtain⟨hs,rfl⟩:s<m+1 - i/\dd=D.int ((i+s:Nat):Int):=by
    unfold qy at Y;rw [zhz]at Y;obtain⟨k',q1,q2⟩:=zi0.mp Y;obtain⟨q3,q4⟩:=zhg.mp q1;rw [zhX]at q3;rw [zjn]at q4;subst q4;exact⟨q3,by rw [<- q2];congr 1⟩
   have a2:(i,i+s)∈stN (m+1):=mem_st.mpr ⟨by dsimp only;omega,by dsimp only;omega⟩;have gt:=YI g a2;have kin:([(i:Int),((i+s:Nat):Int)]:List Int)∈(stN (m+1)).map kI:=ziJ.mpr ⟨_,a2,rfl⟩;let γ1:=z (.val (.int i)) (.val (.int ((i+s:Nat):Int)));have n1:yO (jC (zc (ze 3) (zc (ze 4) zz))) (ze 0) γ1=some (.bl false):=by
    show some (D.bl (!decide (([(i:Int),((i+s:Nat):Int)]:List Int)∈(stN (m+1)).map kI)))=_;rw [decide_eq_true kin];rfl
   have n2:yS (ze 0) (jC (zc (ze 3) (zc (ze 4) zz))) γ1=some (.int (g (i,i+s))):=by
    show QZ ((stN (m+1)).map kI) ((stN (m+1)).map λs=>D.int (g s)) [(i:Int),((i+s:Nat):Int)]=_;exact gt
   have n3:yT (zk 2) (jC (zc (ze 3) (zc (ze 4) zz))) γ1=some (.int (g (i,i+s))):=by
    rw [hg];show(if okD (.tup [.int (i:Int),.int ((i+s:Nat):Int)])=true/\okSs (zP bs)=true then some (D.int ((zP bs).countP λd=>eqD d (.tup [.int (i:Int),.int ((i+s:Nat):Int)]):Nat))else none)=_;rw [if_pos ⟨rfl,ZV bs⟩]
   have tt:zeK γ1=some false:=by
    unfold zeK;rw [zaH];show(((yO _ _ γ1).bind asB).bind _)=_;rw [n1];show(Xw _ _ γ1)=_;rw [zaH];show((((zi4 (zi4 (yS (ze 0) (jC (zc (ze 3) (zc (ze 4) zz))) γ1) λx=>zj3 (λr=>x::r) (some [])) λds=>(F_law_whole ds).map V2).bind asB).map _).bind _)=_;rw [n2];show((((F_law_whole [.int (g (i,i+s))]).map V2).bind asB).map _).bind _=_;rw [J7];show((zi4 (yS (ze 0) (jC (zc (ze 3) (zc (ze 4) zz))) γ1) λx=>zi4 (yT (zk 2) (jC (zc (ze 3) (zc (ze 4) zz))) γ1) λy=>dNe x y).bind asB)=_;rw [n2,n3];simp
   refine⟨γ1,.inl ?_,_,rfl⟩;show zcs γ1=_;unfold zcs;show((zeK γ1).bind _)=_;rw [tt];rfl)
  exact⟨O,e⟩
 obtain⟨γ',e,J,I,rfl⟩:=XW (T:= .nm 3) (F:=vK (qA (ze 3) (ze 1)) (.nm 4) zcs) (f:=ze 1) (λ_ γ=>∃J I,γ=z J I) (m+1) ⋯ (γ:=z .no .no) (by show some (D.int (1+(m:Int)))=_;congr 2;omega) ⟨.no,.no,rfl⟩ (by
  rintro i hi γ ⟨J,I,rfl⟩;obtain⟨O,e⟩:=a9 i hi I;exact⟨z (.val (.int i)) I,_,rfl,e,_,_,rfl⟩)
 rw [zdV];exact kS (jf s1 (jf e rfl))
end
def zaU:CO Bool:=qa (sB (zE F_law_is_dict (zc (ze 7) (zc (ze 3) (zc (ze 5) zz)))))
def VJ:XF:=zfl (zc2 (jC (zc (zo (.int 0)) (zc (zo (.int 0)) zz))) (zo (.int 9))) (zc2 (jC (zc (zo (.int 0)) (zc (zo (.int 9)) zz))) (zo (.int 1)))
def ze2:CO Fl:=sIf (qa (sB (zE F_law_is_dict (zc (zE F_numbers (zc (ze 6) zz)) (zc (ze 3) (zc (ze 5) zz)))))) (qo (zo (.bl false))) qF
def zcB:CO Fl:=wJ 8 9 F_law_laid (zc (ze 4) (zc (ze 5) zz)) zcm
def zaf:CO Fl:=qo (zE F_law_is_dict (zc (zE F_numbers (zc (zE F_law_row_k22 (zc (ze 2) (zc (ze 4) (zc (ze 8) (zc (ze 9) zz))))) zz)) (zc (ze 3) (zc (ze 5) zz))))
theorem zaV:F_law_k24=jy 10 (zZ zcH (zZ zcG (zZ zcF (zZ zcE (zZ zcD (zZ zcC (KK 7 (Qu F_numbers (zc (ze 6) zz)) zaU VJ (zZ ze2 (zZ zcB zaf))))))))):=rfl
theorem KZ(ks:List (List Int))(k:List Int):(JH ks k).length<=ks.length+1:=by
 unfold JH;split<;>simp
theorem law_k24(ns:List Int)(J:ns.length<=63):F_law_k24 [Jd ns]=some (.val (.bl true)):=by
 have hl:=jM;obtain⟨a1,a2,a3⟩:=w9 J (k:=0) ⋯ ⋯;obtain⟨y1,y2,y3⟩:=w9 J (k:=1) ⋯ ⋯;generalize qC ns 0=c at a1 a2 a3;generalize qC ns 1=d at y1 y2 y3;obtain⟨q,I,ep,af⟩:=zdi a2;obtain⟨m,em,ax⟩:=ZX (c:=c/4) (n:=5) ⋯;obtain⟨n,en,ay⟩:=ZX (c:=d) (n:=7) ⋯;have hm:m<=5:=by omega
 obtain⟨w,hw⟩:=zcz (c:=c/32) ⋯ hm;obtain⟨bs,ai,O,az⟩:=zef J hm (n:=n) ⋯;obtain⟨T,aj,B⟩:=vT (at_:=10) (w:=w) J I ⋯ ⋯ hm O ⋯;obtain⟨A,Dc,ek⟩:=B.dec;have a4 : ∀k,bW bs k<=7:=λk=>zh3 (wG (S:=bS bs) (E:=bE bs) (N:=bs.length)) ⋯;have Y:=wg I a4 B.rng hm Dc;rw [ek]at Y;have Dl:=QT (p:=(q:Int)) (w:=w) (m:=m) I λj hj=>(Vb O hj).2;have nl:=wg I a4 (QU (w:=w) I) hm Dl;have a0:=X0 (bs:=bs) hm (λs=>(muZ (keyN (layB (bS bs) (bE bs) bs.length) bs.length) s:Int)) λs=>by rw [Ww O]
 obtain⟨n1,n2,n3⟩:=Qs ⟨m+1,by omega⟩;dsimp only at n1 n2 n3;generalize hg:(λs=>(muZ (keyN (layB (bS bs) (bE bs) bs.length) bs.length) s:Int))=g at Y nl a0;let R:=yt q m w (bW bs) T;let M:D:= .int (1+(m:Int));let z:Cell->Cell->Cell->Ctx:=λc7 c8 c9=>[.val (Jd ns),.val (.int c),.val (.int q),.val M,.val (.str (qf m w)),.val (.lst (zP bs)),.val R,c7,c8,c9];rw [zaV];refine kS (jf (γ':=[.val (Jd ns),.val (.int c),.no,.no,.no,.no,.no,.no,.no,.no]) (by simp [zcH,jx,a1]) (jf (γ':=[.val (Jd ns),.val (.int c),.val (.int q),.no,.no,.no,.no,.no,.no,.no]) (by simp [zcG,af,ep]) (jf (γ':=[.val (Jd ns),.val (.int c),.val (.int q),.val M,.no,.no,.no,.no,.no,.no]) (by simp [zcF,M];exact em) (jf (γ':=[.val (Jd ns),.val (.int c),.val (.int q),.val M,.val (.str (qf m w)),.no,.no,.no,.no,.no]) (by simp [zcE,M,hw]) (jf (γ':=[.val (Jd ns),.val (.int c),.val (.int q),.val M,.val (.str (qf m w)),.val (.lst (zP bs)),.no,.no,.no,.no]) ?_ (jf (γ':=z .no .no .no) ?_ ?_))))))
 ·have ap:d%7=(n:Int):=en
  simp [zcD,M,y1,ap,ai]
 ·simp [zcC,z,aj,R]
 ·unfold KK
  rw [if_pos ⟨rfl,by show 7<10;decide⟩];have e1:Qu F_numbers (zc (ze 6) zz) (z .no .no .no)=some (Je g (m+1)):=by
   show((F_numbers [R]).map V2).bind _=_;rw [Y];rfl
  rw [e1,zhd];have e2:zaU (z (.val (Je g (m+1))) .no .no)=some false:=by
   show(((F_law_is_dict [Je g (m+1),M,.lst (zP bs)]).map V2).bind asB).map _=_;rw [a0];rfl
  show(zaU (z (.val (Je g (m+1))) .no .no)).bind _=_;rw [e2,zhd,if_neg zhA];show(if (xi ((stN (m+1)).map λs=>D.int (g s))).isSome=true then (VJ (z .no .no .no) ((stN (m+1)).map kI) ((stN (m+1)).map λs=>D.int (g s))).bind _ else none)=_;have e3:xi ((stN (m+1)).map λs=>D.int (g s))=some ((stN (m+1)).map g):=by
   rw [<- xK ((stN (m+1)).map g),zim];rfl
  rw [e3,if_pos (by rfl)];have ar:((stN (m+1)).map kI).length<lim:=by rw [zhB];omega
  have as:(JH ((stN (m+1)).map kI) [0,0]).length<lim:=by
   have:=KZ ((stN (m+1)).map kI) [0,0];rw [zhB]at this;omega
  have e4 : ∃ks vs,VJ (z .no .no .no) ((stN (m+1)).map kI) ((stN (m+1)).map λs=>D.int (g s))=some (z .no .no .no,ks,vs):=by
   unfold VJ;show ∃ks vs,zi4 (if ((stN (m+1)).map kI).length<lim then _ else none) _=_;rw [if_pos ar,zhd];show ∃ks vs,(if (JH ((stN (m+1)).map kI) [0,0]).length<lim then _ else none)=_;rw [if_pos as];exact⟨_,_,rfl⟩
  obtain⟨b9,ba,e4⟩:=e4;rw [e4,zhd];refine jf (γ':=z .no .no .no) ?_ ?_
  ·have e5:(qa (sB (zE F_law_is_dict (zc (zE F_numbers (zc (ze 6) zz)) (zc (ze 3) (zc (ze 5) zz)))))) (z .no .no .no)=some false:=by
    simp [z,R,Y,a0,M]
   show((_:Option Bool).bind _)=_;rw [e5];rfl
  ·refine jf (γ':=z .no (.val (.lst (zQ (m+1) λr=>(bW bs r:Int)))) (.val (.lst (qY w (bW bs) (bT w bs) m)))) ?_ ?_
   ·unfold zcB wJ
    rw [if_pos ⟨rfl,by show 9<10;decide,by decide⟩];show(zi4 (some [D.str (qf m w),.lst (zP bs)]) _)=_;rw [zhd,kO O ⋯ ⋯,zhd];show some (Fl.next (z .no (.val (.lst (zQ (m+1) λr=>(bW bs r:Int)))) (.val (zaG (j9 w (bW bs) (bT w bs) m)))))=_;rw [Q7]
   ·have Rw:=xV (p:=(q:Int)) (w:=w) (T:=bT w bs) hm a4
    unfold zaf;simp [z,Rw,nl,a0,M]
def top(i:Nat):PySem.Stmt:=PySem.Challenge.pw_barsplit_k24_whole_numbers_of_built_rows.main.body.getD i (.Pass ⟨0,0,0,0⟩)
section
variable{CR CL:PySem.Addr}{P:PySem.Program}{w:PySem.World}{K:PySem.W.Frag}{mg:PySem.Str->Option PySem.Value}{base:PySem.Heap}
theorem vD{α:Type}{us:List α}{n:Nat}(h:us.length=n+1) : ∃a t,us=a::t/\t.length=n:=by
 cases us with
 | nil=>exact absurd h (Nat.zero_ne_add_one n)
 | cons a t=>exact⟨a,t,rfl,Nat.succ.inj h⟩
theorem len1{α:Type}{us:List α}(h:us.length=1) : ∃a,us=[a]:=by
 obtain⟨a,z,rfl,h0⟩:=vD h;rw [zhN h0];exact⟨a,rfl⟩
theorem len2{α:Type}{us:List α}(h:us.length=2) : ∃a b,us=[a,b]:=by
 obtain⟨a,z,rfl,h0⟩:=vD h;obtain⟨b,I,rfl,h1⟩:=vD h0;rw [zhN h1];exact⟨a,b,rfl⟩
theorem len3{α:Type}{us:List α}(h:us.length=3) : ∃a b c,us=[a,b,c]:=by
 obtain⟨a,z,rfl,h0⟩:=vD h;obtain⟨b,I,rfl,h1⟩:=vD h0;obtain⟨c,J,rfl,h2⟩:=vD h1;rw [zhN h2];exact⟨a,b,c,rfl⟩
theorem len4{α:Type}{us:List α}(h:us.length=4) : ∃a b c d,us=[a,b,c,d]:=by
 obtain⟨a,I,rfl,h0⟩:=vD h;obtain⟨b,J,rfl,h1⟩:=vD h0;obtain⟨c,O,rfl,h2⟩:=vD h1;obtain⟨d,Y,rfl,z⟩:=vD h2;rw [zhN z];exact⟨a,b,c,d,rfl⟩
theorem len5{α:Type}{us:List α}(h:us.length=5) : ∃a b c d e,us=[a,b,c,d,e]:=by
 obtain⟨a,J,rfl,h0⟩:=vD h;obtain⟨b,O,rfl,h1⟩:=vD h0;obtain⟨c,Y,rfl,h2⟩:=vD h1;obtain⟨d,t3,rfl,z⟩:=vD h2;obtain⟨e,t4,rfl,I⟩:=vD z;rw [zhN I];exact⟨a,b,c,d,e,rfl⟩
theorem len7{α:Type}{us:List α}(h:us.length=7) : ∃a b c d e f g,us=[a,b,c,d,e,f,g]:=by
 obtain⟨a,Y,rfl,h0⟩:=vD h;obtain⟨b,t1,rfl,h1⟩:=vD h0;obtain⟨c,t2,rfl,h2⟩:=vD h1;obtain⟨d,t3,rfl,z⟩:=vD h2;obtain⟨e,t4,rfl,I⟩:=vD z;obtain⟨f,t5,rfl,J⟩:=vD I;obtain⟨g,t6,rfl,O⟩:=vD J;rw [zhN O];exact⟨a,b,c,d,e,f,g,rfl⟩
theorem ok_law_cell(D:DefAt K mg "_law_cell" (top 32) ["_law_script","_law_k"])(z:mg "len" = none)(I:mg "min" = none)(J:mg "range" = none):FnD P w K mg base 1 "_law_cell" 2 F_law_cell:=
 k7 (N:=["_law_script","_law_k","_law_cell_here","_law_turn","_law_given"]) D ⋯ λX O hw Y hm hb h0 hx=>by
  subst O hw Y hm hb;exact(by refine zh ?_ ?_;exact(kt (JI (yW (zao (xc h0 ⋯ z (zn 0 (h0.var ⋯))) zg) (ko (xf h0 (jG (zL (zn 0 (h0.var ⋯)) zg) zg) zg)))) ((by refine zh ?_ ?_;exact(zR 2 (h0.set 2 ⋯ (zL (zn 0 (h0.var ⋯)) (jj zg (jG (zb 1 (h0.var ⋯)) (qZ (xc h0 ⋯ z (zn 0 (h0.var ⋯))) zg))))));refine zh ?_ ?_;exact(qB (T:= .nm 3) (qr hx) h0.calm (jJ h0 ⋯ J (zda h0 ⋯ I zg (kr (zb 1 (h0.var ⋯)) (qZ (xc h0 ⋯ z (zn 0 (h0.var ⋯))) zg)))) (h0.tgt 3 ⋯) (zu (zR 2 (h0.set 2 ⋯ (kr (zb 2 (h0.var ⋯)) (KT zg zg))))));exact(zu (z9 (jG (zb 2 (h0.var ⋯)) (KT zg zg)))))) qg);refine zh ?_ ?_;exact(zR 4 (h0.set 4 ⋯ (zb 1 (h0.var ⋯))));refine zh ?_ ?_;exact(kt (zao (xc h0 ⋯ z (zn 0 (h0.var ⋯))) zg) (zu (zR 4 (h0.set 4 ⋯ (zL (zn 0 (h0.var ⋯)) (jG (zb 1 (h0.var ⋯)) (xc h0 ⋯ z (zn 0 (h0.var ⋯)))))))) qg);exact(zu (z9 (jG (jO (jG (jj (jj (jj (jO (jG (zb 4 (h0.var ⋯)) (KT zg zg)) zg) (jO (jO zg (zb 1 (h0.var ⋯))) (zb 1 (h0.var ⋯)))) (jO zg (zb 1 (h0.var ⋯)))) zg) zg) zg) zg))))
theorem ok_law_ways_k22(D:DefAt K mg "_law_ways" (top 36) ["_law_cell_here","_law_rooms"])(z:mg "range" = none):FnD P w K mg base 1 "_law_ways" 2 F_law_ways_k22:=
 k7 (N:=["_law_cell_here","_law_rooms","_law_ways_here","_law_k"]) D ⋯ λX I hw J hm O h0 hx=>by
  subst I hw J hm O;exact(by refine zh ?_ ?_;exact(zR 2 (h0.set 2 ⋯ KS));refine zh ?_ ?_;exact(qB (T:= .nm 3) (qr hx) h0.calm (jJ h0 ⋯ z (qZ (zb 1 (h0.var ⋯)) zg)) (h0.tgt 3 ⋯) ((by refine zh ?_ ?_;exact(zR 2 (h0.set 2 ⋯ (zbn (zb 2 (h0.var ⋯)) (V7 KS (jG (zb 0 (h0.var ⋯)) zg)))));exact(zu (zR 0 (h0.set 0 ⋯ (kr (zb 0 (h0.var ⋯)) zg)))))));exact(zu (xH 2 (h0.var ⋯))))
theorem ok_law_bars_23(D:DefAt K mg "_law_bars" (top 37) ["_law_script","_law_at","_law_many","_law_rooms"])(z:FnD P w K mg base 1 "_law_cell" 2 F_law_cell)(I:mg "range" = none)(J:mg "sorted" = none):FnD P w K mg base 2 "_law_bars" 4 F_law_bars_23:=
 k7 (N:=["_law_script","_law_at","_law_many","_law_rooms","_law_some","_law_k","_law_cell_here","_law_i"]) D ⋯ λX O hw Y hm hb h0 hx=>by
  subst O hw Y hm hb;exact(by refine zh ?_ ?_;exact(qO 4 (h0.set 4 ⋯ (we (qQ zf))));refine zh ?_ ?_;exact(qB (T:= .nm 5) (qr hx) h0.calm (jJ h0 ⋯ I (zb 2 (h0.var ⋯))) (h0.tgt 5 ⋯) ((by refine zh ?_ ?_;exact(zR 6 (h0.set 6 ⋯ (jB z ⋯ h0 ⋯ (za (zb 0 (h0.var ⋯)) (za (jj (zb 1 (h0.var ⋯)) (zb 5 (h0.var ⋯))) zf)))));refine zh ?_ ?_;exact(zR 7 (h0.set 7 ⋯ (jG (zb 6 (h0.var ⋯)) (zb 3 (h0.var ⋯)))));exact(zu (K3 4 h0 ⋯ (z6 (qQ (za (zb 7 (h0.var ⋯)) (za (jj (zb 7 (h0.var ⋯)) (jG (kr (zb 6 (h0.var ⋯)) (zb 3 (h0.var ⋯))) (qZ (zb 3 (h0.var ⋯)) (zb 7 (h0.var ⋯))))) zf)))))))));exact(zu (yu (Wg h0 ⋯ J (zn 4 (h0.var ⋯))))))
theorem ok_law_ends_k22(D:DefAt K mg "_law_ends" (top 34) ["_law_k","_law_way"]):FnD P w K mg base 1 "_law_ends" 2 F_law_ends_k22:=
 k7 (N:=["_law_k","_law_way"]) D ⋯ λX z hw I hm J h0 hx=>by
  subst z hw I hm J;exact(by refine zh ?_ ?_;exact(kt (xf h0 (zb 1 (h0.var ⋯)) KS) (zu (z9 (z6 (qQ (za (zb 0 (h0.var ⋯)) (za (jj (zb 0 (h0.var ⋯)) zg) zf)))))) qg);exact(zu (z9 (z6 (qQ (za (jj (zb 0 (h0.var ⋯)) zg) (za (zb 0 (h0.var ⋯)) zf)))))))
theorem ok_law_laid(D:DefAt K mg "_law_laid" (top 38) ["_law_ways_here","_law_some"])(J:FnD P w K mg base 1 "_law_ends" 2 F_law_ends_k22)(O:mg "enumerate" = none)(Y:mg "int" = none)(z:mg "len" = none)(I:mg "range" = none):FnL P w K mg base 2 "_law_laid" 2 F_law_laid:=
 zg0 (N:=["_law_ways_here","_law_some","_law_stand","_law_tables","_law_k","_law_way","_law_begin","_law_end"]) D ⋯ λX hP hw hK hm hb h0 hx=>by
  subst hP hw hK hm hb;exact zdF (j6 2 (psc 2 h0 ⋯ (own:=["_law_room"]) (fr:=[("_law_some",1)]) (T:= .nm 0) h0.calm (h0.compOk (fr:=[("_law_some",1)]) ⋯) ⋯ (PIF.c (jJ h0 ⋯ I (jj (zbl h0 ⋯ z (zb 0 (h0.var ⋯))) zg))) (λfp s2 H2=>have h1:=h0.cq ["_law_room"] [("_law_some",1)] fp s2 H2 ⋯;h1.tgt 0 ⋯) (λfp s2 H2=>have h1:=h0.cq ["_law_room"] [("_law_some",1)] fp s2 H2 ⋯;PO.v (yZ (own:=["_law_k"]) (fr:=[("_law_room",0),("_law_some",1)]) (T:= .nm 0) h1.calm (h1.compOk (fr:=[("_law_room",0),("_law_some",1)]) ⋯) ⋯ (PIF.c (jJ h1 ⋯ I (xc h1 ⋯ z (zn 1 (h1.var ⋯))))) (λfp s2 H2=>have h2:=h1.cq ["_law_k"] [("_law_room",0),("_law_some",1)] fp s2 H2 ⋯;h2.tgt 0 ⋯) (λfp s2 H2=>have h2:=h1.cq ["_law_k"] [("_law_room",0),("_law_some",1)] fp s2 H2 ⋯;K0 zdx zdx zah zah (zL (PV.q (zL (zn 2 (h2.var ⋯)) (zb 0 (h2.var ⋯)))) zg) (zb 1 (h2.var ⋯)) (zL (PV.q (zL (zn 2 (h2.var ⋯)) (zb 0 (h2.var ⋯)))) zg)) (λfp s2 H2=>have h2:=h1.cq ["_law_k"] [("_law_room",0),("_law_some",1)] fp s2 H2 ⋯;zb 0 (h2.var ⋯)))))) (zfx (h0.set 3 ⋯ (zau jp)) (VB (T:= .tp [4,5]) (qr hx) h0.calm (JN h0 ⋯ O (zb 0 (h0.var ⋯))) (h0.tgts (zD (h0.tgt 4 ⋯) (zD (h0.tgt 5 ⋯) jz))) (Jx (Vz (T:= .tp [6,7]) (wc (jB J ⋯ h0 ⋯ (za (zb 4 (h0.var ⋯)) (za (zb 5 (h0.var ⋯)) zf))) (h0.tgts (zD (h0.tgt 6 ⋯) (zD (h0.tgt 7 ⋯) jz))))) (vG (ze0 3 zhq (by rfl) h0 ⋯ (Wi (own:=["_law_x"]) (fr:=[("_law_stand",2),("_law_begin",6)]) (T:= .nm 0) h0.calm (h0.compOk (fr:=[("_law_stand",2),("_law_begin",6)]) ⋯) ⋯ (je (PV.q (zL (zn 2 (h0.var ⋯)) (zb 7 (h0.var ⋯))))) (λfp s2 H2=>have h1:=h0.cq ["_law_x"] [("_law_stand",2),("_law_begin",6)] fp s2 H2 ⋯;h1.tgt 0 ⋯) (λfp s2 H2=>have h1:=h0.cq ["_law_x"] [("_law_stand",2),("_law_begin",6)] fp s2 H2 ⋯;jo (own:=["_law_y"]) (fr:=[("_law_x",0)]) (T:= .nm 0) h1.calm (h1.compOk (fr:=[("_law_x",0)]) ⋯) ⋯ (je (PV.q (zL (zn 1 (h1.var ⋯)) (zb 2 (h1.var ⋯))))) (λfp s2 H2=>have h2:=h1.cq ["_law_y"] [("_law_x",0)] fp s2 H2 ⋯;h2.tgt 0 ⋯) (λfp s2 H2=>have h2:=h1.cq ["_law_y"] [("_law_x",0)] fp s2 H2 ⋯;zbm h2 ⋯ Y (zfn h2 (zb 1 (h2.var ⋯)) (zb 0 (h2.var ⋯)))))))))) (PO.v (jo (own:=["_law_each"]) (fr:=[]) (T:= .nm 0) h0.calm (h0.compOk (fr:=[]) ⋯) ⋯ (je (zn 2 (h0.var ⋯))) (λfp s2 H2=>have h1:=h0.cq ["_law_each"] [] fp s2 H2 ⋯;h1.tgt 0 ⋯) (λfp s2 H2=>have h1:=h0.cq ["_law_each"] [] fp s2 H2 ⋯;xc h1 ⋯ z (zn 0 (h1.var ⋯))))) (h0.var ⋯))
theorem ok_law_row_k22(D:DefAt K mg "_law_row" (top 35) ["_law_p","_law_ways_here","_law_widths","_law_tables"])(I:FnD P w K mg base 1 "_law_ends" 2 F_law_ends_k22)(J:mg "enumerate" = none)(z:mg "tuple" = none):FnD P w K mg base 2 "_law_row" 4 F_law_row_k22:=
 k7 (N:=["_law_p","_law_ways_here","_law_widths","_law_tables","_law_arrows","_law_k","_law_way","_law_begin","_law_end"]) D ⋯ λX O hw Y hm hb h0 hx=>by
  subst O hw Y hm hb;exact(by refine zh ?_ ?_;exact(qO 4 (h0.set 4 ⋯ (we (qQ zf))));refine zh ?_ ?_;exact(qB (T:= .tp [5,6]) (qr hx) h0.calm (JN h0 ⋯ J (zb 1 (h0.var ⋯))) (h0.tgts (zD (h0.tgt 5 ⋯) (zD (h0.tgt 6 ⋯) jz))) ((by refine zh ?_ ?_;exact(Wd (T:= .tp [7,8]) (h0.tgts (zD (h0.tgt 7 ⋯) (zD (h0.tgt 8 ⋯) jz))) (jB I ⋯ h0 ⋯ (za (zb 5 (h0.var ⋯)) (za (zb 6 (h0.var ⋯)) zf))));exact(zu (K3 4 h0 ⋯ (z6 (qQ (za (zb 6 (h0.var ⋯)) (za (z6 (qQ (za (zL (zn 2 (h0.var ⋯)) (zb 8 (h0.var ⋯))) (za (zL (zn 2 (h0.var ⋯)) (zb 7 (h0.var ⋯))) (za (j5 h0 ⋯ z (PO.q (jo (own:=["_law_row_here"]) (fr:=[]) (T:= .nm 0) h0.calm (h0.compOk (fr:=[]) ⋯) ⋯ (je (PV.q (zL (zn 3 (h0.var ⋯)) (zb 5 (h0.var ⋯))))) (λfp s2 H2=>have h1:=h0.cq ["_law_row_here"] [] fp s2 H2 ⋯;h1.tgt 0 ⋯) (λfp s2 H2=>have h1:=h0.cq ["_law_row_here"] [] fp s2 H2 ⋯;j5 h1 ⋯ z (zn 0 (h1.var ⋯)))))) zf))))) zf)))))))));exact(zu (z9 (z6 (qQ (za (zb 0 (h0.var ⋯)) (za (j5 h0 ⋯ z (zn 2 (h0.var ⋯))) (za (j5 h0 ⋯ z (zn 4 (h0.var ⋯))) zf))))))))
theorem ok_law_step(D:DefAt K mg "_law_step" (top 39) ["_law_p","_law_ways_here","_law_tables","_law_room","_law_a","_law_b","_law_times"])(z:FnD P w K mg base 1 "_law_ends" 2 F_law_ends_k22)(I:mg "enumerate" = none)(J:mg "range" = none)(O:mg "zip" = none):FnY P w K mg base 2 "_law_step" 2 4 F_law_step:=
 zgZ (N:=["_law_p","_law_ways_here","_law_tables","_law_room","_law_a","_law_b","_law_times","_law_over","_law_k","_law_way","_law_begin","_law_end","_law_rows","_law_row_here"]) D ⋯ (by rfl) λX Y hw hK hm hb h0 hx=>by
  subst Y hw hK hm hb;exact Jx (Vz (T:= .nm 7) (h0.set 7 ⋯ (zL (PO.q (yZ (own:=["_law_x"]) (fr:=[("_law_p",0),("_law_times",6)]) (T:= .nm 0) h0.calm (h0.compOk (fr:=[("_law_p",0),("_law_times",6)]) ⋯) ⋯ (PIF.c (jJ h0 ⋯ J (zb 0 (h0.var ⋯)))) (λfp s2 H2=>have h1:=h0.cq ["_law_x"] [("_law_p",0),("_law_times",6)] fp s2 H2 ⋯;h1.tgt 0 ⋯) (λfp s2 H2=>have h1:=h0.cq ["_law_x"] [("_law_p",0),("_law_times",6)] fp s2 H2 ⋯;xf h1 (jG (jO (zb 0 (h1.var ⋯)) (zb 2 (h1.var ⋯))) (zb 1 (h1.var ⋯))) zg) (λfp s2 H2=>have h1:=h0.cq ["_law_x"] [("_law_p",0),("_law_times",6)] fp s2 H2 ⋯;zb 0 (h1.var ⋯)))) zg))) (vG (VB (T:= .tp [8,9]) (qr hx) h0.calm (JN h0 ⋯ I (zb 1 (h0.var ⋯))) (h0.tgts (zD (h0.tgt 8 ⋯) (zD (h0.tgt 9 ⋯) jz))) (Jx (Vz (T:= .tp [10,11]) (wc (jB z ⋯ h0 ⋯ (za (zb 8 (h0.var ⋯)) (za (zb 9 (h0.var ⋯)) zf))) (h0.tgts (zD (h0.tgt 10 ⋯) (zD (h0.tgt 11 ⋯) jz))))) (zcw 2 12 zhq h0 ⋯ ⋯ (zb 8 (h0.var ⋯)) (λk=>Jx (zeq (JI (yW (xf h0 (zb 11 (h0.var ⋯)) (zb 3 (h0.var ⋯))) (ko (xf h0 (zb 4 (h0.var ⋯)) (zb 5 (h0.var ⋯)))))) (vG (Qe zhq (by rfl) (yn 12 h0 ⋯ (jo (own:=["_law_x"]) (fr:=[("_law_p",0),("_law_times",6)]) (T:= .nm 0) h0.calm (h0.compOk (fr:=[("_law_p",0),("_law_times",6)]) ⋯) ⋯ (je (PV.q (zL (zn 12 (h0.var ⋯)) (zb 5 (h0.var ⋯))))) (λfp s2 H2=>have h1:=h0.cq ["_law_x"] [("_law_p",0),("_law_times",6)] fp s2 H2 ⋯;h1.tgt 0 ⋯) (λfp s2 H2=>have h1:=h0.cq ["_law_x"] [("_law_p",0),("_law_times",6)] fp s2 H2 ⋯;jG (jO (zb 2 (h1.var ⋯)) (zb 0 (h1.var ⋯))) (zb 1 (h1.var ⋯)))) (zb 5 (h0.var ⋯)))))) (Jx (zeq (JI (yW (xf h0 (zb 11 (h0.var ⋯)) (zb 3 (h0.var ⋯))) (ko (ZM h0 (zb 4 (h0.var ⋯)) (zb 5 (h0.var ⋯)))))) (vG (Qe zhq (by rfl) (yn 12 h0 ⋯ (jo (own:=["_law_x","_law_y"]) (fr:=[("_law_p",0),("_law_times",6)]) (T:= .tp [0,1]) h0.calm (h0.compOk (fr:=[("_law_p",0),("_law_times",6)]) ⋯) ⋯ (PIF.c (ZR h0 ⋯ O (zL (zn 12 (h0.var ⋯)) (zb 4 (h0.var ⋯))) (zL (zn 12 (h0.var ⋯)) (zb 5 (h0.var ⋯))))) (λfp s2 H2=>have h1:=h0.cq ["_law_x","_law_y"] [("_law_p",0),("_law_times",6)] fp s2 H2 ⋯;h1.tgts (zD (h1.tgt 0 ⋯) (zD (h1.tgt 1 ⋯) jz))) (λfp s2 H2=>have h1:=h0.cq ["_law_x","_law_y"] [("_law_p",0),("_law_times",6)] fp s2 H2 ⋯;jG (jj (zb 1 (h1.var ⋯)) (jO (zb 3 (h1.var ⋯)) (zb 0 (h1.var ⋯)))) (zb 2 (h1.var ⋯)))) (zb 5 (h0.var ⋯)))))) (vG (VA (qr hx) h0.calm zhq (h0.var ⋯) (h0.tgt 13 ⋯) (λm=>Jx (zeq (JI (yW (xf h0 (zb 10 (h0.var ⋯)) (zb 3 (h0.var ⋯))) (ko (xf h0 (zb 4 (h0.var ⋯)) (zb 5 (h0.var ⋯)))))) (vG (Qf zhq (yn 13 h0 ⋯ (jG (jO (zb 7 (h0.var ⋯)) (zL (zn 13 (h0.var ⋯)) (zb 5 (h0.var ⋯)))) (zb 0 (h0.var ⋯))) (zb 5 (h0.var ⋯)))))) (vG (zeq (JI (yW (xf h0 (zb 10 (h0.var ⋯)) (zb 3 (h0.var ⋯))) (ko (ZM h0 (zb 4 (h0.var ⋯)) (zb 5 (h0.var ⋯)))))) (vG (Qf zhq (yn 13 h0 ⋯ (jG (qZ (zL (zn 13 (h0.var ⋯)) (zb 4 (h0.var ⋯))) (jO (zb 6 (h0.var ⋯)) (zL (zn 13 (h0.var ⋯)) (zb 5 (h0.var ⋯))))) (zb 0 (h0.var ⋯))) (zb 4 (h0.var ⋯))))))))))))))))
theorem ok_law_built(D:DefAt K mg "_law_built" (top 40) ["_law_script","_law_at","_law_p","_law_ways_here","_law_some"])(z:FnL P w K mg base 2 "_law_laid" 2 F_law_laid)(I:FnD P w K mg base 2 "_law_row" 4 F_law_row_k22)(J:FnD P w K mg base 1 "_law_cell" 2 F_law_cell)(O:FnY P w K mg base 2 "_law_step" 2 4 F_law_step)(Y:mg "enumerate" = none)(a0:mg "range" = none):FnD P w K mg base 3 "_law_built" 5 F_law_built:=
 k7 (N:=["_law_script","_law_at","_law_p","_law_ways_here","_law_some","_law_widths","_law_tables","_law_room","_law_width","_law_k","_law_cell_here"]) D ⋯ λX hP hw hK hm hb h0 hx=>by
  subst hP hw hK hm hb;exact ZN 5 6 z ⋯ h0 ⋯ (za (zb 3 (h0.var ⋯)) (za (zb 4 (h0.var ⋯)) zf)) (h0.tgts (zD (h0.tgt 5 ⋯) (zD (h0.tgt 6 ⋯) jz))) (zaM (VB (T:= .tp [7,8]) (qr hx) h0.calm (zbx h0 ⋯ Y (zb 5 (h0.var ⋯))) (h0.tgts (zD (h0.tgt 7 ⋯) (zD (h0.tgt 8 ⋯) jz))) (vG (VB (T:= .nm 9) (qr hx) h0.calm (jJ h0 ⋯ a0 (jO zg (zb 8 (h0.var ⋯)))) (h0.tgt 9 ⋯) (Jx (Vz (T:= .nm 10) (h0.set 10 ⋯ (jB J ⋯ h0 ⋯ (za (zb 0 (h0.var ⋯)) (za (jj (jj (zb 1 (h0.var ⋯)) (jO zg (zb 7 (h0.var ⋯)))) (zb 9 (h0.var ⋯))) zf))))) (vG (zcx O ⋯ h0 ⋯ zhq (by rfl) (QI (zb 2 (h0.var ⋯)) (QI (zb 3 (h0.var ⋯)) (zbC (h0.var ⋯) (kz (zb 7 (h0.var ⋯)) (kz (jG (zb 10 (h0.var ⋯)) (zb 8 (h0.var ⋯))) (kz (jG (kr (zb 10 (h0.var ⋯)) zg) (zb 8 (h0.var ⋯))) (kz (jj zg (jG (kr (zb 10 (h0.var ⋯)) zg) (qZ (zb 2 (h0.var ⋯)) zg))) Yh))))))) (qI (qI QQ)) (qI (qI (qI (qI QQ)))))))))) (zae (zu (z9 (jB I ⋯ h0 ⋯ (za (zb 2 (h0.var ⋯)) (za (zb 3 (h0.var ⋯)) (za (zb 5 (h0.var ⋯)) (za (zb 6 (h0.var ⋯)) zf)))))))))
theorem ok_stretches_of(D:DefAt K mg "stretches_of" (top 28) ["many"])(z:mg "range" = none):FnD P w K mg base 1 "stretches_of" 1 F_stretches_of:=
 k7 (N:=["many","found","i"]) D ⋯ λX I hw J hm O h0 hx=>by
  subst I hw J hm O;exact(by refine zh ?_ ?_;exact(qO 1 (h0.set 1 ⋯ (we (qQ zf))));refine zh ?_ ?_;exact(qB (T:= .nm 2) (qr hx) h0.calm (jJ h0 ⋯ z (zb 0 (h0.var ⋯))) (h0.tgt 2 ⋯) (zu (zbq 1 h0 ⋯ (jo (own:=["j"]) (fr:=[("i",2)]) (T:= .nm 0) h0.calm (h0.compOk (fr:=[("i",2)]) ⋯) ⋯ (PIF.c (wR h0 ⋯ z (zb 2 (h0.var ⋯)) (zb 0 (h0.var ⋯)))) (λfp s2 H2=>have h1:=h0.cq ["j"] [("i",2)] fp s2 H2 ⋯;h1.tgt 0 ⋯) (λfp s2 H2=>have h1:=h0.cq ["j"] [("i",2)] fp s2 H2 ⋯;z6 (qQ (za (zb 1 (h1.var ⋯)) (za (zb 0 (h1.var ⋯)) zf))))))));exact(zu (xH 1 (h0.var ⋯))))
theorem ok_rests(D:DefAt K mg "rests" (top 4) ["p","numbers"])(z:mg "tuple" = none):FnD P w K mg base 1 "rests" 2 F_rests:=
 k7 (N:=["p","numbers"]) D ⋯ λX I hw J hm O h0 hx=>by
  subst I hw J hm O;exact zu (z9 (j5 h0 ⋯ z (PO.q (jo (own:=["x"]) (fr:=[("p",0)]) (T:= .nm 0) h0.calm (h0.compOk (fr:=[("p",0)]) ⋯) ⋯ (je (zn 1 (h0.var ⋯))) (λfp s2 H2=>have h1:=h0.cq ["x"] [("p",0)] fp s2 H2 ⋯;h1.tgt 0 ⋯) (λfp s2 H2=>have h1:=h0.cq ["x"] [("p",0)] fp s2 H2 ⋯;jG (zb 0 (h1.var ⋯)) (zb 1 (h1.var ⋯)))))))
theorem ok_inverse(D:DefAt K mg "inverse" (top 5) ["p","x"])(z:mg "range" = none):FnD P w K mg base 1 "inverse" 2 F_inverse:=
 k7 (N:=["p","x","y"]) D ⋯ λX I hw J hm O h0 hx=>by
  subst I hw J hm O;exact(by refine zh ?_ ?_;exact(qB (T:= .nm 2) (qr hx) h0.calm (wR h0 ⋯ z zg (zb 0 (h0.var ⋯))) (h0.tgt 2 ⋯) (zu (kt (xf h0 (jG (jO (zb 1 (h0.var ⋯)) (zb 2 (h0.var ⋯))) (zb 0 (h0.var ⋯))) zg) (zu (xH 2 (h0.var ⋯))) qg)));exact(zu K2))
theorem ok_cleared(D:DefAt K mg "cleared" (top 11) ["p","load","pivot","place"])(z:FnD P w K mg base 1 "rests" 2 F_rests)(I:mg "zip" = none):FnD P w K mg base 2 "cleared" 4 F_cleared:=
 k7 (N:=["p","load","pivot","place","much"]) D ⋯ λX J hw O hm Y h0 hx=>by
  subst J hw O hm Y;exact(by refine zh ?_ ?_;exact(zR 4 (h0.set 4 ⋯ (zL (zn 1 (h0.var ⋯)) (zb 3 (h0.var ⋯)))));refine zh ?_ ?_;exact(kt (xf h0 (zb 4 (h0.var ⋯)) zg) (zu (xH 1 (h0.var ⋯))) qg);exact(zu (z9 (jB z ⋯ h0 ⋯ (za (zb 0 (h0.var ⋯)) (za (PO.v (jo (own:=["x","y"]) (fr:=[("much",4)]) (T:= .tp [0,1]) h0.calm (h0.compOk (fr:=[("much",4)]) ⋯) ⋯ (PIF.c (ZR h0 ⋯ I (zb 1 (h0.var ⋯)) (zb 2 (h0.var ⋯)))) (λfp s2 H2=>have h1:=h0.cq ["x","y"] [("much",4)] fp s2 H2 ⋯;h1.tgts (zD (h1.tgt 0 ⋯) (zD (h1.tgt 1 ⋯) jz))) (λfp s2 H2=>have h1:=h0.cq ["x","y"] [("much",4)] fp s2 H2 ⋯;qZ (zb 0 (h1.var ⋯)) (jO (zb 2 (h1.var ⋯)) (zb 1 (h1.var ⋯)))))) zf))))))
theorem ok_base_of(D:DefAt K mg "base_of" (top 12) ["p","long","loads"])(z:FnD P w K mg base 1 "rests" 2 F_rests)(J:FnD P w K mg base 1 "inverse" 2 F_inverse)(I:FnD P w K mg base 2 "cleared" 4 F_cleared)(O:mg "range" = none):FnD P w K mg base 3 "base_of" 3 F_base_of:=
 k7 (N:=["p","long","loads","left","base","place","leading","times","pivot"]) D ⋯ λX Y hw hK hm hb h0 hx=>by
  subst Y hw hK hm hb;exact(by refine zh ?_ ?_;exact(j6 3 (psc 3 h0 ⋯ (own:=["load"]) (fr:=[("p",0)]) (T:= .nm 0) h0.calm (h0.compOk (fr:=[("p",0)]) ⋯) ⋯ (je (zn 2 (h0.var ⋯))) (λfp s2 H2=>have h1:=h0.cq ["load"] [("p",0)] fp s2 H2 ⋯;h1.tgt 0 ⋯) (λfp s2 H2=>have h1:=h0.cq ["load"] [("p",0)] fp s2 H2 ⋯;jB z ⋯ h1 ⋯ (za (zb 1 (h1.var ⋯)) (za (zb 0 (h1.var ⋯)) zf)))));refine zh ?_ ?_;exact(qO 4 (h0.set 4 ⋯ (we (qQ zf))));refine zh ?_ ?_;exact(qB (T:= .nm 5) (qr hx) h0.calm (jJ h0 ⋯ O (zb 1 (h0.var ⋯))) (h0.tgt 5 ⋯) ((by refine zh ?_ ?_;exact(j6 6 (zfo 6 h0 ⋯ (own:=["load"]) (fr:=[("place",5)]) (T:= .nm 0) h0.calm (h0.compOk (fr:=[("place",5)]) ⋯) ⋯ (je (zn 3 (h0.var ⋯))) (λfp s2 H2=>have h1:=h0.cq ["load"] [("place",5)] fp s2 H2 ⋯;h1.tgt 0 ⋯) (λfp s2 H2=>have h1:=h0.cq ["load"] [("place",5)] fp s2 H2 ⋯;ZM h1 (zL (zn 0 (h1.var ⋯)) (zb 1 (h1.var ⋯))) zg) (λfp s2 H2=>have h1:=h0.cq ["load"] [("place",5)] fp s2 H2 ⋯;zb 0 (h1.var ⋯))));refine zh ?_ ?_;exact(kt (kW (Wa (zn 6 (h0.var ⋯)))) (zu ZO) qg);refine zh ?_ ?_;exact(zR 7 (h0.set 7 ⋯ (jB J ⋯ h0 ⋯ (za (zb 0 (h0.var ⋯)) (za (zL (PV.q (zL (zn 6 (h0.var ⋯)) zg)) (zb 5 (h0.var ⋯))) zf)))));refine zh ?_ ?_;exact(zR 8 (h0.set 8 ⋯ (jB z ⋯ h0 ⋯ (za (zb 0 (h0.var ⋯)) (za (PO.v (jo (own:=["x"]) (fr:=[("times",7)]) (T:= .nm 0) h0.calm (h0.compOk (fr:=[("times",7)]) ⋯) ⋯ (je (PV.q (zL (zn 6 (h0.var ⋯)) zg))) (λfp s2 H2=>have h1:=h0.cq ["x"] [("times",7)] fp s2 H2 ⋯;h1.tgt 0 ⋯) (λfp s2 H2=>have h1:=h0.cq ["x"] [("times",7)] fp s2 H2 ⋯;jO (zb 1 (h1.var ⋯)) (zb 0 (h1.var ⋯))))) zf)))));refine zh ?_ ?_;exact(j6 3 (psc 3 h0 ⋯ (own:=["load"]) (fr:=[("p",0),("place",5),("pivot",8)]) (T:= .nm 0) h0.calm (h0.compOk (fr:=[("p",0),("place",5),("pivot",8)]) ⋯) ⋯ (je (zn 3 (h0.var ⋯))) (λfp s2 H2=>have h1:=h0.cq ["load"] [("p",0),("place",5),("pivot",8)] fp s2 H2 ⋯;h1.tgt 0 ⋯) (λfp s2 H2=>have h1:=h0.cq ["load"] [("p",0),("place",5),("pivot",8)] fp s2 H2 ⋯;jB I ⋯ h1 ⋯ (za (zb 1 (h1.var ⋯)) (za (zb 0 (h1.var ⋯)) (za (zb 3 (h1.var ⋯)) (za (zb 2 (h1.var ⋯)) zf)))))));exact(zu (qO 4 (h0.set 4 ⋯ (K7 (PO.q (jo (own:=["load"]) (fr:=[("p",0),("place",5),("pivot",8)]) (T:= .nm 0) h0.calm (h0.compOk (fr:=[("p",0),("place",5),("pivot",8)]) ⋯) ⋯ (je (zn 4 (h0.var ⋯))) (λfp s2 H2=>have h1:=h0.cq ["load"] [("p",0),("place",5),("pivot",8)] fp s2 H2 ⋯;h1.tgt 0 ⋯) (λfp s2 H2=>have h1:=h0.cq ["load"] [("p",0),("place",5),("pivot",8)] fp s2 H2 ⋯;jB I ⋯ h1 ⋯ (za (zb 1 (h1.var ⋯)) (za (zb 0 (h1.var ⋯)) (za (zb 3 (h1.var ⋯)) (za (zb 2 (h1.var ⋯)) zf))))))) (PO.q (we (qQ (za (zb 8 (h0.var ⋯)) zf)))))))))));exact(zu (xH 4 (h0.var ⋯))))
theorem ok_led(D:DefAt K mg "led" (top 6) ["p","table","load"])(z:FnD P w K mg base 1 "rests" 2 F_rests)(I:mg "sum" = none)(J:mg "zip" = none):FnD P w K mg base 2 "led" 3 F_led:=
 k7 (N:=["p","table","load"]) D ⋯ λX O hw Y hm hb h0 hx=>by
  subst O hw Y hm hb;exact zu (z9 (jB z ⋯ h0 ⋯ (za (zb 0 (h0.var ⋯)) (za (PO.v (jo (own:=["row"]) (fr:=[("load",2)]) (T:= .nm 0) h0.calm (h0.compOk (fr:=[("load",2)]) ⋯) ⋯ (je (PV.q (zL (zn 1 (h0.var ⋯)) zg))) (λfp s2 H2=>have h1:=h0.cq ["row"] [("load",2)] fp s2 H2 ⋯;h1.tgt 0 ⋯) (λfp s2 H2=>have h1:=h0.cq ["row"] [("load",2)] fp s2 H2 ⋯;zc7 h1 ⋯ I (PO.q (jo (own:=["x","y"]) (fr:=[]) (T:= .tp [0,1]) h1.calm (h1.compOk (fr:=[]) ⋯) ⋯ (PIF.c (ZR h1 ⋯ J (zb 0 (h1.var ⋯)) (zb 1 (h1.var ⋯)))) (λfp s2 H2=>have h2:=h1.cq ["x","y"] [] fp s2 H2 ⋯;h2.tgts (zD (h2.tgt 0 ⋯) (zD (h2.tgt 1 ⋯) jz))) (λfp s2 H2=>have h2:=h1.cq ["x","y"] [] fp s2 H2 ⋯;jO (zb 0 (h2.var ⋯)) (zb 1 (h2.var ⋯)))))))) zf))))
theorem ok_led_on(D:DefAt K mg "led_on" (top 14) ["p","table","base"])(z:FnD P w K mg base 3 "base_of" 3 F_base_of)(I:FnD P w K mg base 2 "led" 3 F_led):FnD P w K mg base 4 "led_on" 3 F_led_on:=
 k7 (N:=["p","table","base"]) D ⋯ λX J hw O hm Y h0 hx=>by
  subst J hw O hm Y;exact zu (yu (vM z ⋯ h0 ⋯ (za (zb 0 (h0.var ⋯)) (za (zL (zn 1 (h0.var ⋯)) zg) (za (PO.v (jo (own:=["load"]) (fr:=[("p",0),("table",1)]) (T:= .nm 0) h0.calm (h0.compOk (fr:=[("p",0),("table",1)]) ⋯) ⋯ (je (zn 2 (h0.var ⋯))) (λfp s2 H2=>have h1:=h0.cq ["load"] [("p",0),("table",1)] fp s2 H2 ⋯;h1.tgt 0 ⋯) (λfp s2 H2=>have h1:=h0.cq ["load"] [("p",0),("table",1)] fp s2 H2 ⋯;jB I ⋯ h1 ⋯ (za (zb 1 (h1.var ⋯)) (za (zb 2 (h1.var ⋯)) (za (zb 0 (h1.var ⋯)) zf)))))) zf)))))
theorem ok_behind_noughts(D:DefAt K mg "behind_noughts" (top 13) ["many","base"])(z:mg "any" = none):FnD P w K mg base 1 "behind_noughts" 2 F_behind_noughts:=
 k7 (N:=["many","base"]) D ⋯ λX I hw J hm O h0 hx=>by
  subst I hw J hm O;exact zu (yu (yZ (own:=["load"]) (fr:=[("many",0)]) (T:= .nm 0) h0.calm (h0.compOk (fr:=[("many",0)]) ⋯) ⋯ (je (zn 1 (h0.var ⋯))) (λfp s2 H2=>have h1:=h0.cq ["load"] [("many",0)] fp s2 H2 ⋯;h1.tgt 0 ⋯) (λfp s2 H2=>have h1:=h0.cq ["load"] [("many",0)] fp s2 H2 ⋯;kW (yX (zdd h1 ⋯ z (PV.q (ZJ (zb 0 (h1.var ⋯)) wT (kX (zb 1 (h1.var ⋯)))))))) (λfp s2 H2=>have h1:=h0.cq ["load"] [("many",0)] fp s2 H2 ⋯;ZJ (zb 0 (h1.var ⋯)) (kX (zb 1 (h1.var ⋯))) wT)))
theorem ok_turned_over(D:DefAt K mg "turned_over" (top 7) ["table"])(I:mg "range" = none)(z:mg "tuple" = none):FnD P w K mg base 1 "turned_over" 1 F_turned_over:=
 k7 (N:=["table","columns"]) D ⋯ λX J hw O hm Y h0 hx=>by
  subst J hw O hm Y;exact(by refine zh ?_ ?_;exact(j6 1 (psc 1 h0 ⋯ (own:=["j"]) (fr:=[("table",0)]) (T:= .nm 0) h0.calm (h0.compOk (fr:=[("table",0)]) ⋯) ⋯ (PIF.c (jJ h0 ⋯ I (zL (zn 0 (h0.var ⋯)) zg))) (λfp s2 H2=>have h1:=h0.cq ["j"] [("table",0)] fp s2 H2 ⋯;h1.tgt 0 ⋯) (λfp s2 H2=>have h1:=h0.cq ["j"] [("table",0)] fp s2 H2 ⋯;j5 h1 ⋯ z (PO.q (jo (own:=["row"]) (fr:=[("j",0)]) (T:= .nm 0) h1.calm (h1.compOk (fr:=[("j",0)]) ⋯) ⋯ (je (PV.q (zL (zn 1 (h1.var ⋯)) zg))) (λfp s2 H2=>have h2:=h1.cq ["row"] [("j",0)] fp s2 H2 ⋯;h2.tgt 0 ⋯) (λfp s2 H2=>have h2:=h1.cq ["row"] [("j",0)] fp s2 H2 ⋯;zL (zn 0 (h2.var ⋯)) (zb 1 (h2.var ⋯))))))));exact(zu (z9 (z6 (qQ (za (zL (zn 0 (h0.var ⋯)) zg) (za (zL (zn 0 (h0.var ⋯)) zg) (za (j5 h0 ⋯ z (zn 1 (h0.var ⋯))) zf))))))))
theorem ok_same_table(D:DefAt K mg "same_table" (top 8) ["many"])(z:mg "range" = none)(I:mg "tuple" = none):FnD P w K mg base 1 "same_table" 1 F_same_table:=
 k7 (N:=["many","rows"]) D ⋯ λX J hw O hm Y h0 hx=>by
  subst J hw O hm Y;exact(by refine zh ?_ ?_;exact(j6 1 (psc 1 h0 ⋯ (own:=["i"]) (fr:=[("many",0)]) (T:= .nm 0) h0.calm (h0.compOk (fr:=[("many",0)]) ⋯) ⋯ (PIF.c (jJ h0 ⋯ z (zb 0 (h0.var ⋯)))) (λfp s2 H2=>have h1:=h0.cq ["i"] [("many",0)] fp s2 H2 ⋯;h1.tgt 0 ⋯) (λfp s2 H2=>have h1:=h0.cq ["i"] [("many",0)] fp s2 H2 ⋯;j5 h1 ⋯ I (PO.q (jo (own:=["j"]) (fr:=[("i",0)]) (T:= .nm 0) h1.calm (h1.compOk (fr:=[("i",0)]) ⋯) ⋯ (PIF.c (jJ h1 ⋯ z (zb 1 (h1.var ⋯)))) (λfp s2 H2=>have h2:=h1.cq ["j"] [("i",0)] fp s2 H2 ⋯;h2.tgt 0 ⋯) (λfp s2 H2=>have h2:=h1.cq ["j"] [("i",0)] fp s2 H2 ⋯;V9 (xf h2 (zb 1 (h2.var ⋯)) (zb 0 (h2.var ⋯))) zg zg))))));exact(zu (z9 (z6 (qQ (za (zb 0 (h0.var ⋯)) (za (zb 0 (h0.var ⋯)) (za (j5 h0 ⋯ I (zn 1 (h0.var ⋯))) zf))))))))
theorem ok_led_into(D:DefAt K mg "led_into" (top 15) ["p","table","base"])(z:FnD P w K mg base 1 "behind_noughts" 2 F_behind_noughts)(I:FnD P w K mg base 3 "base_of" 3 F_base_of)(J:FnD P w K mg base 1 "turned_over" 1 F_turned_over)(O:FnD P w K mg base 1 "same_table" 1 F_same_table)(Y:mg "zip" = none):FnD P w K mg base 4 "led_into" 3 F_led_into:=
 k7 (N:=["p","table","base","pairs","free"]) D ⋯ λX hP hw hK hm hb h0 hx=>by
  subst hP hw hK hm hb;exact(by refine zh ?_ ?_;exact(j6 3 (psc 3 h0 ⋯ (own:=["column","unit"]) (fr:=[]) (T:= .tp [0,1]) h0.calm (h0.compOk (fr:=[]) ⋯) ⋯ (PIF.c (ZR h0 ⋯ Y (zL (PV.q (jB J ⋯ h0 ⋯ (za (zb 1 (h0.var ⋯)) zf))) zg) (zL (PV.q (jB O ⋯ h0 ⋯ (za (zL (zn 1 (h0.var ⋯)) zg) zf))) zg))) (λfp s2 H2=>have h1:=h0.cq ["column","unit"] [] fp s2 H2 ⋯;h1.tgts (zD (h1.tgt 0 ⋯) (zD (h1.tgt 1 ⋯) jz))) (λfp s2 H2=>have h1:=h0.cq ["column","unit"] [] fp s2 H2 ⋯;jj (zb 0 (h1.var ⋯)) (zb 1 (h1.var ⋯)))));refine zh ?_ ?_;exact(j6 4 (psc 4 h0 ⋯ (own:=["load"]) (fr:=[("table",1)]) (T:= .nm 0) h0.calm (h0.compOk (fr:=[("table",1)]) ⋯) ⋯ (je (zn 2 (h0.var ⋯))) (λfp s2 H2=>have h1:=h0.cq ["load"] [("table",1)] fp s2 H2 ⋯;h1.tgt 0 ⋯) (λfp s2 H2=>have h1:=h0.cq ["load"] [("table",1)] fp s2 H2 ⋯;jj (zb 0 (h1.var ⋯)) (jO (z6 (qQ (za zg zf))) (zL (zn 1 (h1.var ⋯)) zg)))));exact(zu (yu (vM z ⋯ h0 ⋯ (za (zL (zn 1 (h0.var ⋯)) zg) (za (PO.v (vM I ⋯ h0 ⋯ (za (zb 0 (h0.var ⋯)) (za (jj (zL (zn 1 (h0.var ⋯)) zg) (zL (zn 1 (h0.var ⋯)) zg)) (za (PO.v (K7 (zn 3 (h0.var ⋯)) (zn 4 (h0.var ⋯)))) zf))))) zf))))))
theorem ok_tables_joined(D:DefAt K mg "tables_joined" (top 22) ["one","other","join"])(z:mg "tuple" = none)(I:mg "zip" = none):FnD P w K mg base 1 "tables_joined" 3 F_tables_joined:=
 k7 (N:=["one","other","join","first","second"]) D ⋯ λX J hw O hm Y h0 hx=>by
  subst J hw O hm Y;exact(by refine zh ?_ ?_;exact(j6 3 (psc 3 h0 ⋯ (own:=["row","beyond"]) (fr:=[]) (T:= .tp [0,1]) h0.calm (h0.compOk (fr:=[]) ⋯) ⋯ (PIF.c (ZR h0 ⋯ I (zL (zn 0 (h0.var ⋯)) zg) (zL (zn 2 (h0.var ⋯)) zg))) (λfp s2 H2=>have h1:=h0.cq ["row","beyond"] [] fp s2 H2 ⋯;h1.tgts (zD (h1.tgt 0 ⋯) (zD (h1.tgt 1 ⋯) jz))) (λfp s2 H2=>have h1:=h0.cq ["row","beyond"] [] fp s2 H2 ⋯;jj (zb 0 (h1.var ⋯)) (zb 1 (h1.var ⋯)))));refine zh ?_ ?_;exact(j6 4 (psc 4 h0 ⋯ (own:=["row"]) (fr:=[("one",0)]) (T:= .nm 0) h0.calm (h0.compOk (fr:=[("one",0)]) ⋯) ⋯ (je (PV.q (zL (zn 1 (h0.var ⋯)) zg))) (λfp s2 H2=>have h1:=h0.cq ["row"] [("one",0)] fp s2 H2 ⋯;h1.tgt 0 ⋯) (λfp s2 H2=>have h1:=h0.cq ["row"] [("one",0)] fp s2 H2 ⋯;jj (jO (z6 (qQ (za zg zf))) (zL (zn 1 (h1.var ⋯)) zg)) (zb 0 (h1.var ⋯)))));exact(zu (z9 (z6 (qQ (za (jj (zL (zn 0 (h0.var ⋯)) zg) (zL (zn 1 (h0.var ⋯)) zg)) (za (jj (zL (zn 0 (h0.var ⋯)) zg) (zL (zn 1 (h0.var ⋯)) zg)) (za (j5 h0 ⋯ z (PV.q (PO.v (K7 (zn 3 (h0.var ⋯)) (zn 4 (h0.var ⋯)))))) zf))))))))
theorem ok_nought_table(D:DefAt K mg "nought_table" (top 9) ["high","wide"]):FnD P w K mg base 1 "nought_table" 2 F_nought_table:=
 k7 (N:=["high","wide"]) D ⋯ λX z hw I hm J h0 hx=>by
  subst z hw I hm J;exact zu (z9 (z6 (qQ (za (zb 0 (h0.var ⋯)) (za (zb 1 (h0.var ⋯)) (za (jO (z6 (qQ (za (jO (z6 (qQ (za zg zf))) (zb 1 (h0.var ⋯))) zf))) (zb 0 (h0.var ⋯))) zf))))))
theorem ok_no_join(D:DefAt K mg "no_join" (top 23) ["one","other"])(z:FnD P w K mg base 1 "nought_table" 2 F_nought_table):FnD P w K mg base 2 "no_join" 2 F_no_join:=
 k7 (N:=["one","other"]) D ⋯ λX I hw J hm O h0 hx=>by
  subst I hw J hm O;exact zu (z9 (jB z ⋯ h0 ⋯ (za (zL (zn 0 (h0.var ⋯)) zg) (za (zL (zn 1 (h0.var ⋯)) zg) zf))))
theorem ok_tables_beside_5(D:DefAt K mg "tables_beside" (top 24) ["one","other"])(z:FnD P w K mg base 1 "tables_joined" 3 F_tables_joined)(I:FnD P w K mg base 2 "no_join" 2 F_no_join):FnD P w K mg base 3 "tables_beside" 2 F_tables_beside_5:=
 k7 (N:=["one","other"]) D ⋯ λX J hw O hm Y h0 hx=>by
  subst J hw O hm Y;exact zu (z9 (jB z ⋯ h0 ⋯ (za (zb 0 (h0.var ⋯)) (za (zb 1 (h0.var ⋯)) (za (jB I ⋯ h0 ⋯ (za (zb 0 (h0.var ⋯)) (za (zb 1 (h0.var ⋯)) zf))) zf)))))
theorem ok_link(D:DefAt K mg "link" (top 26) ["row","i","j"])(a3:FnD P w K mg base 4 "led_on" 3 F_led_on)(a4:FnD P w K mg base 4 "led_into" 3 F_led_into)(z:FnD P w K mg base 1 "same_table" 1 F_same_table)(I:FnD P w K mg base 3 "tables_beside" 2 F_tables_beside_5)(J:FnBy P w K mg base 3 "arrow_by" CR CL)(O:MethAt P w K mg base 5 CR F_led_on)(Y:MethAt P w K mg base 5 CL F_led_into):FnD P w K mg base 6 "link" 3 F_link:=
 k7 (N:=["row","i","j","same","base","arrow"]) D ⋯ λX hP hw hK hm hb h0 hx=>by
  subst hP hw hK hm hb;exact(by refine zh ?_ ?_;exact(zR 3 (h0.set 3 ⋯ (jB z ⋯ h0 ⋯ (za (zL (PV.q (zL (zn 0 (h0.var ⋯)) zg)) (zb 1 (h0.var ⋯))) zf))));refine zh ?_ ?_;exact(qO 4 (psc 4 h0 ⋯ (own:=["unit"]) (fr:=[]) (T:= .nm 0) h0.calm (h0.compOk (fr:=[]) ⋯) ⋯ (je (PV.q (zL (zn 3 (h0.var ⋯)) zg))) (λfp s2 H2=>have h1:=h0.cq ["unit"] [] fp s2 H2 ⋯;h1.tgt 0 ⋯) (λfp s2 H2=>have h1:=h0.cq ["unit"] [] fp s2 H2 ⋯;jj (zb 0 (h1.var ⋯)) (zb 0 (h1.var ⋯)))));refine zh ?_ ?_;exact(qB (T:= .nm 5) (qr hx) h0.calm (zbw (ZJ (zL (zn 0 (h0.var ⋯)) zg) (kX (zb 1 (h0.var ⋯))) (kX (zb 2 (h0.var ⋯))))) (h0.tgt 5 ⋯) (zu (zbp 4 (qO 4 (h0.set 4 ⋯ (Wh J O Y ⋯ ⋯ ⋯ h0 ⋯ (zL (zn 0 (h0.var ⋯)) zg) (zL (zn 5 (h0.var ⋯)) zg) (jB I ⋯ h0 ⋯ (za (zb 3 (h0.var ⋯)) (za (zL (zn 5 (h0.var ⋯)) zg) zf))) (zb 4 (h0.var ⋯))))))));exact(zu (xH 4 (h0.var ⋯))))
theorem ok_kept(D:DefAt K mg "kept" (top 27) ["row","i","j"])(J:FnD P w K mg base 6 "link" 3 F_link)(O:FnD P w K mg base 3 "base_of" 3 F_base_of)(I:FnD P w K mg base 1 "behind_noughts" 2 F_behind_noughts)(z:mg "len" = none):FnD P w K mg base 7 "kept" 3 F_kept:=
 k7 (N:=["row","i","j","base","first","second","swapped"]) D ⋯ λX Y hw hK hm hb h0 hx=>by
  subst Y hw hK hm hb;exact(by refine zh ?_ ?_;exact(zR 3 (h0.set 3 ⋯ (PO.v (vM J ⋯ h0 ⋯ (za (zb 0 (h0.var ⋯)) (za (zb 1 (h0.var ⋯)) (za (zb 2 (h0.var ⋯)) zf)))))));refine zh ?_ ?_;exact(zR 4 (h0.set 4 ⋯ (zL (PV.q (zL (zn 0 (h0.var ⋯)) zg)) (zb 1 (h0.var ⋯)))));refine zh ?_ ?_;exact(zR 5 (h0.set 5 ⋯ (zL (PV.q (zL (zn 0 (h0.var ⋯)) zg)) (zb 2 (h0.var ⋯)))));refine zh ?_ ?_;exact(zR 6 (h0.set 6 ⋯ (PO.v (vM O ⋯ h0 ⋯ (za (zL (zn 0 (h0.var ⋯)) zg) (za (jj (zb 5 (h0.var ⋯)) (zb 4 (h0.var ⋯))) (za (PO.v (jo (own:=["load"]) (fr:=[("first",4)]) (T:= .nm 0) h0.calm (h0.compOk (fr:=[("first",4)]) ⋯) ⋯ (je (zn 3 (h0.var ⋯))) (λfp s2 H2=>have h1:=h0.cq ["load"] [("first",4)] fp s2 H2 ⋯;h1.tgt 0 ⋯) (λfp s2 H2=>have h1:=h0.cq ["load"] [("first",4)] fp s2 H2 ⋯;jj (ZJ (zb 0 (h1.var ⋯)) (kX (zb 1 (h1.var ⋯))) wT) (ZJ (zb 0 (h1.var ⋯)) wT (kX (zb 1 (h1.var ⋯))))))) zf)))))));exact(zu (z9 (qZ (qZ (xc h0 ⋯ z (zn 3 (h0.var ⋯))) (xc h0 ⋯ z (PO.q (vM I ⋯ h0 ⋯ (za (zb 5 (h0.var ⋯)) (za (zb 6 (h0.var ⋯)) zf)))))) (xc h0 ⋯ z (PO.q (vM I ⋯ h0 ⋯ (za (zb 4 (h0.var ⋯)) (za (zb 3 (h0.var ⋯)) zf)))))))))
theorem ok_number_of(D:DefAt K mg "number_of" (top 29) ["much","i","j"]):FnD P w K mg base 1 "number_of" 3 F_number_of:=
 k7 (N:=["much","i","j","longer"]) D ⋯ λX z hw I hm J h0 hx=>by
  subst z hw I hm J;exact(by refine zh ?_ ?_;exact(zR 3 (h0.set 3 ⋯ (jj (JF h0 (zb 0 (h0.var ⋯)) (z6 (qQ (za (qZ (zb 1 (h0.var ⋯)) zg) (za (zb 2 (h0.var ⋯)) zf)))) zg) (JF h0 (zb 0 (h0.var ⋯)) (z6 (qQ (za (zb 1 (h0.var ⋯)) (za (jj (zb 2 (h0.var ⋯)) zg) zf)))) zg))));exact(zu (z9 (jj (qZ (JG h0 (zb 0 (h0.var ⋯)) (z6 (qQ (za (zb 1 (h0.var ⋯)) (za (zb 2 (h0.var ⋯)) zf))))) (zb 3 (h0.var ⋯))) (JF h0 (zb 0 (h0.var ⋯)) (z6 (qQ (za (qZ (zb 1 (h0.var ⋯)) zg) (za (jj (zb 2 (h0.var ⋯)) zg) zf)))) zg)))))
theorem ok_numbers(D:DefAt K mg "numbers" (top 30) ["row"])(I:FnD P w K mg base 1 "stretches_of" 1 F_stretches_of)(J:FnD P w K mg base 7 "kept" 3 F_kept)(O:FnD P w K mg base 1 "number_of" 3 F_number_of)(z:mg "dict" = none)(Y:mg "len" = none):FnD P w K mg base 8 "numbers" 1 F_numbers:=
 k7 (N:=["row","stretches","much"]) D ⋯ λX hP hw hK hm hb h0 hx=>by
  subst hP hw hK hm hb;exact(by refine zh ?_ ?_;exact(zR 1 (h0.set 1 ⋯ (PO.v (vM I ⋯ h0 ⋯ (za (xc h0 ⋯ Y (PV.q (zL (zn 0 (h0.var ⋯)) zg))) zf)))));refine zh ?_ ?_;exact(zR 2 (h0.set 2 ⋯ (wM h0 ⋯ z (jo (own:=["i","j"]) (fr:=[("row",0)]) (T:= .tp [0,1]) h0.calm (h0.compOk (fr:=[("row",0)]) ⋯) ⋯ (je (zn 1 (h0.var ⋯))) (λfp s2 H2=>have h1:=h0.cq ["i","j"] [("row",0)] fp s2 H2 ⋯;h1.tgts (zD (h1.tgt 0 ⋯) (zD (h1.tgt 1 ⋯) jz))) (λfp s2 H2=>have h1:=h0.cq ["i","j"] [("row",0)] fp s2 H2 ⋯;z6 (qQ (za (z6 (qQ (za (zb 0 (h1.var ⋯)) (za (zb 1 (h1.var ⋯)) zf)))) (za (jB J ⋯ h1 ⋯ (za (zb 2 (h1.var ⋯)) (za (zb 0 (h1.var ⋯)) (za (zb 1 (h1.var ⋯)) zf)))) zf))))))));exact(zu (z9 (wM h0 ⋯ z (jo (own:=["i","j"]) (fr:=[("much",2)]) (T:= .tp [0,1]) h0.calm (h0.compOk (fr:=[("much",2)]) ⋯) ⋯ (je (zn 1 (h0.var ⋯))) (λfp s2 H2=>have h1:=h0.cq ["i","j"] [("much",2)] fp s2 H2 ⋯;h1.tgts (zD (h1.tgt 0 ⋯) (zD (h1.tgt 1 ⋯) jz))) (λfp s2 H2=>have h1:=h0.cq ["i","j"] [("much",2)] fp s2 H2 ⋯;z6 (qQ (za (z6 (qQ (za (zb 0 (h1.var ⋯)) (za (zb 1 (h1.var ⋯)) zf)))) (za (jB O ⋯ h1 ⋯ (za (zb 2 (h1.var ⋯)) (za (zb 0 (h1.var ⋯)) (za (zb 1 (h1.var ⋯)) zf)))) zf)))))))))
theorem okf_numbers(D:DefAt K mg "numbers" (top 30) ["row"])(I:FnD P w K mg base 1 "stretches_of" 1 F_stretches_of)(J:FnD P w K mg base 7 "kept" 3 F_kept)(O:FnD P w K mg base 1 "number_of" 3 F_number_of)(z:mg "dict" = none)(Y:mg "len" = none):FnF P w K mg base 8 "numbers" 1 F_numbers:=
 zg1 (N:=["row","stretches","much"]) D ⋯ λX hP hw hK hm hb h0 hx=>by
  subst hP hw hK hm hb;exact zd3 (zR 1 (h0.set 1 ⋯ (PO.v (vM I ⋯ h0 ⋯ (za (xc h0 ⋯ Y (PV.q (zL (zn 0 (h0.var ⋯)) zg))) zf))))) (zd3 (zR 2 (h0.set 2 ⋯ (wM h0 ⋯ z (jo (own:=["i","j"]) (fr:=[("row",0)]) (T:= .tp [0,1]) h0.calm (h0.compOk (fr:=[("row",0)]) ⋯) ⋯ (je (zn 1 (h0.var ⋯))) (λfp s2 H2=>have h1:=h0.cq ["i","j"] [("row",0)] fp s2 H2 ⋯;h1.tgts (zD (h1.tgt 0 ⋯) (zD (h1.tgt 1 ⋯) jz))) (λfp s2 H2=>have h1:=h0.cq ["i","j"] [("row",0)] fp s2 H2 ⋯;z6 (qQ (za (z6 (qQ (za (zb 0 (h1.var ⋯)) (za (zb 1 (h1.var ⋯)) zf)))) (za (jB J ⋯ h1 ⋯ (za (zb 2 (h1.var ⋯)) (za (zb 0 (h1.var ⋯)) (za (zb 1 (h1.var ⋯)) zf)))) zf)))))))) (zfL (KR h0 ⋯ z (jo (own:=["i","j"]) (fr:=[("much",2)]) (T:= .tp [0,1]) h0.calm (h0.compOk (fr:=[("much",2)]) ⋯) ⋯ (je (zn 1 (h0.var ⋯))) (λfp s2 H2=>have h1:=h0.cq ["i","j"] [("much",2)] fp s2 H2 ⋯;h1.tgts (zD (h1.tgt 0 ⋯) (zD (h1.tgt 1 ⋯) jz))) (λfp s2 H2=>have h1:=h0.cq ["i","j"] [("much",2)] fp s2 H2 ⋯;z6 (qQ (za (z6 (qQ (za (zb 0 (h1.var ⋯)) (za (zb 1 (h1.var ⋯)) zf)))) (za (jB O ⋯ h1 ⋯ (za (zb 2 (h1.var ⋯)) (za (zb 0 (h1.var ⋯)) (za (zb 1 (h1.var ⋯)) zf)))) zf))))))))
theorem ok_law_whole(D:DefAt K mg "_law_whole" (top 33) ["_law_found"])(I:mg "bool" = none)(J:mg "int" = none)(z:mg "isinstance" = none):FnD P w K mg base 1 "_law_whole" 1 F_law_whole:=
 k7 (N:=["_law_found"]) D ⋯ λX O hw Y hm hb h0 hx=>by
  subst O hw Y hm hb;exact zu (z9 (zde (KU h0 ⋯ z ⋯ J (zb 0 (h0.var ⋯))) (zc8 (zc9 (XC h0 ⋯ z ⋯ I (zb 0 (h0.var ⋯)))))))
theorem ok_law_is_dict(D:DefAt K mg "_law_is_dict" (top 41) ["_law_found","_law_rooms","_law_some"])(I:FnD P w K mg base 1 "_law_whole" 1 F_law_whole)(J:mg "dict" = none)(O:mg "isinstance" = none)(Y:mg "len" = none)(z:mg "range" = none):FnD P w K mg base 2 "_law_is_dict" 3 F_law_is_dict:=
 k7 (N:=["_law_found","_law_rooms","_law_some","_law_i","_law_j"]) D ⋯ λX hP hw hK hm hb h0 hx=>by
  subst hP hw hK hm hb;exact(by refine zh ?_ ?_;exact(kt (JI (KQ (kW (yX (V8 h0 ⋯ O ⋯ J (zb 0 (h0.var ⋯))))) (KP (ZM h0 (zbk h0 ⋯ Y (zb 0 (h0.var ⋯))) (kr (jO (zb 1 (h0.var ⋯)) (jj (zb 1 (h0.var ⋯)) zg)) zg))))) (zu (z9 KY)) qg);refine zh ?_ ?_;exact(qB (T:= .nm 3) (qr hx) h0.calm (jJ h0 ⋯ z (zb 1 (h0.var ⋯))) (h0.tgt 3 ⋯) (zu (qB (T:= .nm 4) (qr hx) h0.calm (wR h0 ⋯ z (zb 3 (h0.var ⋯)) (zb 1 (h0.var ⋯))) (h0.tgt 4 ⋯) (zu (kt (JI (KQ (XG h0 (z6 (qQ (za (zb 3 (h0.var ⋯)) (za (zb 4 (h0.var ⋯)) zf)))) (zb 0 (h0.var ⋯))) (KQ (kW (yX (jB I ⋯ h0 ⋯ (za (JG h0 (zb 0 (h0.var ⋯)) (z6 (qQ (za (zb 3 (h0.var ⋯)) (za (zb 4 (h0.var ⋯)) zf))))) zf)))) (KP (ZM h0 (JG h0 (zb 0 (h0.var ⋯)) (z6 (qQ (za (zb 3 (h0.var ⋯)) (za (zb 4 (h0.var ⋯)) zf))))) (KW h0 (zn 2 (h0.var ⋯)) (z6 (qQ (za (zb 3 (h0.var ⋯)) (za (zb 4 (h0.var ⋯)) zf)))))))))) (zu (z9 KY)) qg)))));exact(zu (z9 KY)))
theorem ok_law{f:Addr}{fd:FuncData}(D:L2.Fun K "law" "law" (top 42) f fd)(I:FnD P w K mg base 1 "_law_cell" 2 F_law_cell)(O:FnD P w K mg base 1 "_law_ways" 2 F_law_ways_k22)(Y:FnD P w K mg base 2 "_law_bars" 4 F_law_bars_23)(a0:FnD P w K mg base 3 "_law_built" 5 F_law_built)(J:FnD P w K mg base 8 "numbers" 1 F_numbers)(a1:FnL P w K mg base 2 "_law_laid" 2 F_law_laid)(z:FnD P w K mg base 2 "_law_is_dict" 3 F_law_is_dict)(a2:FnD P w K mg base 2 "_law_row" 4 F_law_row_k22)(a3:FnF P w K mg base 8 "numbers" 1 F_numbers):FnOk P w K mg base CX0 9 f fd ["_law_script"] (spF K 1 F_law_k24):=
 zfK (N:=["_law_script","_law_cell_here","_law_p","_law_rooms","_law_ways_here","_law_some","_law_row_here","_law_found","_law_widths","_law_tables"]) D ⋯ λX hP hw hK hm hb h0 hx=>by
  subst hP hw hK hm hb;exact(by refine zh ?_ ?_;exact(zR 1 (h0.set 1 ⋯ (jB I ⋯ h0 ⋯ (za (zb 0 (h0.var ⋯)) (za zg zf)))));refine zh ?_ ?_;exact(zR 2 (h0.set 2 ⋯ (zL (PO.q (we (qQ (za zg (za zg (za zg (za zg zf))))))) (jG (zb 1 (h0.var ⋯)) zg))));refine zh ?_ ?_;exact(zR 3 (h0.set 3 ⋯ (jj zg (jG (kr (zb 1 (h0.var ⋯)) zg) zg))));refine zh ?_ ?_;exact(zR 4 (h0.set 4 ⋯ (jB O ⋯ h0 ⋯ (za (kr (zb 1 (h0.var ⋯)) zg) (za (zb 3 (h0.var ⋯)) zf)))));refine zh ?_ ?_;exact(zR 5 (h0.set 5 ⋯ (PO.v (vM Y ⋯ h0 ⋯ (za (zb 0 (h0.var ⋯)) (za zg (za (jG (jB I ⋯ h0 ⋯ (za (zb 0 (h0.var ⋯)) (za zg zf))) zg) (za (zb 3 (h0.var ⋯)) zf))))))));refine zh ?_ ?_;exact(zR 6 (h0.set 6 ⋯ (jB a0 ⋯ h0 ⋯ (za (zb 0 (h0.var ⋯)) (za zg (za (zb 2 (h0.var ⋯)) (za (zb 4 (h0.var ⋯)) (za (zb 5 (h0.var ⋯)) zf))))))));exact(K1 7 (h0.set 7 ⋯ (zc6 a3 ⋯ h0 ⋯ (za (zb 6 (h0.var ⋯)) zf))) (kW (yX (jB z ⋯ h0 ⋯ (za (zb 7 (h0.var ⋯)) (za (zb 3 (h0.var ⋯)) (za (zb 5 (h0.var ⋯)) zf)))))) KY (zan (K4 (by have:=h0.u64;omega) (h0.var ⋯) (z6 (qQ (za zg (za zg zf)))) zg (by rfl))) (zan (K4 (by have:=h0.u64;omega) (h0.var ⋯) (z6 (qQ (za zg (za zg zf)))) zg (by rfl))) ((by refine zh ?_ ?_;exact(kt (kW (yX (jB z ⋯ h0 ⋯ (za (jB J ⋯ h0 ⋯ (za (zb 6 (h0.var ⋯)) zf)) (za (zb 3 (h0.var ⋯)) (za (zb 5 (h0.var ⋯)) zf)))))) (zu (z9 KY)) qg);exact(ZN 8 9 a1 ⋯ h0 ⋯ (za (zb 4 (h0.var ⋯)) (za (zb 5 (h0.var ⋯)) zf)) (h0.tgts (zD (h0.tgt 8 ⋯) (zD (h0.tgt 9 ⋯) jz))) (zae (zu (z9 (jB z ⋯ h0 ⋯ (za (jB J ⋯ h0 ⋯ (za (jB a2 ⋯ h0 ⋯ (za (zb 2 (h0.var ⋯)) (za (zb 4 (h0.var ⋯)) (za (zb 8 (h0.var ⋯)) (za (zb 9 (h0.var ⋯)) zf))))) zf)) (za (zb 3 (h0.var ⋯)) (za (zb 5 (h0.var ⋯)) zf))))))))))))
theorem ok_init{f C:Addr}{fd:FuncData}(z:L2.Fun K "__init__" "Arrow.__init__" (inCls (top 17) 0) f fd)(c:ClsA K C):FnOk P w K mg base CX0 1 f fd ["self","p","table"] (yK C):=
 zbX (k:=0) z ⋯ c λX I hw J hm O h0=>by
  subst I hw J hm O;exact jA (zaq (h0.var ⋯) (h0.var ⋯) rfl) (qN (zaq (h0.var ⋯) (h0.var ⋯) rfl))
theorem ok_forthR{f C:Addr}{fd:FuncData}(I:L2.Fun K "forth" "Right.forth" (inCls (top 18) 0) f fd)(c:ClsA K C)(J:FnD P w K mg base 4 "led_on" 3 F_led_on):FnOk P w K mg base CX0 5 f fd ["self","base"] (spForth K C F_led_on):=
 Q1 (k:=4) I ⋯ c λX O hw Y hm z h0=>by
  subst O hw Y hm z;obtain⟨fa,fd,ps,hn,G,hm,hk,z⟩:=J.ex;rw [hn]at G;exact qN (ku (xt G (h0.room.mono ⋯) (h0.gl (x:="led_on") ⋯).1 hm hk z .nil y7 (zF (QH (h0.var ⋯) rfl) (zF (QH (h0.var ⋯) rfl) (zF (h0.var ⋯) jp)))))
theorem ok_forthL{f C:Addr}{fd:FuncData}(I:L2.Fun K "forth" "Left.forth" (inCls (top 19) 0) f fd)(c:ClsA K C)(J:FnD P w K mg base 4 "led_into" 3 F_led_into):FnOk P w K mg base CX0 5 f fd ["self","base"] (spForth K C F_led_into):=
 Q1 (k:=4) I ⋯ c λX O hw Y hm z h0=>by
  subst O hw Y hm z;obtain⟨fa,fd,ps,hn,G,hm,hk,z⟩:=J.ex;rw [hn]at G;exact qN (ku (xt G (h0.room.mono ⋯) (h0.gl (x:="led_into") ⋯).1 hm hk z .nil y7 (zF (QH (h0.var ⋯) rfl) (zF (QH (h0.var ⋯) rfl) (zF (h0.var ⋯) jp)))))
theorem ok_by{f fI CR CL:Addr}{fd z:FuncData}(J:L2.Fun K "arrow_by" "arrow_by" (top 20) f fd)(O:Mk K CR fI)(Y:Mk K CL fI)(GR:FnOk P w K mg base CX0 1 fI z ["self","p","table"] (yK CR))(GL:FnOk P w K mg base CX0 1 fI z ["self","p","table"] (yK CL))(I:Binds K z ["self","p","table"] [])(mR:mg "Right" = some (.ref CR))(mL:mg "Left" = some (.ref CL)):FnOk P w K mg base CX0 3 f fd ["p","way","table"] (spBy CR CL):=
 zfJ (k:=2) J ⋯ λX hP hw hK hm hb h0=>by
  subst hP hw hK hm hb;exact qN (ku (L2.pe_ifExp (JK zfr (h0.var ⋯) zat (by with_unfolding_all rfl)) (Yf O GR (h0.room.mono ⋯) (h0.gl (x:="Right") ⋯).1 mR I .nil y7 (zF (h0.var ⋯) (zF (h0.var ⋯) jp))) (Yf Y GL (h0.room.mono ⋯) (h0.gl (x:="Left") ⋯).1 mL I .nil y7 (zF (h0.var ⋯) (zF (h0.var ⋯) jp)))))
end
end DL
namespace PySem.W.Fast
def tw10679328842114931270:=0
def tw8045985122990975066:=0
def tw832591568949880912:=0
def tw18291125830395564287:=0
def tw14497541796242378915:=0
def tw1809672949847971757:=0
def tw15293865574187604489:=0
def tw1972716050444812994:=0
def tw13418841129565000385:=0
def tw4469649676586002163:=0
def tw2381981339517288419:=0
def tw6439369052852957563:=0
def tw9974915586533386342:=0
def tw14334467379600212079:=0
def tw742869049561143252:=0
def tw309327158924446378:=0
def tw13327839076431907237:=0
def tw3429632438178291006:=0
def tw9829771176241240036:=0
def tw5672936066037932769:=0
def tw1641197621959116871:=0
def tw15513530243836711604:=0
def tw7205410719444223006:=0
def tw13377284457334109893:=0
def tw4197718536607166695:=0
def tw2624356519886063817:=0
def tw16100979224540694637:=0
def tw17707112946410067774:=0
def tw13120711345255669450:=0
def tw8585121666351607080:=0
def tw18001718205921986966:=0
def tw10758512048338013358:=0
def tw16055292031049026040:=0
def tw7429825195512708201:=0
def tw4049975360539049058:=0
def tw3429401649163188804:=0
def tw15129514919189212662:=0
end PySem.W.Fast
open PySem PySem.W PyProof.Rows
set_option maxRecDepth 100000 in
set_option maxHeartbeats 0 in
theorem PySem.Challenge.cw_barsplit_k24_whole_numbers_of_built_rows_holds : PySem.Challenge.rw_barsplit_k24_whole_numbers_of_built_rows.Holds := by
 w_on;o_law;k_head;(case hw=>w_witness2)
 k_fill
 refine L2.walk_ofK (l:=zha) (n:=63) (k:=9) (x:="_law_script") (CX:=L2.CX0) (sp:=λK=>DL.spF K 1 DL.F_law_k24) rfl ⋯ rfl ⟨rfl,by decide,by decide⟩ (λw h Y=>PySem.W.kIn_of Y) ?F ?S ?C
 case S=>exact λK H a ns J hO hS=>DL.law_true hS (DL.law_k24 ns J)
 case C=>exact λ_ _ _ _ z=>z
 case F=>
  intro w mg fa h I G as;have au:mg "any" = none:=zhW I G (by k_is);have av:mg "bool" = none:=zhW I G (by k_is);have a4:mg "dict" = none:=zhW I G (by k_is);have a3:mg "enumerate" = none:=zhW I G (by k_is);have ab:mg "int" = none:=zhW I G (by k_is);have ac:mg "isinstance" = none:=zhW I G (by k_is);have a0:mg "len" = none:=zhW I G (by k_is);have aw:mg "min" = none:=zhW I G (by k_is);have O:mg "range" = none:=zhW I G (by k_is);have ax:mg "sorted" = none:=zhW I G (by k_is);have ay:mg "sum" = none:=zhW I G (by k_is);have a1:mg "tuple" = none:=zhW I G (by k_is);have a2:mg "zip" = none:=zhW I G (by k_is);have az:DL.DefAt (L2.KOf I) mg "_law_cell" (DL.top 32) ["_law_script","_law_k"]:=by
   dsimp only [L2.KOf];refine' DL.def_mk I G ?a ?l ?c ?k ?b
   (case a=>k_is);(case l=>k_is);(case c=>k_is);(case k=>k_is)
   (case b=>intro _ _ _ _ _ _ us J;obtain⟨_,_,rfl⟩:=DL.len2 J;rfl)
  have b0:DL.DefAt (L2.KOf I) mg "_law_ways" (DL.top 36) ["_law_cell_here","_law_rooms"]:=by
   dsimp only [L2.KOf];refine' DL.def_mk I G ?a ?l ?c ?k ?b
   (case a=>k_is);(case l=>k_is);(case c=>k_is);(case k=>k_is)
   (case b=>intro _ _ _ _ _ _ us J;obtain⟨_,_,rfl⟩:=DL.len2 J;rfl)
  have b9:DL.DefAt (L2.KOf I) mg "_law_bars" (DL.top 37) ["_law_script","_law_at","_law_many","_law_rooms"]:=by
   dsimp only [L2.KOf];refine' DL.def_mk I G ?a ?l ?c ?k ?b
   (case a=>k_is);(case l=>k_is);(case c=>k_is);(case k=>k_is)
   (case b=>intro _ _ _ _ _ _ us J;obtain⟨_,_,_,_,rfl⟩:=DL.len4 J;rfl)
  have ba:DL.DefAt (L2.KOf I) mg "_law_ends" (DL.top 34) ["_law_k","_law_way"]:=by
   dsimp only [L2.KOf];refine' DL.def_mk I G ?a ?l ?c ?k ?b
   (case a=>k_is);(case l=>k_is);(case c=>k_is);(case k=>k_is)
   (case b=>intro _ _ _ _ _ _ us J;obtain⟨_,_,rfl⟩:=DL.len2 J;rfl)
  have bb:DL.DefAt (L2.KOf I) mg "_law_laid" (DL.top 38) ["_law_ways_here","_law_some"]:=by
   dsimp only [L2.KOf];refine' DL.def_mk I G ?a ?l ?c ?k ?b
   (case a=>k_is);(case l=>k_is);(case c=>k_is);(case k=>k_is)
   (case b=>intro _ _ _ _ _ _ us J;obtain⟨_,_,rfl⟩:=DL.len2 J;rfl)
  have bc:DL.DefAt (L2.KOf I) mg "_law_row" (DL.top 35) ["_law_p","_law_ways_here","_law_widths","_law_tables"]:=by
   dsimp only [L2.KOf];refine' DL.def_mk I G ?a ?l ?c ?k ?b
   (case a=>k_is);(case l=>k_is);(case c=>k_is);(case k=>k_is)
   (case b=>intro _ _ _ _ _ _ us J;obtain⟨_,_,_,_,rfl⟩:=DL.len4 J;rfl)
  have bd:DL.DefAt (L2.KOf I) mg "_law_step" (DL.top 39) ["_law_p","_law_ways_here","_law_tables","_law_room","_law_a","_law_b","_law_times"]:=by
   dsimp only [L2.KOf];refine' DL.def_mk I G ?a ?l ?c ?k ?b
   (case a=>k_is);(case l=>k_is);(case c=>k_is);(case k=>k_is)
   (case b=>intro _ _ _ _ _ _ us J;obtain⟨_,_,_,_,_,_,_,rfl⟩:=DL.len7 J;rfl)
  have be:DL.DefAt (L2.KOf I) mg "_law_built" (DL.top 40) ["_law_script","_law_at","_law_p","_law_ways_here","_law_some"]:=by
   dsimp only [L2.KOf];refine' DL.def_mk I G ?a ?l ?c ?k ?b
   (case a=>k_is);(case l=>k_is);(case c=>k_is);(case k=>k_is)
   (case b=>intro _ _ _ _ _ _ us J;obtain⟨_,_,_,_,_,rfl⟩:=DL.len5 J;rfl)
  have bf:DL.DefAt (L2.KOf I) mg "stretches_of" (DL.top 28) ["many"]:=by
   dsimp only [L2.KOf];refine' DL.def_mk I G ?a ?l ?c ?k ?b
   (case a=>k_is);(case l=>k_is);(case c=>k_is);(case k=>k_is)
   (case b=>intro _ _ _ _ _ _ us J;obtain⟨_,rfl⟩:=DL.len1 J;rfl)
  have bg:DL.DefAt (L2.KOf I) mg "rests" (DL.top 4) ["p","numbers"]:=by
   dsimp only [L2.KOf];refine' DL.def_mk I G ?a ?l ?c ?k ?b
   (case a=>k_is);(case l=>k_is);(case c=>k_is);(case k=>k_is)
   (case b=>intro _ _ _ _ _ _ us J;obtain⟨_,_,rfl⟩:=DL.len2 J;rfl)
  have bh:DL.DefAt (L2.KOf I) mg "inverse" (DL.top 5) ["p","x"]:=by
   dsimp only [L2.KOf];refine' DL.def_mk I G ?a ?l ?c ?k ?b
   (case a=>k_is);(case l=>k_is);(case c=>k_is);(case k=>k_is)
   (case b=>intro _ _ _ _ _ _ us J;obtain⟨_,_,rfl⟩:=DL.len2 J;rfl)
  have bi:DL.DefAt (L2.KOf I) mg "cleared" (DL.top 11) ["p","load","pivot","place"]:=by
   dsimp only [L2.KOf];refine' DL.def_mk I G ?a ?l ?c ?k ?b
   (case a=>k_is);(case l=>k_is);(case c=>k_is);(case k=>k_is)
   (case b=>intro _ _ _ _ _ _ us J;obtain⟨_,_,_,_,rfl⟩:=DL.len4 J;rfl)
  have bj:DL.DefAt (L2.KOf I) mg "base_of" (DL.top 12) ["p","long","loads"]:=by
   dsimp only [L2.KOf];refine' DL.def_mk I G ?a ?l ?c ?k ?b
   (case a=>k_is);(case l=>k_is);(case c=>k_is);(case k=>k_is)
   (case b=>intro _ _ _ _ _ _ us J;obtain⟨_,_,_,rfl⟩:=DL.len3 J;rfl)
  have bl:DL.DefAt (L2.KOf I) mg "led" (DL.top 6) ["p","table","load"]:=by
   dsimp only [L2.KOf];refine' DL.def_mk I G ?a ?l ?c ?k ?b
   (case a=>k_is);(case l=>k_is);(case c=>k_is);(case k=>k_is)
   (case b=>intro _ _ _ _ _ _ us J;obtain⟨_,_,_,rfl⟩:=DL.len3 J;rfl)
  have bm:DL.DefAt (L2.KOf I) mg "led_on" (DL.top 14) ["p","table","base"]:=by
   dsimp only [L2.KOf];refine' DL.def_mk I G ?a ?l ?c ?k ?b
   (case a=>k_is);(case l=>k_is);(case c=>k_is);(case k=>k_is)
   (case b=>intro _ _ _ _ _ _ us J;obtain⟨_,_,_,rfl⟩:=DL.len3 J;rfl)
  have bn:DL.DefAt (L2.KOf I) mg "behind_noughts" (DL.top 13) ["many","base"]:=by
   dsimp only [L2.KOf];refine' DL.def_mk I G ?a ?l ?c ?k ?b
   (case a=>k_is);(case l=>k_is);(case c=>k_is);(case k=>k_is)
   (case b=>intro _ _ _ _ _ _ us J;obtain⟨_,_,rfl⟩:=DL.len2 J;rfl)
  have bo:DL.DefAt (L2.KOf I) mg "turned_over" (DL.top 7) ["table"]:=by
   dsimp only [L2.KOf];refine' DL.def_mk I G ?a ?l ?c ?k ?b
   (case a=>k_is);(case l=>k_is);(case c=>k_is);(case k=>k_is)
   (case b=>intro _ _ _ _ _ _ us J;obtain⟨_,rfl⟩:=DL.len1 J;rfl)
  have bp:DL.DefAt (L2.KOf I) mg "same_table" (DL.top 8) ["many"]:=by
   dsimp only [L2.KOf];refine' DL.def_mk I G ?a ?l ?c ?k ?b
   (case a=>k_is);(case l=>k_is);(case c=>k_is);(case k=>k_is)
   (case b=>intro _ _ _ _ _ _ us J;obtain⟨_,rfl⟩:=DL.len1 J;rfl)
  have bq:DL.DefAt (L2.KOf I) mg "led_into" (DL.top 15) ["p","table","base"]:=by
   dsimp only [L2.KOf];refine' DL.def_mk I G ?a ?l ?c ?k ?b
   (case a=>k_is);(case l=>k_is);(case c=>k_is);(case k=>k_is)
   (case b=>intro _ _ _ _ _ _ us J;obtain⟨_,_,_,rfl⟩:=DL.len3 J;rfl)
  have br:DL.DefAt (L2.KOf I) mg "tables_joined" (DL.top 22) ["one","other","join"]:=by
   dsimp only [L2.KOf];refine' DL.def_mk I G ?a ?l ?c ?k ?b
   (case a=>k_is);(case l=>k_is);(case c=>k_is);(case k=>k_is)
   (case b=>intro _ _ _ _ _ _ us J;obtain⟨_,_,_,rfl⟩:=DL.len3 J;rfl)
  have bt:DL.DefAt (L2.KOf I) mg "nought_table" (DL.top 9) ["high","wide"]:=by
   dsimp only [L2.KOf];refine' DL.def_mk I G ?a ?l ?c ?k ?b
   (case a=>k_is);(case l=>k_is);(case c=>k_is);(case k=>k_is)
   (case b=>intro _ _ _ _ _ _ us J;obtain⟨_,_,rfl⟩:=DL.len2 J;rfl)
  have bu:DL.DefAt (L2.KOf I) mg "no_join" (DL.top 23) ["one","other"]:=by
   dsimp only [L2.KOf];refine' DL.def_mk I G ?a ?l ?c ?k ?b
   (case a=>k_is);(case l=>k_is);(case c=>k_is);(case k=>k_is)
   (case b=>intro _ _ _ _ _ _ us J;obtain⟨_,_,rfl⟩:=DL.len2 J;rfl)
  have bv:DL.DefAt (L2.KOf I) mg "tables_beside" (DL.top 24) ["one","other"]:=by
   dsimp only [L2.KOf];refine' DL.def_mk I G ?a ?l ?c ?k ?b
   (case a=>k_is);(case l=>k_is);(case c=>k_is);(case k=>k_is)
   (case b=>intro _ _ _ _ _ _ us J;obtain⟨_,_,rfl⟩:=DL.len2 J;rfl)
  have bw:DL.DefAt (L2.KOf I) mg "link" (DL.top 26) ["row","i","j"]:=by
   dsimp only [L2.KOf];refine' DL.def_mk I G ?a ?l ?c ?k ?b
   (case a=>k_is);(case l=>k_is);(case c=>k_is);(case k=>k_is)
   (case b=>intro _ _ _ _ _ _ us J;obtain⟨_,_,_,rfl⟩:=DL.len3 J;rfl)
  have bx:DL.DefAt (L2.KOf I) mg "kept" (DL.top 27) ["row","i","j"]:=by
   dsimp only [L2.KOf];refine' DL.def_mk I G ?a ?l ?c ?k ?b
   (case a=>k_is);(case l=>k_is);(case c=>k_is);(case k=>k_is)
   (case b=>intro _ _ _ _ _ _ us J;obtain⟨_,_,_,rfl⟩:=DL.len3 J;rfl)
  have bz:DL.DefAt (L2.KOf I) mg "number_of" (DL.top 29) ["much","i","j"]:=by
   dsimp only [L2.KOf];refine' DL.def_mk I G ?a ?l ?c ?k ?b
   (case a=>k_is);(case l=>k_is);(case c=>k_is);(case k=>k_is)
   (case b=>intro _ _ _ _ _ _ us J;obtain⟨_,_,_,rfl⟩:=DL.len3 J;rfl)
  have ae:DL.DefAt (L2.KOf I) mg "numbers" (DL.top 30) ["row"]:=by
   dsimp only [L2.KOf];refine' DL.def_mk I G ?a ?l ?c ?k ?b
   (case a=>k_is);(case l=>k_is);(case c=>k_is);(case k=>k_is)
   (case b=>intro _ _ _ _ _ _ us J;obtain⟨_,rfl⟩:=DL.len1 J;rfl)
  have c0:DL.DefAt (L2.KOf I) mg "_law_whole" (DL.top 33) ["_law_found"]:=by
   dsimp only [L2.KOf];refine' DL.def_mk I G ?a ?l ?c ?k ?b
   (case a=>k_is);(case l=>k_is);(case c=>k_is);(case k=>k_is)
   (case b=>intro _ _ _ _ _ _ us J;obtain⟨_,rfl⟩:=DL.len1 J;rfl)
  have c1:DL.DefAt (L2.KOf I) mg "_law_is_dict" (DL.top 41) ["_law_found","_law_rooms","_law_some"]:=by
   dsimp only [L2.KOf];refine' DL.def_mk I G ?a ?l ?c ?k ?b
   (case a=>k_is);(case l=>k_is);(case c=>k_is);(case k=>k_is)
   (case b=>intro _ _ _ _ _ _ us J;obtain⟨_,_,_,rfl⟩:=DL.len3 J;rfl)
  have c2:DL.DefAt (L2.KOf I) mg "law" (DL.top 42) ["_law_script"]:=by
   dsimp only [L2.KOf];refine' DL.def_mk I G ?a ?l ?c ?k ?b
   (case a=>k_is);(case l=>k_is);(case c=>k_is);(case k=>k_is)
   (case b=>intro _ _ _ _ _ _ us J;obtain⟨_,rfl⟩:=DL.len1 J;rfl)
  have AR:DL.ArrAt (L2.KOf I) mg (DL.inCls (DL.top 17) 0) (DL.inCls (DL.top 18) 0) (DL.inCls (DL.top 19) 0):=by
   dsimp only [L2.KOf];refine' DL.arr_mk I G ?nR ?nL ?iR ?iL ?mR ?mL ?uI ?uR ?uL ?vI ?vR ?vL ?w1 ?w2 ?w3 ?z1 ?z2 ?z3 ?bR ?bL ?gI ?gR ?gL
   (case nR=>k_is)
   (case nL=>k_is)
   (case iR=>k_is)
   (case iL=>k_is)
   (case mR=>k_is)
   (case mL=>k_is)
   (case uI=>k_is)
   (case uR=>k_is)
   (case uL=>k_is)
   (case vI=>k_is)
   (case vR=>k_is)
   (case vL=>k_is)
   (case w1=>k_is)
   (case w2=>k_is)
   (case w3=>k_is)
   (case z1=>k_is)
   (case z2=>k_is)
   (case z3=>k_is)
   (case bR=>kernel_rfl)
   (case bL=>kernel_rfl)
   (case gI=>intro _ _ _ _ _ _ us J;obtain⟨_,_,_,rfl⟩:=DL.len3 J;rfl)
   (case gR=>intro _ _ _ _ _ _ us J;obtain⟨_,_,rfl⟩:=DL.len2 J;rfl)
   (case gL=>intro _ _ _ _ _ _ us J;obtain⟨_,_,rfl⟩:=DL.len2 J;rfl)
  have c4:DL.DefAt (L2.KOf I) mg "arrow_by" (DL.top 20) ["p","way","table"]:=by
   dsimp only [L2.KOf];refine' DL.def_mk I G ?a ?l ?c ?k ?b
   (case a=>k_is);(case l=>k_is);(case c=>k_is);(case k=>k_is)
   (case b=>intro _ _ _ _ _ _ us J;obtain⟨_,_,_,rfl⟩:=DL.len3 J;rfl)
  obtain⟨f,fd,Fu,hb,hm⟩:=c2.ex;have e0:=as.symm.trans hm;cases e0;refine⟨fd,λs u=> .of_eq (hb [u] rfl),λbase kb nb=>?_⟩;obtain⟨CR,CL,fI,fR,fL,dI,dR,dL,q1,q2,q3,q4,q5,q6,q7,q8,q9,cg,ch,ci,cj,ck⟩:=AR.ex;obtain⟨cl,cm,ag,cn,co⟩:=c4.ex;have cp:DL.FnBy (zha).prog w (L2.KOf I) mg base 3 "arrow_by" CR CL:=⟨cl,cm,DL.ok_by ag q3 q4 (DL.ok_init q9 q5) (DL.ok_init q9 q6) ci q1 q2,co,ag.kp,.all cn⟩;have a7:DL.FnD (zha).prog w (L2.KOf I) mg base 1 "_law_cell" 2 DL.F_law_cell:=DL.ok_law_cell az a0 aw O;have cq:DL.FnD (zha).prog w (L2.KOf I) mg base 1 "_law_ways" 2 DL.F_law_ways_k22:=DL.ok_law_ways_k22 b0 O;have cr:DL.FnD (zha).prog w (L2.KOf I) mg base 2 "_law_bars" 4 DL.F_law_bars_23:=DL.ok_law_bars_23 b9 a7 O ax;have a8:DL.FnD (zha).prog w (L2.KOf I) mg base 1 "_law_ends" 2 DL.F_law_ends_k22:=DL.ok_law_ends_k22 ba;have ah:DL.FnL (zha).prog w (L2.KOf I) mg base 2 "_law_laid" 2 DL.F_law_laid:=DL.ok_law_laid bb a8 a3 ab a0 O;have ai:DL.FnD (zha).prog w (L2.KOf I) mg base 2 "_law_row" 4 DL.F_law_row_k22:=DL.ok_law_row_k22 bc a8 a3 a1;have cs:DL.FnY (zha).prog w (L2.KOf I) mg base 2 "_law_step" 2 4 DL.F_law_step:=DL.ok_law_step bd a8 a3 O a2;have ct:DL.FnD (zha).prog w (L2.KOf I) mg base 3 "_law_built" 5 DL.F_law_built:=DL.ok_law_built be ah ai a7 cs a3 O;have aj:DL.FnD (zha).prog w (L2.KOf I) mg base 1 "stretches_of" 1 DL.F_stretches_of:=DL.ok_stretches_of bf O;have a9:DL.FnD (zha).prog w (L2.KOf I) mg base 1 "rests" 2 DL.F_rests:=DL.ok_rests bg a1;have cu:DL.FnD (zha).prog w (L2.KOf I) mg base 1 "inverse" 2 DL.F_inverse:=DL.ok_inverse bh O;have cv:DL.FnD (zha).prog w (L2.KOf I) mg base 2 "cleared" 4 DL.F_cleared:=DL.ok_cleared bi a9 a2;have aa:DL.FnD (zha).prog w (L2.KOf I) mg base 3 "base_of" 3 DL.F_base_of:=DL.ok_base_of bj a9 cu cv O;have cw:DL.FnD (zha).prog w (L2.KOf I) mg base 2 "led" 3 DL.F_led:=DL.ok_led bl a9 ay a2;have ak:DL.FnD (zha).prog w (L2.KOf I) mg base 4 "led_on" 3 DL.F_led_on:=DL.ok_led_on bm aa cw;have am:DL.FnD (zha).prog w (L2.KOf I) mg base 1 "behind_noughts" 2 DL.F_behind_noughts:=DL.ok_behind_noughts bn au;have cx:DL.FnD (zha).prog w (L2.KOf I) mg base 1 "turned_over" 1 DL.F_turned_over:=DL.ok_turned_over bo O a1;have an:DL.FnD (zha).prog w (L2.KOf I) mg base 1 "same_table" 1 DL.F_same_table:=DL.ok_same_table bp O a1;have ao:DL.FnD (zha).prog w (L2.KOf I) mg base 4 "led_into" 3 DL.F_led_into:=DL.ok_led_into bq am aa cx an a2;have cy:DL.FnD (zha).prog w (L2.KOf I) mg base 1 "tables_joined" 3 DL.F_tables_joined:=DL.ok_tables_joined br a1 a2;have cz:DL.FnD (zha).prog w (L2.KOf I) mg base 1 "nought_table" 2 DL.F_nought_table:=DL.ok_nought_table bt;have d0:DL.FnD (zha).prog w (L2.KOf I) mg base 2 "no_join" 2 DL.F_no_join:=DL.ok_no_join bu cz;have d1:DL.FnD (zha).prog w (L2.KOf I) mg base 3 "tables_beside" 2 DL.F_tables_beside_5:=DL.ok_tables_beside_5 bv cy d0;have d2:DL.MethAt (zha).prog w (L2.KOf I) mg base 5 CR DL.F_led_on:=⟨q5,fR,dR,q7,DL.ok_forthR cg q5 ak,cj⟩;have d3:DL.MethAt (zha).prog w (L2.KOf I) mg base 5 CL DL.F_led_into:=⟨q6,fL,dL,q8,DL.ok_forthL ch q6 ao,ck⟩;have d4:DL.FnD (zha).prog w (L2.KOf I) mg base 6 "link" 3 DL.F_link:=DL.ok_link bw ak ao an d1 cp d2 d3;have ap:DL.FnD (zha).prog w (L2.KOf I) mg base 7 "kept" 3 DL.F_kept:=DL.ok_kept bx d4 aa am a0;have aq:DL.FnD (zha).prog w (L2.KOf I) mg base 1 "number_of" 3 DL.F_number_of:=DL.ok_number_of bz;have d5:DL.FnD (zha).prog w (L2.KOf I) mg base 8 "numbers" 1 DL.F_numbers:=DL.ok_numbers ae aj ap aq a4 a0;have d6:DL.FnF (zha).prog w (L2.KOf I) mg base 8 "numbers" 1 DL.F_numbers:=DL.okf_numbers ae aj ap aq a4 a0;have d7:DL.FnD (zha).prog w (L2.KOf I) mg base 1 "_law_whole" 1 DL.F_law_whole:=DL.ok_law_whole c0 av ab ac;have d8:DL.FnD (zha).prog w (L2.KOf I) mg base 2 "_law_is_dict" 3 DL.F_law_is_dict:=DL.ok_law_is_dict c1 d7 a4 ac a0 O;exact DL.ok_law Fu a7 cq cr ct d5 ah d8 ai d6
