import PyProof.Rows.All
import Wide.All
import OpenK.AllK
import Wide.FinOn
import Lean
import PyProof.EqAt
import PyProof.EqKinds
import PyProof.TupleCall
import PySem.Str
import PyProof.ZipIter
import PyProof.IsiBase
import KE.KItemsList
import KE.KIsAll
import OpenK.KOwn
import KE.KSortAsk
import PyProof.StrBlockI
import PyProof.Rows.EqDataRows
import PyProof.Rows.InDataRows
import PyProof.SumWalkG
import PyProof.ConsumeWalk
import PyProof.WalksMore
import KE.KSortTup
import PyProof.ListMulRoad
import PyProof.EnumFor
import PyProof.Rows.EnumRows
import PyProof.StrBlockL
import PyProof.JoinWalk
import PyProof.NsDelKeeps
import KE.KTryDeep
import PyProof.InstStoreFacts
import PyProof.NsCount
import PyProof.ExcClass2
import PyProof.Rows.FStr
import PyProof.StationsW
import PyProof.Rows.Catch
import KE.KRevIter
import PyProof.CollectIter
import PyProof.TupleOfGen
import PyProof.Rows.Tup
import PyProof.Draws
import PyProof.EnumMake
import PyProof.StrWalks
import PyProof.SliceStr2
import PyProof.ListNew
import KE.KDictOf
import PyProof.ListRange
import PyProof.Rows.GenSrcRange
import PyProof.ListCopy
import PyProof.AttrMissHeap
import PyProof.DictWalks
import PyProof.FactsDict
import KE.KSortKey
import PyProof.TableCode
import PyProof.Rows.KernelRfl
import PySem.Challenge.RW_barsplit_k26_whole_beside_and_cut
open PySem renaming wpAny_bind → zi0, wpAny_pure → zi4, wpAny_callSpecial?_slot → zjS, wpAny_newObj_type → zj1, wpAny_call_entry → zj2, wpAny_seqItems → zj3, wpAny_field → zj4, wpAny_setField_rec → zkm, wpAny_holding → zkJ, wpAny_dictEntries → zkM, wpAny_onRaise → zkQ, wpAny_truthy_bool → zkZ, wpAny_typeNameOfWhole_keyiter → zk4, wpAny_mono → zk5, wpAny_notOrdered_dict → zk8, wpAny_attempt → zlb, mem_of_lookup → zlc, Builtin → zlf, wpAny_letGo → zlm, wpAny_loadPart' → zls, wpAny_Call_Name_kw → zlt, wpAny_rule → zlz, wpAny_isInstance → zlH, call_meets → zlQ, wpAny_passesOwn → zlU, wpAny_dictEpoch → zlV, pushCells_keeps → zlX, wpAny_typeOf → zl6, tupleKind_room_in1 → zl7, wpAny_pyIter_zip → zms, codeAny_mono → zmz, wpAny_updateSeq_pair → zmH, codeAny_call_builtin → zmI, wpAny_setField → zmM, Within → zmN, wpAny_of_eq → zmQ, wpAny_pyIter_list → zm2, concat_meets → zm4, noFill_tuple_add → zm5
open PySem.Challenge renaming rw_barsplit_k26_whole_beside_and_cut → zi1
open List renaming range → zi2, replicate → zi5, mem_range → zi6, getElem?_eq_getElem → zi8, getElem?_cons_zero → zi9, getElem?_cons_succ → zja, getElem?_set_ne → zjc, getD_eq_getElem?_getD → zjd, map_congr_left → zjg, length_map → zjh, size_toArray → zji, mem_cons_of_mem → zjk, mem_cons → zjm, getElem?_eq_some_iff → zjp, mem_cons_self → zju, length_cons → zjv, map_cons → zjw, mem_map → zjx, mem_filter → zjz, not_mem_nil → zjF, set_cons_zero → zjH, set_cons_succ → zjI, eq_nil_of_length_eq_zero → zjN, countP_eq_length_filter → zjO, getElem?_map → zjR, map_append → zjT, getElem?_set_self → zjU, getElem?_append_right → zjV, map_map → zjW, length_nil → zjX, length_append → zjY, lookup_cons → zj5, mem_append_right → zj8, getElem?_append_left → zkb, range_succ → zkh, range'_succ → zkj, range_eq_range' → zkk, range' → zkn, countP_congr → zko, nodup_cons → zkp, all_eq_true → zkq, take_of_length_le → zkt, replicate_succ → zkw, mem_of_getElem? → zkD, mem_append → zkH, getElem_mem → zkN, zip_map' → zkO, pairwise_iff_getElem → zkP, length_range → zkU, flatten_cons → zkV, getElem?_zip_eq_some → zla, length_take → zld, lookup → zle, mem_singleton → zlh, getElem?_replicate → zli, countP_map → zlj, Pairwise → zlk, pairwise_lt_range → zlp, pairwise_map → zlq, any_eq_false → zlr, range_add → zlv, length_singleton → zlw, forIn_cons → zlE, countP_eq_zero → zlF, append_nil → zlG, find?_eq_none → zlN, filter_append → zlO, countP_append → zlP, forIn_nil → zlR, drop_eq_getElem_cons → zlS, ext_getElem? → zl3, zipIdx_cons → zl9, nodup_range → zma, find?_cons_of_pos → zme, find?_cons_of_neg → zmf, zipIdx_nil → zmi, nil_append → zmj, length → zmv, getElem_of_mem → zmw, filter_sublist → zmx, filterMap_cons → zmy, length_eq_countP_add_countP → zmL, drop_length → zmW, countP_cons → zmX, cons_append → zmY
open PySem.Heap renaming get?_push_of_some → zi3, get?_push_size → zje, push → zjo, lt_size → zjq, size_push → zjG, SameBut → zkE, get?_update_self → zlx
open Option renaming bind_some → zi7, map_some → zjt, isSome_iff_exists → zke, some → zkA, map → zmF, getD_some → zmO
open Nat renaming le_refl → zjb, lt_or_ge → zjl, lt_of_lt_of_le → zjr, add_sub_cancel_left → zjs, not_lt_zero → zjA, le_add_right → zjB, ne_of_lt → zjC, lt_irrefl → zjP, le_trans → zj9, lt_succ_of_lt → zkc, zero_add → zki, lt_succ_self → zkr, ne_of_gt → zky, zero_le → zkK, lt_trichotomy → zlu, reduceAdd → zlC, min_eq_left → zlJ, add_assoc → zl8, le_of_lt → zmp, add_zero → zmq, mul_comm → zmV
open Int renaming mul_emod → zjf, add_emod → zjD, emod_lt_of_pos → zjJ, emod_emod → zjL, toNat_natCast → zjM, emod_nonneg → zj0, emod_eq_of_lt → zkx, sub_emod → zkF, toNat_of_nonneg → zkL, mul_comm → zkY, eq_ofNat_of_zero_le → zk0, mul_assoc → zk7, emod_eq_emod_iff_emod_sub_eq_zero → zk9, mul_add → zmb, add_zero → zmr, mul_left_comm → zmT, mul_zero → zmZ
open Bool renaming false_ne_true → zjj, or_eq_true → zkl, false_eq_true → zkB, eq_iff_iff → zkI, not_eq_true' → zkW, true_and → zmG, eq_false_iff → zmP
open PySem.Builtin.SmallTypes renaming nextOf → zjn, ownedTupleIsFree → zjE, ownedTupleHandOut → zkv
open PySem.Value renaming ref → zjy, none → zkz, type → zlY, str → zmA, bool → zmJ
open PySem.W renaming kia_one → zjK, mg_none_of → zjQ, emptyDict → zks, kitOne → zkC, cellsFrom_some → zlg, nsIn → zlo, typeIn → zlI, mg_of → zlZ, lookIn → zmh, plainGet_of → zmm, callWith_K → zmu, methodObj → zmC, kitx_list → zmD, kitx_dict → zmE
open PySem.Str renaming ofString → zjZ, join → zmK
open Ne renaming symm → zj6
open Option.some renaming inj → zj7
open Classical renaming byContradiction → zka
open PyProof.Rows renaming callWith_type1 → zkd, slot_tuple_getitem → zkf, slot_tupleiter_next → zlW, tupleItemsOf_ → zml, callWith_builtin1 → zmn
open Array renaming length_toList → zkg, getElem?_toList → zmg
open PySem.Builtin.Tuple renaming tupleExact → zku, tupleIsExact → zk1
open PySem.F renaming slot_dict_keyiterator_next → zkG, slot_zip_next → zkX, slot_list_getattribute → zll, slot_tuple_mul → zlD, args_tuple_add_2 → zlM, entry_tuple_add → zl0, slot_tuple_add → zl4, args_zip_next_1 → zmc, entry_zip_next → zmk, args_tuple_mul_2 → zmU, entry_tuple_mul → zm0, args_dict_keyiterator_next_1 → zm1, entry_dict_keyiterator_next → zm3
open False renaming elim → zkR
open True renaming intro → zkS
open PySem.NameKind renaming cell → zkT
open PySem.Calls renaming spliced_cons → zk2, spliced_nil → zl2
open PySem.Builtin.Slice renaming slicePlaces → zk3, sliceAdjust → zly
open PySem.Heap.SameBut renaming update → zk6
open PySem.Obj renaming data_mapFields → zln, isFreed_of_fields → zmo, cls_mapFields → zmS
open List.Pairwise renaming imp_of_mem → zlA, filter → zl1
open PySem.Builtin.List renaming listTooLong → zlB
open Function renaming comp_def → zlK
open PySem.Builtin.Dict renaming samePairs → zlL, showsAll → zlT
open ForInStep renaming yield → zl5
open PySem.Builtin.Dict_items renaming ownsTuple → zmd
open PySem.Shared renaming heap → zmt
open Sum renaming inl → zmB, inr → zmR
local macro_rules | `(⋯) => `(by first | decide +kernel | omega | simp)
noncomputable section
set_option Elab.async false
set_option linter.all false
set_option maxRecDepth 100000
set_option maxHeartbeats 4000000
namespace L2
open PySem PySem.Spec PyProof.Rows
abbrev Key:=Sum Int Str
def zfK:Key->Value->Bool
 | .inl k,v=>Value.isInt k v
 | .inr x,v=>Value.isStrOf x v
def ziQ(w:World):Key->Int
 | .inl k=>hashInt k
 | .inr x=>hashStr w x
theorem jN : ∀{k:Key} {v:Value},zfK k v=true->(∃i t,k=zmB i/\v=Value.int i t)\/(∃x t,k=zmR x/\v=zmA x t)
 | .inl i,v,h=>by
  obtain⟨t,e⟩:=Value.isInt_shape (k:=i) (v:=v) h;exact .inl ⟨i,t,rfl,e⟩
 | .inr x,v,h=>by
  obtain⟨t,e⟩:=Value.isStrOf_shape (x:=x) (v:=v) h;exact .inr ⟨x,t,rfl,e⟩
theorem zfI(a b:Int):decide ((zmB a:Key)=zmB b)=(a==b):=by
 by_cases e:a=b
 ·subst e;simp
 ·have h : ¬(zmB a:Key)=zmB b:=λq=>e (zmB.inj q)
  rw [decide_eq_false h];exact(beq_eq_false_iff_ne.mpr e).symm
theorem zfF(a b:Str):decide ((zmR a:Key)=zmR b)=decide (a=b):=by
 by_cases e:a=b
 ·subst e;simp
 ·have h : ¬(zmR a:Key)=zmR b:=λq=>e (zmR.inj q)
  rw [decide_eq_false h,decide_eq_false e]
theorem zfH(a:Int)(b:Str):decide ((zmB a:Key)=zmR b)=false:=decide_eq_false (λq=>nomatch q)
theorem zfG(a:Str)(b:Int):decide ((zmR a:Key)=zmB b)=false:=decide_eq_false (λq=>nomatch q)
def QP(prog:Program)(w:World):PySem.KeyKind prog w Key where
 is:=zfK
 hash:=ziQ w
 inj:=λv a b ha I=>by
  rcases jN ha with⟨i,t,rfl,rfl⟩ | ⟨x,t,rfl,rfl⟩
  ·rcases jN I with⟨j,u,rfl,e⟩ | ⟨y,u,rfl,e⟩
   ·injection e with e1 _;rw [e1]
   ·exact nomatch e
  ·rcases jN I with⟨j,u,rfl,e⟩ | ⟨y,u,rfl,e⟩
   ·exact nomatch e
   ·injection e with e1 _;rw [e1]
 byValue:=λk v h=>by
  rcases jN h with⟨i,t,rfl,rfl⟩ | ⟨x,t,rfl,rfl⟩<;>rfl
 pyHash:=λz h=>by
  rcases jN z with⟨i,t,rfl,rfl⟩ | ⟨x,t,rfl,rfl⟩
  ·exact wpAny_pyHash_int h
  ·exact wpAny_pyHash_str h
 eqBool:=λO z h=>by
  rcases jN O with⟨i,t,rfl,rfl⟩ | ⟨x,t,rfl,rfl⟩
  ·rcases jN z with⟨j,u,rfl,rfl⟩ | ⟨y,u,rfl,rfl⟩
   ·rw [zfI]at h;exact wpAny_eqBool_int h
   ·rw [zfH]at h;exact SeqAt.EqAt.int_str i t y u _ _ _ _ h
  ·rcases jN z with⟨j,u,rfl,rfl⟩ | ⟨y,u,rfl,rfl⟩
   ·rw [zfG]at h;exact SeqAt.EqAt.str_int x t j u _ _ _ _ h
   ·rw [zfF]at h;exact wpAny_eqBool_str h
 «strs» :=λk x t v h=>by
  rcases jN h with⟨i,u,rfl,e⟩ | ⟨y,u,rfl,e⟩
  ·exact nomatch e
  ·injection e with e1 _
   subst e1;cases v<;>rfl
inductive V where
 | non | bl (b:Bool) | int (i:Int) | str (x:Str) | byt (b:Array UInt8) | flt (b:UInt64) | ref (a:Addr) | ty (n:String)
 deriving DecidableEq
def RelV:V->Value->Prop
 | .non,u=>u=zkz
 | .bl b,u=>u=zmJ b
 | .int i,u=>∃t,u=Value.int i t
 | .str x,u=>∃t,u=zmA x t
 | .byt b,u=>∃t,u=Value.bytes b t
 | .flt b,u=>∃t,u=Value.float b t
 | .ref a,u=>u=zjy a
 | .ty n,u=>u=zlY n
abbrev Vals:List V->List Value->Prop:=Paired RelV
theorem Vals.length{xs:List V}{us:List Value}(r:Vals xs us):xs.length=us.length:=Paired.length r
theorem Vals.get : ∀{xs:List V} {us:List Value} {i:Nat} {x:V},Vals xs us->xs[i]? = some x->∃u,us[i]? = some u/\RelV x u
 | _,_,_,_,.nil,e=>by simp at e
 | _,_,0,_,.cons r _,e=>by simp at e;subst e;exact⟨_,rfl,r⟩
 | _,_,i+1,x,.cons _ t,e=>by
  obtain⟨u,h1,h2⟩:=Vals.get (i:=i) (x:=x) t (by simpa using e);exact⟨u,by simpa using h1,h2⟩
theorem Vals.append : ∀{xs ys:List V} {us z:List Value},Vals xs us->Vals ys z->Vals (xs++ys) (us++z)
 | _,_,_,_,.nil,s=>s
 | _,_,_,_,.cons r t,s=> .cons r (Vals.append t s)
theorem Vals.take : ∀{xs:List V} {us:List Value} (n:Nat),Vals xs us->Vals (xs.take n) (us.take n)
 | _,_,0,_=> .nil
 | _,_,_+1,.nil=> .nil
 | _,_,n+1,.cons r t=> .cons r (Vals.take n t)
theorem Vals.drop : ∀{xs:List V} {us:List Value} (n:Nat),Vals xs us->Vals (xs.drop n) (us.drop n)
 | _,_,0,r=>r
 | _,_,_+1,.nil=> .nil
 | _,_,n+1,.cons _ t=>Vals.drop n t
def RelO:Option V->Option Value->Prop
 | some v,some u=>RelV v u
 | none,none=>True
 | _,_=>False
def KV{κ:Type}:List (κ×V)->List (κ×Value)->Prop:=Paired λ(p:κ×V) (q:κ×Value)=>p.1=q.1/\RelV p.2 q.2
def kV:Key->V
 | .inl i=> .int i
 | .inr x=> .str x
inductive HO where
 | lst (xs:List V)
 | tup (xs:List V)
 | dK (kvs:List (Key×V)) | dT (kvs:List (List Key×V))
 | set (S:Int->Bool) (n:Nat)
 | ins (C dx:Addr) (fs:List (Str×V))
 | own (x:Addr)
 | xd (fs:List (Str×V))
 | met (f x:Addr)
 | rng (lo hi:Int)
 | frz (o:Obj) (u:HO)
 | tbl (ps:Array Value)
 | ext (φ:Heap->Prop)
abbrev Hp:=Addr->Option HO
def upd(H:Hp)(a:Addr)(o:HO):Hp:=λb=>if b=a then some o else H b
theorem zH{H:Hp}{a:Addr}{o:HO}:upd H a o a=some o:=by unfold upd;rw [if_pos rfl]
theorem zJ{H:Hp}{a b:Addr}{o:HO}(h:b≠a):upd H a o b=H b:=by unfold upd;rw [if_neg h]
theorem vK{H:Hp}{a:Addr}{o u:HO}:upd (upd H a o) a u=upd H a u:=by
 funext b;unfold upd;split<;>rfl
theorem jE{H:Hp}{a b:Addr}{o:HO}(h:H a=some o)(h':H b=none):a≠b:=by
 intro e;subst e;rw [h]at h';cases h'
def IsTupD(h:Heap)(a:Addr)(items:Array Value):Prop:=∃o,h.get? a=some o/\(o.cls,o.dict)=(zlY "tuple",none)/\∃n,o.data = .seq items n
theorem IsTupD.new(h:Heap)(items:Array Value):IsTupD (h.push {cls:= .type "tuple",data:= .seq items}) h.objs.size items:=⟨_,zje _ rfl,rfl,_,rfl⟩
theorem IsTupD.tup{h:Heap}{a:Addr}{items:Array Value}(x:IsTupD h a items):IsTup h a items:=let ⟨o,e,c,r⟩:=x;⟨o,e,(Prod.mk.inj c).1,r⟩
section
variable(P:Program)(w:World)
def ObjOk(H:Hp)(h:Heap)(a:Addr):HO->Prop
 | .lst xs=>xs.length<=sizeLine/\∃(z:List Value) (n:Nat),Vals xs z/\h.get? a=some {cls:= .type "list",data:= .seq z.toArray n}
 | .tup xs=>xs.length<=sizeLine/\∃z:List Value,Vals xs z/\IsTupD h a z.toArray
 | .dK kvs=>kvs.length<=sizeLine/\(a==sysModules)=false/\∃vs,KV kvs vs/\h.DictOf (QP P w) a vs
 | .dT kvs=>kvs.length<=sizeLine/\(a==sysModules)=false/\∃xs:List (List Key×Addr×Value),
  Paired (λ(p:List Key×V) (q:List Key×Addr×Value)=>p.1=q.1/\H q.2.1=some (.tup (p.1.map kV))/\RelV p.2 q.2.2) kvs xs/\
  ∃o es ep,h.get? a=some o/\o.ExactDict/\o.data = .dict es ep/\es.toList=xs.map (entryOfKey (tupleKind (QP P w)))/\(xs.map (·.1)).Nodup
 | .set S n=>h.SetOf (intKind P w) a S n
 | .ins C dx fs=>H dx=some (.own a)/\fs.length<=1000/\dx≠a/\h.get? a=some (PySem.W.instObj C dx)/\
  ∃mA,h.Ns1 dx mA/\(∀f,RelO (fs.lookup f) (mA f))/\zmN mA (fs.map (·.1))
 | .own _=>∃o,h.get? a=some o
 | .xd fs=>∃mA,h.Ns1 a mA/\∀f,RelO (fs.lookup f) (mA f)
 | .rng lo hi=>∃t u v,h.get? a=some {cls:= .type "range",data:= .fields #[.int lo t,.int hi u,.int 1 v]}
 | .frz o u=>h.get? a=some o/\ObjOk H h a u
 | .tbl ps=>h.get? a=some {cls:= .none,data:= .fields ps}
 | .met f x=>h.get? a=some (zmC (.ref f) (.ref x))
 | .ext φ=>φ h/\(∃o,h.get? a=some o)/\∀h1 h2:Heap,φ h1->(∀o,h1.get? a=some o->h2.get? a=some o)->φ h2
def HOk(H:Hp)(h:Heap):Prop:=∀a o,H a=some o->ObjOk P w H h a o
end
section
variable{P:Program}{w:World}{H H':Hp}{h h':Heap}{a:Addr}{o:HO}
theorem ObjOk.lt(x:ObjOk P w H h a o):a<h.objs.size:=by
 cases o with
 | lst xs=>obtain⟨_,_,_,_,e⟩:=x;exact zjq e
 | tup xs=>obtain⟨_,_,_,p⟩:=x;exact p.tup.lt
 | dK kvs=>obtain⟨_,_,_,_,o,_,_,e,_⟩:=x;exact zjq e
 | dT kvs=>obtain⟨_,_,_,_,o,_,_,e,_⟩:=x;exact zjq e
 | set S n=>obtain⟨o,_,_,_,e,_⟩:=x;exact zjq e
 | ins C dx fs=>obtain⟨_,_,_,e,_⟩:=x;exact zjq e
 | own y=>obtain⟨_,e⟩:=x;exact zjq e
 | xd fs=>obtain⟨_,⟨_,_,_,e,_⟩,_⟩:=x;exact zjq e
 | rng lo hi=>obtain⟨_,_,_,e⟩:=x;exact zjq e
 | frz ob u=>obtain⟨e,_⟩:=x;exact zjq e
 | tbl ps=>exact zjq (show h.get? a=some _ from x)
 | met f y=>exact zjq (show h.get? a=some _ from x)
 | ext φ=>obtain⟨_,⟨_,e⟩,_⟩:=x;exact zjq e
theorem Paired.mapP{α β:Type}{F G:α->β->Prop} : ∀{z:List α} {I:List β},Paired F z I->(∀a b,F a b->G a b)->Paired G z I
 | _,_,.nil,_=> .nil
 | _,_,.cons r t,f=> .cons (f _ _ r) (Paired.mapP t f)
theorem ObjOk.stay(x:ObjOk P w H h a o)(k : ∀b u,(b=a\/H b=some (.own a))->h.get? b=some u->h'.get? b=some u)
 (O : ∀b,H b=some (.own a)->H' b=some (.own a)) (U : ∀b xs,H b=some (.tup xs)->H' b=some (.tup xs)):ObjOk P w H' h' a o:=by
 induction o with
 | lst xs=>obtain⟨z,I,n,r,e⟩:=x;exact⟨z,I,n,r,k _ _ (.inl rfl) e⟩
 | tup xs=>obtain⟨z,I,r,ob,e,c⟩:=x;exact⟨z,I,r,ob,k _ _ (.inl rfl) e,c⟩
 | dK kvs=>obtain⟨z,y,vs,r,ob,es,ep,e,c⟩:=x;exact⟨z,y,vs,r,ob,es,ep,k _ _ (.inl rfl) e,c⟩
 | dT kvs=>
  obtain⟨z,y,xs,r,ob,es,ep,e,c⟩:=x;exact⟨z,y,xs,Paired.mapP r λp q z=>⟨z.1,U _ _ z.2.1,z.2.2⟩,ob,es,ep,k _ _ (.inl rfl) e,c⟩
 | set S n=>obtain⟨ob,es,ep,t,e,c⟩:=x;exact⟨ob,es,ep,t,k _ _ (.inl rfl) e,c⟩
 | ins C dx fs=>
  obtain⟨d,z,ne,e,mA,⟨od,es,ep,Y,c⟩,r⟩:=x;exact⟨O _ d,z,ne,k _ _ (.inl rfl) e,mA,⟨od,es,ep,k _ _ (.inr d) Y,c⟩,r⟩
 | own y=>obtain⟨ob,e⟩:=x;exact⟨ob,k _ _ (.inl rfl) e⟩
 | xd fs=>obtain⟨mA,⟨od,es,ep,e,c⟩,r⟩:=x;exact⟨mA,⟨od,es,ep,k _ _ (.inl rfl) e,c⟩,r⟩
 | rng lo hi=>obtain⟨t,u,v,e⟩:=x;exact⟨t,u,v,k _ _ (.inl rfl) e⟩
 | frz ob u Z=>obtain⟨e,q⟩:=x;exact⟨k _ _ (.inl rfl) e,Z q⟩
 | tbl ps=>
  have e:h.get? a=some {cls:= .none,data:= .fields ps}:=x;show h'.get? a=some {cls:= .none,data:= .fields ps};exact k a _ (.inl rfl) e
 | met f y=>
  have e:h.get? a=some (zmC (.ref f) (.ref y)):=x;show h'.get? a=some (zmC (.ref f) (.ref y));exact k a _ (.inl rfl) e
 | ext φ=>obtain⟨p,⟨o,e⟩,st⟩:=x;exact⟨st _ _ p λo q=>k _ _ (.inl rfl) q,⟨o,k _ _ (.inl rfl) e⟩,st⟩
theorem HOk.lt(x:HOk P w H h)(e:H a=some o):a<h.objs.size:=(x a o e).lt
theorem HOk.fresh(x:HOk P w H h)(e:h.objs.size<=a):H a=none:=by
 cases q:H a with
 | none=>rfl
 | some u=>exact absurd (zjr (x.lt q) e) (zjP _)
theorem HOk.kept(x:HOk P w H h)(k : ∀b u,h.get? b=some u->h'.get? b=some u):HOk P w H h':=λa o e=>
 (x a o e).stay (λb u _ q=>k b u q) (λ_ q=>q) λ_ _ q=>q
theorem HOk.laid(x:HOk P w H h)(k : ∀b u,h.get? b=some u->h'.get? b=some u)(I:h.objs.size<=a)(new:ObjOk P w (upd H a o) h' a o):HOk P w (upd H a o) h':=λb u e=>by
 have hn:=x.fresh I;by_cases z:b=a
 ·subst z;rw [zH]at e;cases e;exact new
 ·rw [zJ z]at e
  exact(x b u e).stay (λc v _ q=>k c v q) (λc q=>by rw [zJ (jE q hn)];exact q) λc xs q=>by rw [zJ (jE q hn)];exact q
end
def Rd(H:Hp)(a:Addr)(u:HO):Prop:=H a=some u\/∃o,H a=some (.frz o u)
theorem Rd.ok{P:Program}{w:World}{H:Hp}{h:Heap}{a:Addr}{u:HO}(r:Rd H a u)(x:HOk P w H h):ObjOk P w H h a u:=by
 rcases r with r | ⟨o,r⟩
 ·exact x a u r
 ·obtain⟨_,q⟩:=x a _ r
  exact q
def Mut:Option HO->Prop
 | some (.lst _)=>True
 | some (.dK _)=>True
 | some (.dT _)=>True
 | some (.set _ _)=>True
 | some (.ins _ _ _)=>True
 | some (.ext _)=>True
 | _=>False
section
variable{P:Program}{w:World}{H:Hp}{h h':Heap}{x e:Addr}{o':HO}
theorem HOk.write(ok:HOk P w H h)(I:Mut (H x))(he:e=x\/H e=some (.own x))(k : ∀b u,b≠e->h.get? b=some u->h'.get? b=some u)(a0 : ∃u,h'.get? e=some u)
 (new:ObjOk P w (upd H x o') h' x o'):HOk P w (upd H x o') h':=λb u q=>by
 have Y : ∀c y,H c=some (.own y)->c≠x:=λc y r z=>by subst z;rw [r]at I;exact I
 have a1 : ∀c xs,H c=some (.tup xs)->c≠x:=λc xs r z=>by subst z;rw [r]at I;exact I
 by_cases O:b=x
 ·subst O;rw [zH]at q;cases q;exact new
 ·rw [zJ O]at q
  by_cases S:b=e
  ·have Z:H b=some (.own x):=by
    rcases he with z | z
    ·exact absurd (S.trans z) O
    ·rw [S];exact z
   rw [q]at Z;cases Z;obtain⟨v,hv⟩:=a0;exact⟨v,by rw [S];exact hv⟩
  ·refine(ok b u q).stay (λc v U r=>k c v ?_ r) (λc r=>by rw [zJ (Y c b r)];exact r) λc xs r=>by rw [zJ (a1 c xs r)];exact r
   rcases U with rfl | U
   ·exact S
   ·rintro rfl
    rcases he with z | z
    ·exact Y c b U z
    ·rw [U]at z;cases z;exact O rfl
end
structure Un(fs ex:List Addr)(H H':Hp)(h h':Heap):Prop where
 keep : ∀b o,h.get? b=some o->H b=none->b∉fs->b∉ex->h'.get? b=some o
 slot : ∀b o,h.get? b=some o->H b=none->b∈fs->b∉ex->∃sl,h'.get? b=some {o with slots:=sl}
 free : ∀b o,h.get? b=some o->H b=none->b∉ex->H' b=none
 there : ∀b o,h.get? b=some o->b∉ex->∃o',h'.get? b=some o'
 tups : ∀b xs,H b=some (.tup xs)->H' b=some (.tup xs)
 frzs : ∀b o u,H b=some (.frz o u)->H' b=some (.frz o u)
 tbls : ∀b ps,H b=some (.tbl ps)->∃more,H' b=some (.tbl (ps++more))
section
variable{fs fs' ex ex':List Addr}{H H1 H2:Hp}{h h1 h2 h':Heap}{a x e:Addr}{o:HO}
theorem Un.any(u:Un fs ex H H1 h h1){b:Addr}{ob:Obj}(q:h.get? b=some ob)(n:H b=none)(hx:b∉ex) : ∃sl,h1.get? b=some {ob with slots:=sl}:=by
 by_cases z:b∈fs
 ·exact u.slot b ob q n z hx
 ·exact⟨ob.slots,u.keep b ob q n z hx⟩
theorem Un.kept(k : ∀b u,h.get? b=some u->h'.get? b=some u):Un fs ex H H h h':=
 ⟨λb ob q _ _ _=>k b ob q,λb ob q _ _ _=>⟨ob.slots,k b ob q⟩,λ_ _ _ n _=>n,λb ob q _=>⟨ob,k b ob q⟩,λ_ _ q=>q,λ_ _ _ q=>q,λ_ ps q=>⟨#[],by rw [q];simp⟩⟩
theorem Un.refl:Un fs ex H H h h:=Un.kept λ_ _ q=>q
theorem Un.laid(k : ∀b u,h.get? b=some u->h'.get? b=some u)(z:h.objs.size<=a)(hn:H a=none):Un fs ex H (upd H a o) h h' where
 keep:=λb u q _ _ _=>k b u q
 slot:=λb u q _ _ _=>⟨u.slots,k b u q⟩
 free:=λb u q n _=>by rw [zJ (zjC (zjr (zjq q) z))];exact n
 there:=λb u q _=>⟨u,k b u q⟩
 tups:=λb xs q=>by rw [zJ (jE q hn)];exact q
 frzs:=λb u xs q=>by rw [zJ (jE q hn)];exact q
 tbls:=λb ps q=>⟨#[],by rw [zJ (jE q hn),q];simp⟩
theorem Un.write(I:Mut (H x))(he:e=x\/H e=some (.own x))(k : ∀b u,b≠e->h.get? b=some u->h'.get? b=some u)(U : ∃u,h'.get? e=some u):Un fs ex H (upd H x o) h h':=by
 have hx : ∀b,H b=none->b≠x:=λb n z=>by subst z;rw [n]at I;exact I
 have O : ∀b,H b=none->b≠e:=λb n z=>by
  subst z;rcases he with r | r
  ·exact hx b n r
  ·rw [n]at r;cases r
 have hm : ∀b u,H b=some u->¬Mut (some u)->b≠x:=λb u q nm z=>by subst z;rw [q]at I;exact nm I
 refine⟨λb u q n _ _=>k b u (O b n) q,λb u q n _ _=>⟨u.slots,k b u (O b n) q⟩,λb u q n _=>by rw [zJ (hx b n)];exact n,λb u q _=>?_,
  λb xs q=>by rw [zJ (hm b _ q λz=>z)];exact q,λb u xs q=>by rw [zJ (hm b _ q λz=>z)];exact q,λb ps q=>⟨#[],by rw [zJ (hm b _ q λz=>z),q];simp⟩⟩
 by_cases S:b=e
 ·subst S;exact U
 ·exact⟨u,k b u S q⟩
end
def trk(h:Heap)(H:Hp):List Addr:=(zi2 h.objs.size).filter λa=>(H a).isSome
def za3(h:Heap)(H:Hp):Heap:=PySem.W.hideAll h (trk h H)
theorem VW(h:Heap)(H:Hp):(za3 h H).objs.size=h.objs.size:=PySem.W.hideAll_size _ _
theorem za2{h:Heap}{H:Hp}{b:Addr}{o:Obj}(e:h.get? b=some o)(n:H b=none):(za3 h H).get? b=some o:=
 PySem.W.hideAll_get _ e λhm=>by
  have q:(H b).isSome=true:=(zjz.mp hm).2;rw [n]at q;simp at q
theorem zdj{h:Heap}{H:Hp}{b:Addr}{o:Obj}(e:(za3 h H).get? b=some o):h.get? b=some o/\H b=none:=by
 have I:h.get? b=some o:=PySem.W.of_hideAll (trk h H) e;refine⟨I,?_⟩;cases q:H b with
 | none=>rfl
 | some x=>
  have hm:b∈trk h H:=zjz.mpr ⟨zi6.mpr (zjq I),by simp [q]⟩;have z:(za3 h H).get? b=none:=PySem.W.hideAll_none (trk h H) hm;rw [z]at e;cases e
def zd5(g h:Heap)(L:Addr):List (Addr×Obj):=(zi2 h.objs.size).filterMap λa=>if a=L\/(g.get? a).isSome=true then none else (h.get? a).map λo=>(a,o)
def rest(g h:Heap)(L d:Addr):List (Addr×Obj):=(zd5 g h L).filter λp=>decide (p.1≠d)
structure Mod(K:PySem.W.Frag)(mg:Str->Option Value)(base:Heap):Prop where
 kin:K.In base
 glob:base.Ns mainGlobals mg
 blt : ∃mb,base.Ns builtinsNs mb/\∀x:Str,x ≠ "__name__"->mb x=bootBuiltins x
 nolimit:base.NoLimit
structure Cx where
 prog:Program
 w:World
 K:PySem.W.Frag
 mg:Str->Option Value
 base:Heap
 A:Around
 N:List Str
 s₀:Shared
 H₀:Hp
 env:Env
 outer:List Env
 stack:List Env
 ex:List Addr
 fn:Str->Bool
 calm:Bool
 pn:List (Addr×Obj)
 xe:Value->Shared->Prop
def frs(l:List Env):List Addr:=l.filterMap (·.frame)
abbrev Cx.fs(X:Cx):List Addr:=frs X.outer
def Vis(sc:Scope)(x:Str):Prop:=sc.names.lookup x=some .local\/sc.names.lookup x=some .cell\/sc.names.lookup x=some .free
def Loc(sc:Scope)(x:Str):Prop:=sc.names.lookup x=some .local\/sc.names.lookup x=some .cell
def Look(env:Env)(h:Heap)(m:Str->Option Value)(x:Str)(u:Value):Prop:=
 (env.kindOf x=some .local/\m x=some u)\/((env.kindOf x=some .cell\/env.kindOf x=some .free)/\∃c,env.cells.lookup x=some c/\h.IsCell c (some u))
structure Cx.Ok(X:Cx):Prop where
 mod:Mod X.K X.mg X.base
 kind:X.env.scope.kind = .function
 glob:X.env.globals=mainGlobals
 blt:X.env.builtins=builtinsNs
 above:X.s₀.heap.objs.size<=X.env.locals
 inj : ∀x y c,X.env.cells.lookup x=some c->X.env.cells.lookup y=some c->x=y
 has : ∀x,(X.env.kindOf x=some .cell\/X.env.kindOf x=some .free)->∃c,X.env.cells.lookup x=some c
 cab : ∀x c,X.fn x=true->X.env.cells.lookup x=some c->X.s₀.heap.objs.size<=c
 hd:X.calm=true->X.A.handled=none
 frames:X.A.frames=some X.stack
 stk:X.stack=X.outer\/(X.stack=X.env::X.outer/\X.env.frame=some X.env.locals)
 exf : ∀b∈X.ex,b≠X.env.locals/\∀x c,X.env.cells.lookup x=some c->c≠b
 bs : ∀b o,X.base.get? b=some o->X.s₀.heap.get? b=some o/\X.H₀ b=none
 bsz:X.base.objs.size<=X.s₀.heap.objs.size
 noex : ∀b o,X.base.get? b=some o->b∉X.ex
 exfs : ∀b∈X.ex,b∉X.fs
 funs:X.s₀.heap.FunFrames X.base X.outer
 frf : ∀b∈X.fs,X.H₀ b=none
structure Inv(X:Cx)(pins:List (Addr×Obj))(σ:List (Option V))(H:Hp)(s:Shared):Prop where
 ok:X.Ok
 os:s.os=X.s₀.os
 bare:AllBare s.gens
 base:Un X.fs X.ex X.H₀ H X.s₀.heap s.heap
 loc : ∃m,s.heap.Ns X.env.locals m/\∀(i:Nat) (x:Str) (v:V),X.N[i]? = some x->σ[i]? = some (some v)->Vis X.env.scope x->∃u,RelV v u/\Look X.env s.heap m x u
 cell : ∀x c,X.env.cells.lookup x=some c->∃v,s.heap.IsCell c v
 free:H X.env.locals=none
 freeC : ∀x c,X.env.cells.lookup x=some c->H c=none
 pin : ∀p∈X.pn++pins,s.heap.get? p.1=some p.2/\H p.1=none/\p.1≠X.env.locals/\p.1∉X.fs/\∀v,p.2.data ≠ .cell v
 hok:HOk X.prog X.w H s.heap
 len:σ.length=X.N.length
section
variable{X:Cx}{pins:List (Addr×Obj)}{σ:List (Option V)}{H H':Hp}{s:Shared}{h':Heap}
theorem Cx.Ok.nofr(ok:X.Ok){b:Addr}{o:Obj}(e:X.base.get? b=some o):b∉X.fs:=λz=>by
 have:=(ok.funs.mem z).1;rw [e]at this;cases this
theorem Inv.bs(I:Inv X pins σ H s) : ∀b o,X.base.get? b=some o->s.heap.get? b=some o/\H b=none:=λb o e=>
 ⟨I.base.keep b o (I.ok.bs b o e).1 (I.ok.bs b o e).2 (I.ok.nofr e) (I.ok.noex b o e),I.base.free b o (I.ok.bs b o e).1 (I.ok.bs b o e).2 (I.ok.noex b o e)⟩
theorem Inv.bk(I:Inv X pins σ H s) : ∀b o,X.base.get? b=some o->s.heap.get? b=some o:=λb o e=>(I.bs b o e).1
theorem Inv.mod(I:Inv X pins σ H s):Mod X.K X.mg X.base:=I.ok.mod
theorem Inv.kIn(I:Inv X pins σ H s):X.K.In s.heap:=I.ok.mod.kin.keeps I.bk
theorem Inv.lt(I:Inv X pins σ H s):X.env.locals<s.heap.objs.size:=let ⟨_,hn,_⟩:=I.loc;hn.lt
theorem Inv.sz(I:Inv X pins σ H s):X.s₀.heap.objs.size<=s.heap.objs.size:=zj9 I.ok.above (zmp I.lt)
theorem Inv.nofs(I:Inv X pins σ H s){a:Addr}(h:s.heap.objs.size<=a):a∉X.fs:=λz=>by
 obtain⟨_,o,O,_⟩:=I.ok.funs.mem z;exact absurd (zjr (zjq O) (zj9 I.sz h)) (zjP _)
theorem Inv.cne(I:Inv X pins σ H s) : ∀x c,X.env.cells.lookup x=some c->c≠X.env.locals:=λx c e z=>by
 obtain⟨v,o,O,hd⟩:=I.cell x c e;obtain⟨m,⟨o',es,ep,S,U,_⟩,_⟩:=I.loc;rw [z,S]at O;cases O;rw [U]at hd;cases hd
theorem Inv.funs(I:Inv X pins σ H s):s.heap.FunFrames X.base X.outer:=by
 have all : ∀(l:List Env),(∀b∈frs l,b∈X.fs)->X.s₀.heap.FunFrames X.base l->s.heap.FunFrames X.base l:=by
  intro l
  induction l with
  | nil=>intro _ _;trivial
  | cons env r Z=>
   intro Y hl;obtain⟨hk,⟨L,o,O,hn,ho,hd⟩,hr⟩:=hl;have S:L∈X.fs:=Y L (by unfold frs;rw [zmy,O];exact zju);obtain⟨sl,e⟩:=I.base.slot L o ho (I.ok.frf L S) S λz=>I.ok.exfs L z S;exact⟨hk,⟨L,_,O,hn,e,hd⟩,Z (λb U=>Y b (by unfold frs;rw [zmy,O];exact zjk _ U)) hr⟩
 exact all X.outer (λ_ U=>U) I.ok.funs
theorem Inv.stack(I:Inv X pins σ H s):s.heap.FunFrames X.base X.stack:=by
 rcases I.ok.stk with e | ⟨e,z⟩
 ·rw [e];exact I.funs
 ·rw [e]
  obtain⟨m,hn,_⟩:=I.loc;refine .cons (by rw [I.ok.kind];decide) z hn ?_ I.funs;exact Heap.get?_none_of_le (zj9 I.ok.bsz I.ok.above)
theorem Inv.stkSub(I:Inv X pins σ H s) : ∀b∈frs X.stack,b∈X.env.locals::X.fs:=λb z=>by
 rcases I.ok.stk with e | ⟨e,O⟩
 ·rw [e]at z;exact zjk _ z
 ·rw [e]at z
  unfold frs at z;rw [zmy,O]at z;exact z
theorem Inv.stkFree(I:Inv X pins σ H s) : ∀b∈frs X.stack,H b=none:=λb O=>by
 rcases zjm.mp (I.stkSub b O)with e | O
 ·rw [e];exact I.free
 ·obtain⟨_,o,S,_⟩:=I.ok.funs.mem O
  exact I.base.free b o S (I.ok.frf b O) λz=>I.ok.exfs b z O
theorem Inv.step{g':Array GenState}{t':Nat}{d':Drawn}{ch:List Addr}(I:Inv X pins σ H s)
 (U : ∀b∈ch,(b∈X.ex\/X.s₀.heap.objs.size<=b)/\b≠X.env.locals/\(∀x c,X.env.cells.lookup x=some c->c≠b)/\∀p∈X.pn++pins,p.1≠b)
 (keep : ∀b o,b≠X.env.locals->b∉X.fs->b∉ch->s.heap.get? b=some o->H b=none->h'.get? b=some o)
 (slot : ∀b o,b≠X.env.locals->b∈X.fs->b∉ch->s.heap.get? b=some o->H b=none->∃sl,h'.get? b=some {o with slots:=sl}) (free : ∀b o,b∉ch->s.heap.get? b=some o->H b=none->H' b=none)
 (there : ∀b o,b∉ch->s.heap.get? b=some o->∃o',h'.get? b=some o')
 (tups : ∀b xs,H b=some (.tup xs)->H' b=some (.tup xs)) (frzs : ∀b o u,H b=some (.frz o u)->H' b=some (.frz o u)) (tbls : ∀b ps,H b=some (.tbl ps)->∃more,H' b=some (.tbl (ps++more)))
 (ns : ∀m,s.heap.Ns X.env.locals m->h'.Ns X.env.locals m) (hok:HOk X.prog X.w H' h') (hg:AllBare g') :
 Inv X pins σ H' {s with heap:=h',gens:=g',drawn:=d',toks:=t'}:=by
 have a1 : ∀b o,X.s₀.heap.get? b=some o->b≠X.env.locals:=λb o e=>zjC (zjr (zjq e) I.ok.above);have a0 : ∀b o,X.s₀.heap.get? b=some o->b∉X.ex->b∉ch:=λb o e hx O=>by
  rcases (U b O).1 with z | z
  ·exact hx z
  ·exact absurd (zjr (zjq e) z) (zjP _)
 have a2 : ∀x c,X.env.cells.lookup x=some c->∀v,s.heap.IsCell c v->h'.IsCell c v:=λx c e v hZ=>by
  obtain⟨o,S,hd⟩:=hZ;have Y:c∉ch:=λz=>(U c z).2.2.1 x c e rfl;by_cases hc:c∈X.fs
  ·obtain⟨sl,q⟩:=slot c o (I.cne x c e) hc Y S (I.freeC x c e)
   exact⟨_,q,hd⟩
  ·exact⟨o,keep c o (I.cne x c e) hc Y S (I.freeC x c e),hd⟩
 refine⟨I.ok,I.os,hg,⟨λb o e n O hx=>?_,λb o e n O hx=>?_,λb o e n hx=>?_,λb o e hx=>?_,λb xs e=>tups b xs (I.base.tups b xs e),λb o xs e=>frzs b o xs (I.base.frzs b o xs e),λb ps e=>?_⟩,?_,λx c e=>?_,?_,λx c e=>?_,λp hp=>?_,hok,I.len⟩
 ·exact keep b o (a1 b o e) O (a0 b o e hx) (I.base.keep b o e n O hx) (I.base.free b o e n hx)
 ·obtain⟨sl,e1⟩:=I.base.slot b o e n O hx
  obtain⟨a8,Z⟩:=slot b _ (a1 b o e) O (a0 b o e hx) e1 (I.base.free b o e n hx);exact⟨a8,Z⟩
 ·obtain⟨o',e1⟩:=I.base.there b o e hx
  exact free b o' (a0 b o e hx) e1 (I.base.free b o e n hx)
 ·obtain⟨o',e1⟩:=I.base.there b o e hx
  exact there b o' (a0 b o e hx) e1
 ·obtain⟨m1,e1⟩:=I.base.tbls b ps e
  obtain⟨m2,Z⟩:=tbls b _ e1;exact⟨m1++m2,by rw [Z,Array.append_assoc]⟩
 ·obtain⟨m,hn,hl⟩:=I.loc
  refine⟨m,ns m hn,λi x v e1 Z e3=>?_⟩;obtain⟨u,r,l⟩:=hl i x v e1 Z e3;refine⟨u,r,?_⟩;rcases l with l | ⟨k,c,e,z⟩
  ·exact .inl l
  ·exact .inr ⟨k,c,e,a2 x c e _ z⟩
 ·obtain⟨v,z⟩:=I.cell x c e
  exact⟨v,a2 x c e v z⟩
 ·obtain⟨m,⟨o,_,_,S,_⟩,_⟩:=I.loc
  exact free _ o (λz=>(U _ z).2.1 rfl) S I.free
 ·obtain⟨v,o,S,hd⟩:=I.cell x c e
  exact free c o (λz=>(U c z).2.2.1 x c e rfl) S (I.freeC x c e)
 ·obtain⟨e,n,ne,nf,d⟩:=I.pin p hp
  have Y:p.1∉ch:=λz=>(U p.1 z).2.2.2 p hp rfl;exact⟨keep p.1 p.2 ne nf Y e n,free p.1 p.2 Y e n,ne,nf,d⟩
theorem Inv.un{t':Nat}(I:Inv X pins σ H s)(u:Un X.fs [] H H' s.heap h')(hok:HOk X.prog X.w H' h'):Inv X pins σ H' {s with heap:=h',toks:=t'}:=by
 obtain⟨m,⟨o,es,ep,S,r⟩,_⟩:=id I.loc;obtain⟨sl,Y⟩:=u.any S I.free ⋯;exact I.step (g':=s.gens) (d':=s.drawn) (ch:=[]) (λ_ z=>nomatch z) (λb o _ O _ e n=>u.keep b o e n O ⋯) (λb o _ O _ e n=>u.slot b o e n O ⋯) (λb o _ e n=>u.free b o e n ⋯) (λb o _ e=>u.there b o e ⋯) u.tups u.frzs u.tbls (λm' hm=>by
  obtain⟨o',Z,a0,U,r'⟩:=hm;rw [S]at U;cases U;exact⟨_,Z,a0,Y,r'⟩) hok I.bare
theorem Inv.call{g':Array GenState}{t':Nat}{d':Drawn}{ch:List Addr}(I:Inv X pins σ H s)(u:Un (frs X.stack) ch H H' s.heap h')(hok:HOk X.prog X.w H' h')(hg:AllBare g')
 (U : ∀b∈ch,(b∈X.ex\/X.s₀.heap.objs.size<=b)/\b≠X.env.locals/\(∀x c,X.env.cells.lookup x=some c->c≠b)/\∀p∈X.pn++pins,p.1≠b) :
 Inv X pins σ H' {s with heap:=h',gens:=g',drawn:=d',toks:=t'}:=by
 obtain⟨m,⟨o,es,ep,Y,r⟩,_⟩:=id I.loc;obtain⟨sl,S⟩:=u.any Y I.free λz=>(U _ z).2.1 rfl;exact I.step (ch:=ch) U (λb o S hb O e n=>u.keep b o e n (λz=>(zjm.mp (I.stkSub b z)).elim S hb) O) (λb o _ _ O e n=>u.any e n O) (λb o O e n=>u.free b o e n O) (λb o O e=>u.there b o e O) u.tups u.frzs u.tbls (λm' hm=>by
  obtain⟨o',a2,a3,Z,r'⟩:=hm;rw [Y]at Z;cases Z;exact⟨_,a2,a3,S,r'⟩) hok hg
theorem Inv.turned{t':Nat}{it:Addr}(I:Inv X pins σ H s)(k : ∀b o,b≠it->s.heap.get? b=some o->h'.get? b=some o)(hn:H it=none)(S:it≠X.env.locals)
 (h1:it∈X.ex\/X.s₀.heap.objs.size<=it) (h2 : ∀x c,X.env.cells.lookup x=some c->c≠it) (Y : ∀p∈X.pn++pins,p.1≠it):Inv X pins σ H {s with heap:=h',toks:=t'}:=by
 have U : ∀b u,H b=some u->b≠it:=λb u e z=>by rw [z,hn]at e;cases e
 refine I.step (g':=s.gens) (d':=s.drawn) (ch:=[it]) (λb Z=>?_) (λb o _ _ O e _=>k b o (λz=>O (by simp [z])) e) (λb o _ _ O e _=>⟨o.slots,k b o (λz=>O (by simp [z])) e⟩) (λ_ _ _ _ n=>n)
  (λb o O e=>⟨o,k b o (λz=>O (by simp [z])) e⟩) (λ_ _ e=>e) (λ_ _ _ e=>e) (λb ps e=>⟨#[],by rw [e];simp⟩) (λm hm=>?_) (λb u e=>?_) I.bare
 ·have e:b=it:=by simpa using Z
  subst e;exact⟨h1,S,h2,Y⟩
 ·obtain⟨o,es,ep,ho,r⟩:=hm
  exact⟨o,es,ep,k _ o (zj6 S) ho,r⟩
 ·refine(I.hok b u e).stay (λc v O q=>k c v ?_ q) (λ_ q=>q) λ_ _ q=>q
  rcases O with z | z
  ·rw [z];exact U b u e
  ·exact U c _ z
theorem Inv.tok(I:Inv X pins σ H s)(t:Nat):Inv X pins σ H {s with toks:=t}:=I.un (h':=s.heap) (t':=t) Un.refl I.hok
theorem Inv.kept{t':Nat}(I:Inv X pins σ H s)(k : ∀b u,s.heap.get? b=some u->h'.get? b=some u):Inv X pins σ H {s with heap:=h',toks:=t'}:=I.un (Un.kept k) (I.hok.kept k)
theorem Inv.laid{a:Addr}{o:HO}{t':Nat}(I:Inv X pins σ H s)(k : ∀b u,s.heap.get? b=some u->h'.get? b=some u)(z:s.heap.objs.size<=a)(new:ObjOk X.prog X.w (upd H a o) h' a o) :
 Inv X pins σ (upd H a o) {s with heap:=h',toks:=t'}:=I.un (Un.laid k z (I.hok.fresh z)) (I.hok.laid k z new)
theorem Inv.write{x e:Addr}{o:HO}{t':Nat}(I:Inv X pins σ H s)(z:Mut (H x))(he:e=x\/H e=some (.own x))(k : ∀b u,b≠e->s.heap.get? b=some u->h'.get? b=some u)(O : ∃u,h'.get? e=some u)
 (new:ObjOk X.prog X.w (upd H x o) h' x o):Inv X pins σ (upd H x o) {s with heap:=h',toks:=t'}:=I.un (Un.write z he k O) (I.hok.write z he k O new)
theorem Inv.pins_of{O:List (Addr×Obj)}(I:Inv X pins σ H s)(h : ∀p∈O,s.heap.get? p.1=some p.2/\H p.1=none/\p.1≠X.env.locals/\p.1∉X.fs/\∀v,p.2.data ≠ .cell v):Inv X O σ H s:=
 ⟨I.ok,I.os,I.bare,I.base,I.loc,I.cell,I.free,I.freeC,λp S=>(zkH.mp S).elim (λz=>I.pin p (List.mem_append_left _ z)) (h p),I.hok,I.len⟩
theorem XQ{N:List Str}(z:N.Nodup){i j:Nat}{x:Str}(a:N[i]? = some x)(b:N[j]? = some x):i=j:=by
 obtain⟨h1,e1⟩:=zjp.mp a;obtain⟨h2,I⟩:=zjp.mp b;exact(List.getElem_inj z).mp (e1.trans I.symm)
theorem JC{M:Model}{A:Around}{E:Value->Shared->Prop}{i:Nat}{x:Str}{v:V}{u:Value}{Q:Unit->Shared->Prop}(I:Inv X pins σ H s)(hN:X.N.Nodup)(hi:X.N[i]? = some x)(hx:Loc X.env.scope x)(r:RelV v u)
 (h : ∀s',Inv X pins (σ.set i (some v)) H s'->(∃a,zkE a s.heap s'.heap/\(a=X.env.locals\/X.env.cells.lookup x=some a))->Q () s') (hf:X.fn x=true\/X.env.scope.names.lookup x=some .local:=by first | exact .inl rfl | exact .inr rfl | assumption):wpAny M A (storeName X.env x u) Q E s:=by
 obtain⟨m,hn,hl⟩:=id I.loc;have ag:(X.env.scope.kind == .class || (X.env.scope.kind == .module && X.env.locals != X.env.globals))=false:=by rw [I.ok.kind];rfl
 have a9:i<σ.length:=by rw [I.len];exact(zjp.mp hi).1
 have cne:=I.cne;have aa : ∀{a:Addr} {h':Heap},(∃o,s.heap.get? a=some o/\H a=none)->zkE a s.heap h'->HOk X.prog X.w H h':=λ{a h'} ha O b ob e=>by
  obtain⟨_,_,ab⟩:=ha;refine(I.hok b ob e).stay (λc w' S q=>(O.2 c ?_).trans q) (λ_ q=>q) λ_ _ q=>q;rintro rfl;rcases S with rfl | S
  ·rw [ab]at e;cases e
  ·rw [ab]at S;cases S
 rcases hx with Y | Y
 ·refine wpAny_storeName_local Y hn (λh' ah O=>?_) ag
  obtain⟨oL,_,_,aj,_⟩:=id hn;refine h _ ⟨I.ok,I.os,I.bare,⟨λb o e n Z hx=>?_,λb o e n Z hx=>?_,I.base.free,λb o e hx=>?_,I.base.tups,I.base.frzs,I.base.tbls⟩,⟨_,ah,λj y v' e1 U e3=>?_⟩,λy c e=>?_,I.free,I.freeC,λp hp=>?_,aa ⟨oL,aj,I.free⟩ O,by simpa using I.len⟩ ⟨_,O,.inl rfl⟩
  ·exact(O.2 b (zjC (zjr (zjq e) I.ok.above))).trans (I.base.keep b o e n Z hx)
  ·obtain⟨sl,e1⟩:=I.base.slot b o e n Z hx
   exact⟨sl,(O.2 b (zjC (zjr (zjq e) I.ok.above))).trans e1⟩
  ·obtain⟨o',e1⟩:=I.base.there b o e hx
   exact⟨o',(O.2 b (zjC (zjr (zjq e) I.ok.above))).trans e1⟩
  ·by_cases hj:j=i
   ·subst hj
    rw [hi]at e1;cases e1;rw [zjU a9]at U;cases U;exact⟨u,r,.inl ⟨Y,by simp⟩⟩
   ·rw [zjc (zj6 hj)]at U
    obtain⟨u',r',q⟩:=hl j y v' e1 U e3;refine⟨u',r',?_⟩;rcases q with⟨k,e⟩ | ⟨k,c,e,z⟩
    ·refine .inl ⟨k,?_⟩
     have:y≠x:=λe=>hj (XQ hN e1 (e ▸ hi));simp [this,e]
    ·exact .inr ⟨k,c,e,z.sameBut O (cne y c e)⟩
  ·obtain⟨w',z⟩:=I.cell y c e
   exact⟨w',z.sameBut O (cne y c e)⟩
  ·obtain⟨e,n,ne,nf,d⟩:=I.pin p hp
   exact⟨(O.2 p.1 ne).trans e,n,ne,nf,d⟩
 ·have a6:X.fn x=true:=by
   rcases hf with z | z
   ·exact z
   ·rw [z]at Y;cases Y
  obtain⟨c,S⟩:=I.ok.has x (.inl Y);obtain⟨w',z⟩:=I.cell x c S;refine wpAny_storeName_cell I.ok.kind Y S z (λh' ac O=>?_);obtain⟨oc,ad,ak⟩:=id z;refine h {s with heap:=h'} ⟨I.ok,I.os,I.bare,⟨λb o e n Z hx=>?_,λb o e n Z hx=>?_,I.base.free,λb o e hx=>?_,I.base.tups,I.base.frzs,I.base.tbls⟩,⟨m,hn.sameBut O (zj6 (cne x c S)),λj y v' e1 U e3=>?_⟩,λy c' e=>?_,I.free,I.freeC,λp hp=>?_,aa ⟨oc,ad,I.freeC x c S⟩ O,by simpa using I.len⟩ ⟨c,O,.inr S⟩
  ·exact(O.2 b (zjC (zjr (zjq e) (I.ok.cab x c a6 S)))).trans (I.base.keep b o e n Z hx)
  ·obtain⟨sl,e1⟩:=I.base.slot b o e n Z hx
   exact⟨sl,(O.2 b (zjC (zjr (zjq e) (I.ok.cab x c a6 S)))).trans e1⟩
  ·obtain⟨o',e1⟩:=I.base.there b o e hx
   exact⟨o',(O.2 b (zjC (zjr (zjq e) (I.ok.cab x c a6 S)))).trans e1⟩
  ·by_cases hj:j=i
   ·subst hj
    rw [hi]at e1;cases e1;rw [zjU a9]at U;cases U;exact⟨u,r,.inr ⟨.inl Y,c,S,ac⟩⟩
   ·rw [zjc (zj6 hj)]at U
    obtain⟨u',r',q⟩:=hl j y v' e1 U e3;refine⟨u',r',?_⟩;rcases q with q | ⟨k,c',e,z'⟩
    ·exact .inl q
    ·refine .inr ⟨k,c',e,z'.sameBut O ?_⟩
     rintro rfl;exact hj (XQ hN e1 (I.ok.inj _ _ _ e S ▸ hi))
  ·by_cases ae:c'=c
   ·subst ae;exact⟨_,ac⟩
   ·obtain⟨w2,z2⟩:=I.cell y c' e
    exact⟨w2,z2.sameBut O ae⟩
  ·obtain⟨e,n,ne,nf,d⟩:=I.pin p hp
   refine⟨(O.2 p.1 ?_).trans e,n,ne,nf,d⟩;intro q;rw [q,ad]at e;have q':oc=p.2:=zj7 e;exact d w' (by rw [<- q'];exact ak)
theorem Xy{M:Model}{A:Around}{E:Value->Shared->Prop}{i:Nat}{x:Str}{v:V}{u:Value}{Q:Unit->Shared->Prop}(I:Inv X pins σ H s)(z:X.N.Nodup)(hi:X.N[i]? = some x)(hx:Loc X.env.scope x)(r:RelV v u)
 (h : ∀s',Inv X pins (σ.set i (some v)) H s'->Q () s') (O:X.fn x=true\/X.env.scope.names.lookup x=some .local:=by first | exact .inl rfl | exact .inr rfl | assumption):wpAny M A (storeName X.env x u) Q E s:=
 JC I z hi hx r (λs' S _=>h s' S) O
theorem Inv.call'{s':Shared}{ch:List Addr}(I:Inv X pins σ H s)(z:s'.os=s.os)(u:Un (frs X.stack) ch H H' s.heap s'.heap)(hok:HOk X.prog X.w H' s'.heap)(O:AllBare s'.gens)
 (S : ∀b∈ch,(b∈X.ex\/X.s₀.heap.objs.size<=b)/\b≠X.env.locals/\(∀x c,X.env.cells.lookup x=some c->c≠b)/\∀p∈X.pn++pins,p.1≠b):Inv X pins σ H' s':=by
 obtain⟨h',g',d',t',o'⟩:=s';have e:o'=s.os:=z;subst e;exact I.call (g':=g') (t':=t') (d':=d') u hok O S
end
abbrev XK:=Value->Option Addr->Hp->Prop
abbrev St:=List (Option V)
abbrev VK:=V->Hp->Prop
abbrev TE:=St->Hp->VK->Prop
abbrev TT:=St->Hp->(Bool->Hp->Prop)->Prop
abbrev TA:=St->Hp->(List V->Hp->Prop)->Prop
structure Ends where
 nx:St->Hp->Prop
 rt:VK
 bk:St->Hp->Prop:=λ_ _=>False
 ct:St->Hp->Prop:=λ_ _=>False
abbrev TS:=Ends->St->Hp->Prop
def EP(X:Cx)(pins:List (Addr×Obj))(σ:St)(Q:VK)(u:Value)(s':Shared):Prop:=∃v H',Inv X pins σ H' s'/\RelV v u/\Q v H'
def TP(X:Cx)(pins:List (Addr×Obj))(σ:St)(Q:Bool->Hp->Prop)(b:Bool)(s':Shared):Prop:=∃H',Inv X pins σ H' s'/\Q b H'
def AP(X:Cx)(pins:List (Addr×Obj))(σ:St)(Q:List V->Hp->Prop)(us:List Value)(s':Shared):Prop:=∃vs H',Inv X pins σ H' s'/\Vals vs us/\Q vs H'
def SP(X:Cx)(pins:List (Addr×Obj))(D:Ends)(f:Flow)(s':Shared):Prop:=
 match f with
 | .next=>∃σ' H',Inv X pins σ' H' s'/\D.nx σ' H'
 | .brk=>∃σ' H',Inv X pins σ' H' s'/\D.bk σ' H'
 | .cont=>∃σ' H',Inv X pins σ' H' s'/\D.ct σ' H'
 | .ret u=>∃v σ' H',Inv X pins σ' H' s'/\RelV v u/\D.rt v H'
def PE(X:Cx)(e:Expr)(t:TE):Prop:=
 ∀(pins:List (Addr×Obj)) (s:Shared) (σ:St) (H:Hp) (Q:VK),Inv X pins σ H s->t σ H Q->wpAny (model X.prog X.w) X.A (eval e X.env) (EP X pins σ Q) X.xe s
def PT(X:Cx)(e:Expr)(t:TT):Prop:=
 ∀(pins:List (Addr×Obj)) (s:Shared) (σ:St) (H:Hp) (Q:Bool->Hp->Prop),Inv X pins σ H s->t σ H Q->wpAny (model X.prog X.w) X.A (isTrue e X.env (eval e X.env)) (TP X pins σ Q) X.xe s
def PW(X:Cx)(e:Expr)(t:TT):Prop:=
 ∀(z:Sem Value) (pins:List (Addr×Obj)) (s:Shared) (σ:St) (H:Hp) (Q:Bool->Hp->Prop),Inv X pins σ H s->t σ H Q->wpAny (model X.prog X.w) X.A (isTrue e X.env z) (TP X pins σ Q) X.xe s
theorem PW.pt{X:Cx}{e:Expr}{t:TT}(h:PW X e t):PT X e t:=h _
def PA(X:Cx)(es:List Expr)(t:TA):Prop:=
 ∀(pos:Pos) (pins:List (Addr×Obj)) (s:Shared) (σ:St) (H:Hp) (Q:List V->Hp->Prop),Inv X pins σ H s->t σ H Q->wpAny (model X.prog X.w) X.A (spliced (backTo pos (starEach es X.env))) (AP X pins σ Q) X.xe s
def PS(X:Cx)(st:Stmt)(t:TS):Prop:=
 ∀(pins:List (Addr×Obj)) (s:Shared) (σ:St) (H:Hp) (D:Ends),Inv X pins σ H s->t D σ H->wpAny (model X.prog X.w) X.A (exec st X.env) (SP X pins D) X.xe s
def PSs(X:Cx)(st:List Stmt)(t:TS):Prop:=
 ∀(pins:List (Addr×Obj)) (s:Shared) (σ:St) (H:Hp) (D:Ends),Inv X pins σ H s->t D σ H->wpAny (model X.prog X.w) X.A (execs st X.env) (SP X pins D) X.xe s
theorem thn{α:Type}{t:Sem α}{Q z:α->Shared->Prop}{M:Model}{A:Around}{E:Value->Shared->Prop}{s:Shared}(h:wpAny M A t Q E s)(I : ∀a s,Q a s->z a s):wpAny M A t z E s:=zk5 h I λ_ _ x=>x
section
variable{X:Cx}
def vP(i:Nat):TE:=λσ H Q=>∃v,σ[i]? = some (some v)/\Q v H
def tC(v:V):TE:=λ_ H Q=>Q v H
theorem zfb{i:Nat}{x:Str}{pos:Pos}(Y:X.N[i]? = some x)(Z:Vis X.env.scope x)(hd:(x==("__debug__" : Str))=false:=by decide)(a0:(x==("__classdict__" : Str))=false:=by decide):PE X (.Name x pos) (vP i):=by
 intro pins s σ H Q I h;obtain⟨v,e,h⟩:=h;obtain⟨m,hn,hl⟩:=I.loc;obtain⟨u,r,l⟩:=hl i x v Y e Z;have O:EP X pins σ Q u s:=⟨v,H,I,r,h⟩;rcases l with⟨z,hm⟩ | ⟨z,c,S,U⟩
 ·exact wpAny_Name (wpAny_loadName_local I.ok.kind z hn hm O) hd
 ·rcases z with z | z
  ·exact wpAny_Name (wpAny_loadName_cell I.ok.kind z S U O) hd
  ·exact wpAny_Name (wpAny_loadName_free I.ok.kind z S U O a0) hd
theorem zfh{i j pos}:PE X (.Constant (.int i) j pos) (tC (.int i)):=λ_ _ _ H _ I h=>wpAny_Constant_int ⟨.int i,H,I.tok _,⟨_,rfl⟩,h⟩
theorem zhg{b j pos}:PE X (.Constant (.bool b) j pos) (tC (.bl b)):=λ_ _ _ H _ I h=>Constant_bool ⟨.bl b,H,I,rfl,h⟩
theorem zb4{x j pos}:PE X (.Constant (.str x) j pos) (tC (.str x)):=λ_ _ _ H _ I h=>Calls.Constant_str ⟨.str x,H,I.tok _,⟨_,rfl⟩,h⟩
def Gl(X:Cx)(x:Str):Prop:=X.env.kindOf x=some .globalImplicit
theorem QV{E:Value->Shared->Prop}{pins:List (Addr×Obj)}{s:Shared}{σ:St}{H:Hp}{x:Str}{u:Value}{pos:Pos}{Q:Value->Shared->Prop}(I:Inv X pins σ H s)(z:Gl X x)(hm:X.mg x=some u)(h:Q u s)
 (hd:(x==("__debug__" : Str))=false:=by decide):wpAny (model X.prog X.w) X.A (eval (.Name x pos) X.env) Q E s:=
 Calls.Name_function_global I.ok.kind z (Calls.loadGlobal_global (by rw [I.ok.glob];exact I.mod.glob.keeps I.bk) hm h) hd
theorem kW{E:Value->Shared->Prop}{pins:List (Addr×Obj)}{s:Shared}{σ:St}{H:Hp}{x:Str}{u:Value}{pos:Pos}{Q:Value->Shared->Prop}(I:Inv X pins σ H s)(z:Gl X x)(hm:X.mg x=none)(O:bootBuiltins x=some u)(h:Q u s)
 (hn:x ≠ "__name__":=by decide) (hd:(x==("__debug__" : Str))=false:=by decide):wpAny (model X.prog X.w) X.A (eval (.Name x pos) X.env) Q E s:=by
 obtain⟨mb,h1,h2⟩:=I.mod.blt;exact Calls.Name_function_global I.ok.kind z (Calls.loadGlobal_builtin (by rw [I.ok.glob];exact I.mod.glob.keeps I.bk) hm (by rw [I.ok.blt];exact h1.keeps I.bk) ((h2 x hn).trans O) h) hd
variable{a b:Expr}{ta tb:TE}{pos:Pos}
def tB(t:TE):TT:=λσ H Q=>t σ H λx H1=>∃c,x = .bl c/\Q c H1
theorem ze4{e:Expr}{t:TE}(h:PE X e t)(he : ∀z,isTrue e X.env z=(do let v <- z;standAt e.pos;holding [v] (truthy v)):=by intro _;rfl):PT X e (tB t):=by
 intro pins s σ H Q I hw;refine isTrue_plain (thn (h pins s σ H _ I hw) λv s1 O=>?_) (he _);obtain⟨x,H1,S,U,Y⟩:=O;obtain⟨d,rfl,q⟩:=Y;cases U;exact zkZ ⟨H1,S,q⟩
variable{tA tB':TT}{rest:List Expr}
def ziJ(t u:TT):TT:=λσ H Q=>t σ H λc H1=>if c=true then u σ H1 Q else Q false H1
def tOr(t u:TT):TT:=λσ H Q=>t σ H λc H1=>if c=true then Q true H1 else u σ H1 Q
def ziF(t:TT):TT:=λσ H Q=>t σ H λc H1=>Q (!c) H1
theorem zcW(ha:PT X a tA):PW X (.BoolOp .And [a] pos) tA:=by
 intro z pins s σ H Q I h;refine isTrue_and (thn (ha pins s σ H Q I h) λc s1 e=>?_);cases c with
 | true=>exact isTrue_and_nil e
 | false=>exact e
theorem zeU(ha:PT X a tA):PW X (.BoolOp .Or [a] pos) tA:=by
 intro z pins s σ H Q I h;refine isTrue_or (thn (ha pins s σ H Q I h) λc s1 e=>?_);cases c with
 | false=>exact isTrue_or_nil e
 | true=>exact e
theorem zeV(ha:PT X a tA)(S:PW X (.BoolOp .And (b::rest) pos) tB'):PW X (.BoolOp .And (a::b::rest) pos) (ziJ tA tB'):=by
 intro U pins s σ H Q I h;refine isTrue_and (thn (ha pins s σ H _ I h) λc s1 Y=>?_);obtain⟨H1,z,O⟩:=Y;cases c with
 | true=>exact S U pins s1 σ H1 Q z O
 | false=>exact⟨H1,z,O⟩
theorem zhb(ha:PT X a tA)(S:PW X (.BoolOp .Or (b::rest) pos) tB'):PW X (.BoolOp .Or (a::b::rest) pos) (tOr tA tB'):=by
 intro U pins s σ H Q I h;refine isTrue_or (thn (ha pins s σ H _ I h) λc s1 Y=>?_);obtain⟨H1,z,O⟩:=Y;cases c with
 | true=>exact⟨H1,z,O⟩
 | false=>exact S U pins s1 σ H1 Q z O
theorem ze5(ha:PT X a tA):PT X (.UnaryOp .Not a pos) (ziF tA):=by
 intro pins s σ H Q I h;exact isTrue_not (ha pins s σ H (λc H1=>Q (!c) H1) I h)
def zg1(ta tb:TE):TE:=λσ H Q=>ta σ H λx H1=>∃c,x = .bl c/\if c=true then tb σ H1 Q else Q (.bl false) H1
def zgU(ta:TE):TE:=λσ H Q=>ta σ H λx H1=>∃c,x = .bl c/\Q (.bl (!c)) H1
theorem zfd{op}{t:TE}(h:PE X a t):PE X (.BoolOp op [a] pos) t:=λpins s σ H Q I hw=>BoolOp_one (h pins s σ H Q I hw)
theorem zfi(ha:PE X a ta)(S:PE X (.BoolOp .And (b::rest) pos) tb):PE X (.BoolOp .And (a::b::rest) pos) (zg1 ta tb):=by
 intro pins s σ H Q I h;refine BoolOp_and (thn (ha pins s σ H _ I h) λv s1 U=>?_);obtain⟨x,H1,O,Y,z⟩:=U;obtain⟨c,rfl,z⟩:=z;cases Y;refine zkZ ?_;cases c with
 | true=>exact S pins s1 σ H1 Q O z
 | false=>exact⟨.bl false,H1,O,rfl,z⟩
theorem zfe(ha:PE X a ta):PE X (.UnaryOp .Not a pos) (zgU ta):=by
 intro pins s σ H Q I h;refine UnaryOp_ (thn (ha pins s σ H _ I h) λv s1 O=>?_);obtain⟨x,H1,S,U,z⟩:=O;obtain⟨c,rfl,z⟩:=z;cases U;exact not_of (zkZ ⟨.bl (!c),H1,S,rfl,z⟩)
def tIf(t:TT)(ta tb:TE):TE:=λσ H Q=>t σ H λc H1=>if c=true then ta σ H1 Q else tb σ H1 Q
theorem pe_ifExp{c:Expr}(S:PT X c tA)(ha:PE X a ta)(U:PE X b tb):PE X (.IfExp c a b pos) (tIf tA ta tb):=by
 intro pins s σ H Q I h;refine wpAny_IfExp (thn (S pins s σ H _ I h) λd s1 Y=>?_);obtain⟨H1,z,O⟩:=Y;cases d with
 | true=>exact ha pins s1 σ H1 Q z O
 | false=>exact U pins s1 σ H1 Q z O
end
def SqL(K:PySem.W.Frag)(H:Hp)(a:Addr)(xs:List V):Prop:=
 Rd H a (.lst xs)\/
  ∃(o:Obj) (z:Array Value) (n:Nat),K.lookup a=some o/\o.cls = .type "list"/\o.dict=none/\o.data = .seq z n/\z.size<=sizeLine/\Vals xs z.toList
def SqT(K:PySem.W.Frag)(H:Hp)(a:Addr)(xs:List V):Prop:=
 Rd H a (.tup xs)\/
  ∃(o:Obj) (z:Array Value) (n:Nat),K.lookup a=some o/\(o.cls,o.dict)=(zlY "tuple",none)/\o.data = .seq z n/\z.size<=sizeLine/\Vals xs z.toList
def ziX:Value->Option V
 | .none=>some .non
 | .bool b=>some (.bl b)
 | .int i _=>some (.int i)
 | .str x _=>some (.str x)
 | .bytes b _=>some (.byt b)
 | .float b _=>some (.flt b)
 | .ref a=>some (.ref a)
 | .type n=>some (.ty n)
 | _=>none
theorem RelV.abs{x:V}{u:Value}(r:RelV x u):ziX u=some x:=by
 cases x with
 | non=>cases r;rfl
 | bl _=>cases r;rfl
 | int _=>obtain⟨t,rfl⟩:=r;rfl
 | str _=>obtain⟨t,rfl⟩:=r;rfl
 | byt _=>obtain⟨t,rfl⟩:=r;rfl
 | flt _=>obtain⟨t,rfl⟩:=r;rfl
 | ref _=>cases r;rfl
 | ty _=>cases r;rfl
theorem RelV.inj{x y:V}{u:Value}(r:RelV x u)(q:RelV y u):x=y:=zj7 (r.abs.symm.trans q.abs)
theorem Vals.inj : ∀{xs ys:List V} {us:List Value},Vals xs us->Vals ys us->xs=ys
 | _,_,_,.nil,.nil=>rfl
 | _,_,_,.cons r t,.cons r' t'=>by rw [r.inj r',Vals.inj t t']
section
variable{X:Cx}{pins:List (Addr×Obj)}{σ:St}{H:Hp}{s:Shared}{a:Addr}{xs ys:List V}
theorem SqL.of{K:PySem.W.Frag}(h:H a=some (.lst xs)):SqL K H a xs:= .inl (.inl h)
theorem SqT.of{K:PySem.W.Frag}(h:H a=some (.tup xs)):SqT K H a xs:= .inl (.inl h)
theorem Inv.list(I:Inv X pins σ H s)(h:SqL X.K H a xs) : ∃O:List Value,Vals xs O/\PlainL s.heap a O.toArray/\xs.length<=sizeLine:=by
 rcases h with h | ⟨o,O,n,S,U,hd,Y,Z,r⟩
 ·obtain⟨z,O,n,r,e⟩:=h.ok I.hok
  exact⟨O,r,⟨_,n,e,rfl,rfl,rfl⟩,z⟩
 ·refine⟨O.toList,r,⟨o,n,I.kIn a o S,U,hd,by simpa using Y⟩,?_⟩
  have e:=r.length;simp only [zkg]at e;omega
theorem Inv.tuple(I:Inv X pins σ H s)(h:SqT X.K H a xs) : ∃O:List Value,Vals xs O/\IsTup s.heap a O.toArray/\xs.length<=sizeLine:=by
 rcases h with h | ⟨o,O,n,S,U,Y,Z,r⟩
 ·obtain⟨z,O,r,p⟩:=h.ok I.hok
  exact⟨O,r,p.tup,z⟩
 ·refine⟨O.toList,r,⟨o,I.kIn a o S,(Prod.mk.inj U).1,n,by simpa using Y⟩,?_⟩
  have e:=r.length;simp only [zkg]at e;omega
theorem Inv.list_inj(I:Inv X pins σ H s)(h:SqL X.K H a xs)(h':SqL X.K H a ys):xs=ys:=by
 obtain⟨O,r,⟨o,n,e,_,_,d⟩,_⟩:=I.list h;obtain⟨its',r',⟨o',n',z,_,_,d'⟩,_⟩:=I.list h';rw [e]at z;cases z;rw [d]at d';injection d' with S _;have:O=its':=by simpa using congrArg Array.toList S
 subst this;exact r.inj r'
theorem Inv.tuple_inj(I:Inv X pins σ H s)(h:SqT X.K H a xs)(h':SqT X.K H a ys):xs=ys:=by
 obtain⟨O,r,⟨o,e,_,n,d⟩,_⟩:=I.tuple h;obtain⟨its',r',⟨o',z,_,n',d'⟩,_⟩:=I.tuple h';rw [e]at z;cases z;rw [d]at d';injection d' with S _;have:O=its':=by simpa using congrArg Array.toList S
 subst this;exact r.inj r'
end
abbrev Cx.wish(X:Cx)(E:Value->Shared->Prop):Cx:={X with xe:=E}
abbrev Cx.nox(X:Cx):Cx:=X.wish λ_ _=>False
theorem Cx.Ok.wish{X:Cx}(ok:X.Ok)(E:Value->Shared->Prop):(X.wish E).Ok:=
 ⟨ok.mod,ok.kind,ok.glob,ok.blt,ok.above,ok.inj,ok.has,ok.cab,ok.hd,ok.frames,ok.stk,ok.exf,ok.bs,ok.bsz,ok.noex,ok.exfs,ok.funs,ok.frf⟩
theorem Cx.Ok.unwish{X:Cx}{E:Value->Shared->Prop}(ok:(X.wish E).Ok):X.Ok:=
 ⟨ok.mod,ok.kind,ok.glob,ok.blt,ok.above,ok.inj,ok.has,ok.cab,ok.hd,ok.frames,ok.stk,ok.exf,ok.bs,ok.bsz,ok.noex,ok.exfs,ok.funs,ok.frf⟩
section
variable{X:Cx}{pins:List (Addr×Obj)}{σ:St}{H:Hp}{s:Shared}{E:Value->Shared->Prop}
theorem Inv.wish(I:Inv X pins σ H s)(E:Value->Shared->Prop):Inv (X.wish E) pins σ H s:=⟨I.ok.wish E,I.os,I.bare,I.base,I.loc,I.cell,I.free,I.freeC,I.pin,I.hok,I.len⟩
theorem Inv.unwish(I:Inv (X.wish E) pins σ H s):Inv X pins σ H s:=⟨I.ok.unwish,I.os,I.bare,I.base,I.loc,I.cell,I.free,I.freeC,I.pin,I.hok,I.len⟩
theorem SP.unwish{D:Ends}{f:Flow}{s':Shared}(h:SP (X.wish E) pins D f s'):SP X pins D f s':=by
 cases f with
 | next=>obtain⟨σ',H',I,q⟩:=h;exact⟨σ',H',I.unwish,q⟩
 | brk=>obtain⟨σ',H',I,q⟩:=h;exact⟨σ',H',I.unwish,q⟩
 | cont=>obtain⟨σ',H',I,q⟩:=h;exact⟨σ',H',I.unwish,q⟩
 | ret u=>obtain⟨v,σ',H',I,r,q⟩:=h;exact⟨v,σ',H',I.unwish,r,q⟩
theorem PSs.nox{st:List Stmt}{t:TS}(h:PSs X.nox st t):PSs X st t:=λpins s σ H D I hw=>
 zk5 (h pins s σ H D (I.wish _) hw) (λ_ _ q=>q.unwish) λ_ _ z=>zkR z
end
section
variable{X:Cx}{st:Stmt}{rest:List Stmt}{t u:TS}{e:Expr}{te:TE}{pos:Pos}
def zgW:TS:=λD σ H=>D.nx σ H
def zic(t u:TS):TS:=λD σ H=>t {D with nx:=u D} σ H
theorem Vg:PSs X [] zgW:=λ_ _ σ H _ I h=>wpAny_execs_nil ⟨σ,H,I,h⟩
theorem yl(h1:PS X st t)(h2:PSs X rest u):PSs X (st::rest) (zic t u):=by
 intro pins s σ H D I h;refine wpAny_execs_cons (thn (h1 pins s σ H {D with nx:=u D} I h) λf s1 q=>?_);cases f with
 | next=>
  obtain⟨σ',H',z,q⟩:=q;exact h2 pins s1 σ' H' D z q
 | ret v=>exact q
 | brk=>exact q
 | cont=>exact q
theorem yK(h1:PS X st t):PSs X [st] t:=by
 intro pins s σ H D I h;refine wpAny_execs_cons (thn (h1 pins s σ H D I h) λf s1 q=>?_);cases f with
 | next=>exact wpAny_execs_nil q
 | ret v=>exact q
 | brk=>exact q
 | cont=>exact q
def zg0:TS:=λD σ H=>D.ct σ H
theorem QI:PS X (.Continue pos) zg0:=λ_ _ σ H _ I h=>wpAny_Continue ⟨σ,H,I,h⟩
theorem Inv.quiet{pins:List (Addr×Obj)}{σ:St}{H:Hp}{s:Shared}(I:Inv X pins σ H s):interactive X.env=false:=by simp [interactive,I.ok.kind]
def zgZ(te:TE):TS:=λD σ H=>te σ H λ_ H1=>D.nx σ H1
theorem QH(he:PE X e te)(z:swapsWith e none pos.line X.env=pure false:=by rfl):PS X (.Expr e pos) (zgZ te):=by
 intro pins s σ H D I h;exact wpAny_Expr_any (thn (he pins s σ H _ I h) λv s1 ⟨x,H1,O,U,S⟩=>⟨σ,H1,O,S⟩) I.quiet z
def zgS(te:TE):TS:=λD σ H=>te σ H D.rt
theorem Zh(he:PE X e te):PS X (.Return (some e) pos) (zgS te):=by
 intro pins s σ H D I h;exact wpAny_Return_some (thn (he pins s σ H _ I h) λv s1 ⟨x,H1,z,O,S⟩=>⟨x,σ,H1,z,O,S⟩)
def ziH(c:TT)(t u:TS):TS:=λD σ H=>c σ H λb H1=>if b=true then t D σ H1 else u D σ H1
theorem ze7{c:Expr}{a b:List Stmt}{tc:TT}(S:PT X c tc)(ha:PSs X a t)(U:PSs X b u):PS X (.If c a b pos) (ziH tc t u):=by
 intro pins s σ H D I h;refine wpAny_If (thn (S pins s σ H _ I h) λd s1 Y=>?_);obtain⟨H1,z,O⟩:=Y;cases d with
 | true=>exact ha pins s1 σ H1 D z O
 | false=>exact U pins s1 σ H1 D z O
def zeA:TS:=λ_ _ _=>False
theorem zav:PS X st zeA:=λ_ _ _ _ _ _ h=>h.elim
end
abbrev TG:=V->St->Hp->(St->Hp->Prop)->Prop
abbrev TGs:=List V->St->Hp->(St->Hp->Prop)->Prop
def PG(X:Cx)(z:Expr)(t:TG):Prop:=
 ∀(pins:List (Addr×Obj)) (s:Shared) (σ:St) (H:Hp) (v:V) (u:Value) (Q:St->Hp->Prop),Inv X pins σ H s->RelV v u->t v σ H Q->
  wpAny (model X.prog X.w) X.A (assign z X.env u) (λ_ s'=>∃σ' H',Inv X pins σ' H' s'/\Q σ' H') X.xe s
def PGs(X:Cx)(z:List Expr)(t:TGs):Prop:=
 ∀(pins:List (Addr×Obj)) (s:Shared) (σ:St) (H:Hp) (vs:List V) (us:List Value) (Q:St->Hp->Prop),Inv X pins σ H s->Vals vs us->t vs σ H Q->
  wpAny (model X.prog X.w) X.A (assignInOrder ((assignEach z X.env).map (·.2)) us) (λ_ s'=>∃σ' H',Inv X pins σ' H' s'/\Q σ' H') X.xe s
section
variable{X:Cx}{pos:Pos}
def xW(i:Nat):TG:=λv σ H Q=>Q (σ.set i (some v)) H
theorem Vp{i:Nat}{x:Str}(z:X.N.Nodup)(hi:X.N[i]? = some x)(hx:Loc X.env.scope x)(O:X.fn x=true\/X.env.scope.names.lookup x=some .local:=by first | exact .inl rfl | exact .inr rfl | assumption):PG X (.Name x pos) (xW i):=by
 intro pins s σ H v u Q I r h;exact wpAny_assign_Name (Xy I z hi hx r (λs' S=>⟨_,H,S,h⟩) O)
def zim:TGs:=λvs σ H Q=>vs=[]/\Q σ H
def zfU(t:TG)(u:TGs):TGs:=λvs σ H Q=>∃v r,vs=v::r/\t v σ H λσ' H'=>u r σ' H' Q
theorem ql:PGs X [] zim:=by
 intro pins s σ H vs us Q I r h;obtain⟨e,h⟩:=h;subst e;cases r;exact assignInOrder_nil ⟨σ,H,I,h⟩
theorem zY{e:Expr}{es:List Expr}{t:TG}{u:TGs}(h1:PG X e t)(h2:PGs X es u)
 (z:(assignEach (e::es) X.env).map (·.2)=assign e X.env::(assignEach es X.env).map (·.2):=by rfl):PGs X (e::es) (zfU t u):=by
 intro pins s σ H vs us Q I r h;obtain⟨v,vr,e1,h⟩:=h;subst e1;cases r with
 | cons r O=>
  rw [z];refine assignInOrder_cons (thn (h1 pins s σ H _ _ _ I r h) λ_ s1 S=>?_);obtain⟨U,H1,Y,Z⟩:=S;exact h2 pins s1 U H1 _ _ Q Y O Z
def zil(K:PySem.W.Frag)(n:Nat)(t:TGs):TG:=λv σ H Q=>∃a xs,v = .ref a/\SqT K H a xs/\xs.length=n/\t xs σ H Q
theorem zfa{es:List Expr}{k:Nat}{t:TGs}{n:Nat}(O:X.calm=true)(h:PGs X es t)
 (hn:(assignEach es X.env).length=n:=by rfl) (S:(assignEach es X.env).findIdx? (·.1)=none:=by rfl):PG X (.Tuple es k pos) (zil X.K n t):=by
 intro pins s σ H v u Q I r hw;obtain⟨a,xs,e1,U,Y,hw⟩:=hw;subst e1;cases r;obtain⟨a1,z,Z,hz⟩:=I.tuple U;refine assign_Tuple_tuple (I.ok.hd O) Z (by simp [hn,<- Y,z.length]) S λh' hx=>?_;have I1:Inv X pins σ H {s with heap:=h'}:=I.kept (t':=s.toks) λb o e=>hx b o (zjC (zjq e)) e;exact h pins _ σ H xs _ Q I1 (by simpa using z) hw
def Ky(te:TE)(g:TG):TS:=λD σ H=>te σ H λx H1=>g x σ H1 D.nx
theorem zb1{tg e:Expr}{te:TE}{g:TG}(he:PE X e te)(z:PG X tg g)(O:swapsWithSole [tg] e pos.line X.env=pure false:=by rfl)(hw:swappedStores [tg] e X.env=pure none:=by rfl)
 (h1:(assignEach [tg] X.env).map (·.2)=[assign tg X.env]:=by rfl):PS X (.Assign [tg] e pos) (Ky te g):=by
 intro pins s σ H D I h;refine wpAny_Assign_stores (thn (he pins s σ H _ I h) λv s1 S=>?_) O hw;obtain⟨x,H1,U,Y,Z⟩:=S;rw [h1];exact thn (z pins s1 σ H1 x v _ U Y Z) λ_ s2 q=>q
theorem ze6{i:Nat}{x:Str}{e:Expr}{te:TE}{pos':Pos}(z:X.N.Nodup)(hi:X.N[i]? = some x)(hx:Loc X.env.scope x)(he:PE X e te)(O:swapsWith e (some (.Name x pos')) pos.line X.env=pure false:=by rfl)(S:X.fn x=true\/X.env.scope.names.lookup x=some .local:=by first | exact .inl rfl | exact .inr rfl | assumption) :
 PS X (.Assign [.Name x pos'] e pos) (Ky te (xW i)):=by
 intro pins s σ H D I h;refine wpAny_Assign_Name (thn (he pins s σ H _ I h) λv s1 U=>?_) O;obtain⟨y,H1,Y,Z,q1⟩:=U;exact Xy Y z hi hx Z (λs2 I2=>⟨_,H1,I2,q1⟩) S
end
structure It where
 go:Nat->Hp->Prop
 yld:Nat->Hp->V->Hp->Prop
 stop:Nat->Hp->Prop
def FpOk(X:Cx)(pins:List (Addr×Obj))(H:Hp)(b:Addr):Prop:=
 H b=none/\b≠X.env.locals/\b∉X.fs/\(b∈X.ex\/X.s₀.heap.objs.size<=b)/\(∀x c,X.env.cells.lookup x=some c->c≠b)/\∀p∈X.pn++pins,p.1≠b
theorem Inv.fpOk{X:Cx}{pins:List (Addr×Obj)}{σ:St}{H H':Hp}{s:Shared}{b:Addr}(I:Inv X pins σ H s)(O:s.heap.objs.size<=b)(hn:H' b=none):FpOk X pins H' b:=by
 refine⟨hn,zky (zjr I.lt O),I.nofs O,.inr (zj9 I.sz O),λx c e z=>?_,λp S z=>?_⟩
 ·obtain⟨v,q⟩:=I.cell x c e
  exact absurd (zjr q.lt (by rw [z];exact O)) (zjP _)
 ·exact absurd (zjr (zjq (I.pin p S).1) (by rw [z];exact O)) (zjP _)
structure Turn(P:Program)(w:World)(K:PySem.W.Frag)(tg:Expr)(J:It)(fp:List Addr)(it:Addr)(tn:Nat->Heap->Prop):Prop where
 mem:it∈fp
 obj : ∀i h,tn i h->∀b∈fp,∃o,h.get? b=some o/\∀v,o.data ≠ .cell v
 keep : ∀i h h',tn i h->(∀b∈fp,∀o,h.get? b=some o->h'.get? b=some o)->tn i h'
 item : ∀(X:Cx),X.prog=P->X.w=w->X.K=K->X.calm=true->∀(i:Nat) (pins:List (Addr×Obj)) (s:Shared) (σ:St) (H:Hp) (E:Value->Shared->Prop),Inv X pins σ H s->(∀b∈fp,FpOk X pins H b)->tn i s.heap->J.go i H->
  wpAny (model P w) X.A (pyNext (.ref it)) (λr s1=>∃u,r=some u/\
   wpAny (model P w) X.A (letOwnedTupleGo tg (.ref it) u) (λ_ s2=>∃x H',Inv X pins σ H' s2/\RelV x u/\J.yld i H x H'/\tn (i+1) s2.heap/\∀b∈fp,H' b=none) E s1) E s
 done : ∀(X:Cx),X.prog=P->X.w=w->X.K=K->X.calm=true->∀(i:Nat) (pins:List (Addr×Obj)) (s:Shared) (σ:St) (H:Hp) (E:Value->Shared->Prop),Inv X pins σ H s->(∀b∈fp,FpOk X pins H b)->tn i s.heap->J.stop i H->
  wpAny (model P w) X.A (pyNext (.ref it)) (λr s1=>r=none/\Inv X pins σ H s1) E s
 self : ∀(A:Around) (i:Nat) (s:Shared) (Q:Value->Shared->Prop) (E:Value->Shared->Prop),tn i s.heap->Q (.ref it) s->wpAny (model P w) A (pyIter (.ref it)) Q E s
abbrev TI:=St->Hp->(It->Hp->Prop)->Prop
def PIE(X:Cx)(pins:List (Addr×Obj))(σ:St)(tg:Expr)(R:It->Hp->Prop)(z:Value)(s2:Shared):Prop:=
 ∃(it:Addr) (fp:List Addr) (tn:Nat->Heap->Prop) (J:It) (H':Hp),z = .ref it/\Inv X pins σ H' s2/\Turn X.prog X.w X.K tg J fp it tn/\tn 0 s2.heap/\(∀b∈fp,FpOk X pins H' b)/\R J H'
def PI(X:Cx)(tg iter:Expr)(wi:TI):Prop:=
 ∀(pins:List (Addr×Obj)) (s:Shared) (σ:St) (H:Hp) (R:It->Hp->Prop),Inv X pins σ H s->wi σ H R->
  wpAny (model X.prog X.w) X.A (eval iter X.env) (λv s1=>wpAny (model X.prog X.w) X.A (pyIter v) (PIE X pins σ tg R) X.xe s1) X.xe s
theorem za5{M:Model}{A:Around}{E:Value->Shared->Prop}{s:Shared}{tg:Expr}{it:Addr}{u:Value}{o:Obj}{n:String}{vs:Array Value}{Q:Unit->Shared->Prop}(I:s.heap.get? it=some o)(O:o.cls = .type n)(hd:o.data = .fields vs)
 (hn:["enumerate","zip","dict_itemiterator","dict_reverseitemiterator","odict_iterator","itertools.zip_longest","itertools.pairwise"].contains n=false) (z:Q () s):wpAny M A (letOwnedTupleGo tg (.ref it) u) Q E s:=by
 unfold letOwnedTupleGo;cases tg<;>first
  | exact zi4 z
  | (cases u<;>first
      | exact zi4 z
      | (refine zi0 (wpAny_load I ?_)
         rw [O,hd];show wpAny M A (if (["enumerate","zip","dict_itemiterator","dict_reverseitemiterator","odict_iterator","itertools.zip_longest","itertools.pairwise"].contains n && vs[0]? == some (rawInt _))=true then _ else _) Q E s;rw [if_neg (by intro h;rw [hn,Bool.false_and]at h;cases h)];exact zi4 z))
def Itl(K:PySem.W.Frag)(a:Addr):It:=
 ⟨λi H=>∃xs x,SqL K H a xs/\xs[i]? = some x,λi H x H'=>H'=H/\∀xs,SqL K H a xs->xs[i]? = some x,λi H=>∃xs,SqL K H a xs/\xs.length<=i⟩
def Itt(K:PySem.W.Frag)(a:Addr):It:=
 ⟨λi H=>∃xs x,SqT K H a xs/\xs[i]? = some x,λi H x H'=>H'=H/\∀xs,SqT K H a xs->xs[i]? = some x,λi H=>∃xs,SqT K H a xs/\xs.length<=i⟩
def Itr(lo:Int)(n:Nat):It:=⟨λi _=>i<n,λi H x H'=>H'=H/\x = .int (lo+i),λi _=>n<=i⟩
theorem YG{P:Program}{w:World}{K:PySem.W.Frag}{tg:Expr}(a it:Addr):Turn P w K tg (Itl K a) [it] it (λi h=>h.IsListIter it a i) where
 mem:=by simp
 obj:=λi h st b O=>by
  have e:b=it:=by simpa using O
  subst e;obtain⟨o,e,c,d⟩:=st;exact⟨o,e,λv z=>by rw [d]at z;cases z⟩
 keep:=λi h h' st k=>st.at λo e=>k it ⋯ o e
 item:=by
  intro X Y hw Z hc i pins s σ H E I S st hg;subst Y hw Z;obtain⟨xs,x,U,hx⟩:=hg;obtain⟨a9,rv,p,hz⟩:=I.list U;obtain⟨u,hu,ru⟩:=rv.get hx;obtain⟨f0,f1,f2,f3,f4,f5⟩:=S it ⋯;refine wpAny_pyNext_list_item st p.isList (x:=u) (by simpa using hu) λh' a8 sb=>?_;have I1:Inv X pins σ H {s with heap:=h'}:=I.turned (t':=s.toks) (λb o O e=>(sb.2 b O).trans e) f0 f1 f3 f4 f5;obtain⟨o,e,c,d⟩:=id a8;exact⟨u,rfl,za5 (s:={s with heap:=h'}) e c d ⋯ ⟨x,H,I1,ru,⟨rfl,λys hy=>by rw [I.list_inj hy U];exact hx⟩,a8,λb O=>(S b O).1⟩⟩
 done:=by
  intro X Y hw Z hc i pins s σ H E I S st hg;subst Y hw Z;obtain⟨xs,U,hx⟩:=hg;obtain⟨a9,rv,p,hz⟩:=I.list U;obtain⟨f0,f1,f2,f3,f4,f5⟩:=S it ⋯;have hl:=rv.length;exact wpAny_pyNext_list_end (I.ok.hd hc) st p.isList (by simp;omega) λh' eb=>⟨rfl,I.turned (t':=s.toks) (λb o O e=>eb b o O e) f0 f1 f3 f4 f5⟩
 self:=λ_ _ _ _ _ st h=>wpAny_pyIter_listiter st h
theorem Ks{P:Program}{w:World}{K:PySem.W.Frag}{tg:Expr}(a it:Addr):Turn P w K tg (Itt K a) [it] it (λi h=>h.IsTupleIter it a i) where
 mem:=by simp
 obj:=λi h st b O=>by
  have e:b=it:=by simpa using O
  subst e;obtain⟨o,e,c,d⟩:=st;exact⟨o,e,λv z=>by rw [d]at z;cases z⟩
 keep:=λi h h' st k=>st.at λo e=>k it ⋯ o e
 item:=by
  intro X Y hw Z hc i pins s σ H E I S st hg;subst Y hw Z;obtain⟨xs,x,U,hx⟩:=hg;obtain⟨a1,rv,p,hz⟩:=I.tuple U;obtain⟨u,hu,ru⟩:=rv.get hx;obtain⟨f0,f1,f2,f3,f4,f5⟩:=S it ⋯;refine wpAny_pyNext_tuple_item st (show s.heap.IsTuple a a1.toArray from p) (x:=u) (by simpa using hu) λh' a9 sb=>?_;have I1:Inv X pins σ H {s with heap:=h'}:=I.turned (t':=s.toks) (λb o O e=>(sb.2 b O).trans e) f0 f1 f3 f4 f5;obtain⟨o,e,c,d⟩:=id a9;exact⟨u,rfl,za5 (s:={s with heap:=h'}) e c d ⋯ ⟨x,H,I1,ru,⟨rfl,λys hy=>by rw [I.tuple_inj hy U];exact hx⟩,a9,λb O=>(S b O).1⟩⟩
 done:=by
  intro X Y hw Z hc i pins s σ H E I S st hg;subst Y hw Z;obtain⟨xs,U,hx⟩:=hg;obtain⟨a1,rv,p,hz⟩:=I.tuple U;obtain⟨f0,f1,f2,f3,f4,f5⟩:=S it ⋯;have hl:=rv.length;exact wpAny_pyNext_tuple_end (I.ok.hd hc) st (show s.heap.IsTuple a a1.toArray from p) (by simp;omega) λh' eb=>⟨rfl,I.turned (t':=s.toks) (λb o O e=>eb b o O e) f0 f1 f3 f4 f5⟩
 self:=λ_ _ _ _ _ st h=>wpAny_pyIter_tupleiter st h
theorem Kt{P:Program}{w:World}{K:PySem.W.Frag}{tg:Expr}(it:Addr)(lo:Int)(n:Nat):Turn P w K tg (Itr lo n) [it] it (λi h=>IsRangeIter h it (lo+(i:Nat)*1) ((n:Int) - (i:Nat)) 1) where
 mem:=by simp
 obj:=λi h st b O=>by
  have e:b=it:=by simpa using O
  subst e;exact⟨_,st,λv z=>by
   have z':Data.fields _=Data.cell v:=z;cases z'⟩
 keep:=λi h h' st k=>k it ⋯ _ st
 item:=by
  intro X U hw Y Z i pins s σ H E I S st hg;subst U hw Y;obtain⟨f0,f1,f2,f3,f4,f5⟩:=S it ⋯;have W:=Walks.range (prog:=X.prog) (w:=X.w) (I.ok.hd Z) it lo 1 n;refine W.item i s _ _ hg st λv h' tk hv a6 kk=>?_;obtain⟨t,rfl⟩:=hv;have I1:Inv X pins σ H {s with heap:=h',toks:=tk}:=I.turned (λb o O e=>kk b o (by simpa using O) e) f0 f1 f3 f4 f5;refine⟨_,rfl,za5 (s:={s with heap:=h',toks:=tk}) (n:="range_iterator") a6 rfl rfl ⋯ ⟨.int (lo+i),H,I1,⟨t,?_⟩,⟨rfl,rfl⟩,a6,λb O=>(S b O).1⟩⟩;rw [Int.mul_one]
 done:=by
  intro X U hw Y Z i pins s σ H E I S st hg;subst U hw Y;obtain⟨f0,f1,f2,f3,f4,f5⟩:=S it ⋯;exact wpAny_pyNext_range_end (I.ok.hd Z) st (by have:n<=i:=hg;omega) λh' eb=>⟨rfl,I.turned (t':=s.toks) (λb o O e=>eb b o O e) f0 f1 f3 f4 f5⟩
 self:=λ_ _ _ _ _ st h=>wpAny_pyIter_rangeiter st h
section
variable{X:Cx}{tg:Expr}
theorem XC{pins:List (Addr×Obj)}{σ:St}{H:Hp}{s:Shared}{R:It->Hp->Prop}{E:Value->Shared->Prop}{lo hi:Int}{t u v:Tok}{tk:Nat}(I:Inv X pins σ H s)(h1 : -(2 ^ 62)<=lo)(h2:lo<2 ^ 62)(O : -(2 ^ 62)<=hi)(S:hi<2 ^ 62)
 (q:R (Itr lo (hi - lo).toNat) H):wpAny (model X.prog X.w) X.A (pyIter (.ref s.heap.objs.size)) (PIE X pins σ tg R) E {s with heap:=s.heap.push {cls:= .type "range",data:= .fields #[.int lo t,.int hi u,.int 1 v]},toks:=tk}:=by
 refine wpAny_pyIter_range (IsRange.new ..) (small_one h1 h2 O S) ?_;have z:Inv X pins σ H {s with heap:=s.heap.push {cls:= .type "range",data:= .fields #[.int lo t,.int hi u,.int 1 v]},toks:=tk}:=I.kept λb o e=>zi3 _ e;refine⟨(s.heap.push {cls:= .type "range",data:= .fields #[.int lo t,.int hi u,.int 1 v]}).objs.size,[(s.heap.push {cls:= .type "range",data:= .fields #[.int lo t,.int hi u,.int 1 v]}).objs.size],_,_,H,rfl,
  z.kept (t':=tk) λb o e=>zi3 _ e,Kt _ lo (hi - lo).toNat,?_,λb U=>?_,q⟩
 ·have e1:lo+((0:Nat):Int)*1=lo:=by simp
  have Y:(((hi - lo).toNat:Nat):Int) - ((0:Nat):Int)=Builtin.Range.rangeSize lo hi 1:=by rw [rangeSize_one];split<;>omega
  show IsRangeIter _ _ (lo+((0:Nat):Int)*1) ((((hi - lo).toNat:Nat):Int) - ((0:Nat):Int)) 1;rw [e1,Y];exact zje _ rfl
 ·have e:b=(s.heap.push {cls:= .type "range",data:= .fields #[.int lo t,.int hi u,.int 1 v]}).objs.size:=by simpa using U
  subst e;exact z.fpOk (zjb _) (z.hok.fresh (zjb _))
def zhx(ta:TA):TI:=λσ H R=>ta σ H λvs H1=>∃j:Int,vs=[.int j]/\ -(2 ^ 62)<=j/\j<2 ^ 62/\R (Itr 0 j.toNat) H1
def zhw(ta:TA):TI:=λσ H R=>ta σ H λvs H1=>∃i j:Int,vs=[.int i,.int j]/\(-(2 ^ 62)<=i/\i<2 ^ 62/\ -(2 ^ 62)<=j/\j<2 ^ 62)/\R (Itr i (j - i).toNat) H1
theorem Vo{a:Expr}{ta:TA}{p pos:Pos}(O:Gl X "range")(hm:X.mg "range" = none)(ha:PA X [a] ta)(S:starEach [a] X.env=[(false,eval a X.env)]:=by rfl):PI X tg (.Call (.Name "range" p) [a] [] pos) (zhx ta):=by
 intro pins s σ H R I h;refine Call_ (kW I O hm boot_range (zkd (thn (ha pos pins s σ H _ I h) λus s1 U=>?_) S rfl));obtain⟨vs,H1,Y,Z,z⟩:=U;obtain⟨j,e,z,q2,q⟩:=z;subst e;cases Z with
 | cons r rr=>
  cases rr;obtain⟨t,rfl⟩:=r;exact call_range_1 (XC Y ⋯ ⋯ z q2 (by simpa using q))
theorem Vn{a b:Expr}{ta:TA}{p pos:Pos}(U:Gl X "range")(hm:X.mg "range" = none)(ha:PA X [a,b] ta)(Y:starEach [a,b] X.env=[(false,eval a X.env),(false,eval b X.env)]:=by rfl)(S:starEach [b] X.env=[(false,eval b X.env)]:=by rfl) :
 PI X tg (.Call (.Name "range" p) [a,b] [] pos) (zhw ta):=by
 intro pins s σ H R I h;refine Call_ (kW I U hm boot_range (zkd (thn (ha pos pins s σ H _ I h) λus s1 Z=>?_) (by rw [Y,S]) (by rw [S];rfl)));obtain⟨vs,H1,I1,r1,z⟩:=Z;obtain⟨i,j,e,⟨z,q2,q3,q4⟩,q⟩:=z;subst e;cases r1 with
 | cons r O=>
  cases O with
  | cons r' O=>
   cases O;obtain⟨t,rfl⟩:=r;obtain⟨t',rfl⟩:=r';exact call_range_2 (XC I1 z q2 q3 q4 q)
def ziI(wi:TI)(g:TG)(tb:TS):TS:=λD σ H=>wi σ H λJ H1=>∃W:Nat->Nat->St->Hp->Prop,(∃m,W 0 m σ H1)/\∀i m σ H,W i m σ H->
 (J.stop i H/\D.nx σ H)\/(J.go i H/\∃N:St->Hp->Prop,(∀σ' H',N σ' H'->∃m',m'<m/\W (i+1) m' σ' H')/\∀x H',J.yld i H x H'->g x σ H' λz H2=>tb {D with nx:=N,ct:=N,bk:=D.nx} z H2)
def JP(fp:List Addr)(h:Heap):List (Addr×Obj):=fp.filterMap λb=>(h.get? b).map λo=>(b,o)
theorem kz{fp:List Addr}{h:Heap}{b:Addr}{o:Obj}(z:b∈fp)(e:h.get? b=some o):(b,o)∈JP fp h:=List.mem_filterMap.mpr ⟨b,z,by rw [e];rfl⟩
theorem Vt{fp:List Addr}{h:Heap}{p:Addr×Obj}(z:p∈JP fp h):p.1∈fp/\h.get? p.1=some p.2:=by
 obtain⟨b,I,e⟩:=List.mem_filterMap.mp z;cases q:h.get? b with
 | none=>rw [q]at e;cases e
 | some o=>
  rw [q]at e;have O:(b,o)=p:=zj7 e;subst O;exact⟨I,q⟩
theorem Inv.pinned{pins:List (Addr×Obj)}{σ:St}{H:Hp}{s:Shared}{fp:List Addr}(I:Inv X pins σ H s)(U : ∀b∈fp,FpOk X pins H b)(Y : ∀b∈fp,∃o,s.heap.get? b=some o/\∀v,o.data ≠ .cell v):Inv X (pins++JP fp s.heap) σ H s:=
 I.pins_of λp Z=>(zkH.mp Z).elim (λz=>I.pin p (zj8 _ z)) λz=>by
  obtain⟨O,e⟩:=Vt z;obtain⟨f0,f1,f2,_⟩:=U p.1 O;obtain⟨o,S,d⟩:=Y p.1 O;rw [e]at S;cases S;exact⟨e,f0,f1,f2,d⟩
theorem Inv.unpinned{pins pl:List (Addr×Obj)}{σ:St}{H:Hp}{s:Shared}(I:Inv X (pins++pl) σ H s):Inv X pins σ H s:=I.pins_of λp z=>I.pin p (zj8 _ (List.mem_append_left _ z))
theorem zbZ{iter:Expr}{body:List Stmt}{wi:TI}{g:TG}{tb:TS}{pos:Pos}(hp:PassesOwn (model X.prog X.w) X.A X.env X.xe)(hc:X.calm=true)(hi:PI X tg iter wi)(hg:PG X tg g)(z:PSs X body tb)
 (hs : ∀x,foldedSetIterable iter X.env x=pure x:=by intro _;rfl):PS X (.For tg iter body [] pos) (ziI wi g tb):=by
 intro pins s σ H D I h;refine wpAny_For (thn (hi pins s σ H _ I h) λv s1 h1=>thn h1 λbd s2 h2=>?_) hs;obtain⟨it,fp,tn,J,H2,e,I2,T,aj,f2,W,⟨m0,w0⟩,am⟩:=h2;subst e;have a4 : ∀{H':Hp},(∀b∈fp,H' b=none)->∀b∈fp,FpOk X pins H' b:=λhn b z=>⟨hn b z,(f2 b z).2⟩;refine codeAny_forLoop_any (λn s'=>∃i σ' H',Inv X pins σ' H' s'/\tn i s'.heap/\(∀b∈fp,H' b=none)/\W i n σ' H') ?_ m0 ⟨0,σ,H2,I2,aj,λb z=>(f2 b z).1,w0⟩;rintro n s3 ⟨i,σ3,H3,I3,ac,ad,w3⟩;rcases am i n σ3 H3 w3 with⟨stop,qn⟩ | ⟨go,N,hN,step⟩
 ·refine zlU hp (thn (T.done X rfl rfl rfl hc i pins s3 σ3 H3 X.xe I3 (a4 ad) ac stop) λr s4 Z=>?_)
  obtain⟨hr,I4⟩:=Z;subst hr;exact wpAny_execs_nil ⟨σ3,H3,I4,qn⟩
 ·refine zlU hp (thn (T.item X rfl rfl rfl hc i pins s3 σ3 H3 X.xe I3 (a4 ad) ac go) λr s4 Z=>?_)
  obtain⟨u,hr,h4⟩:=Z;subst hr;refine zlU hp (thn h4 λ_ s5 Z=>?_);obtain⟨x,H5,I5,r5,y5,a6,aw⟩:=Z;have ax:=I5.pinned (a4 aw) (T.obj _ _ a6);refine zlU hp (thn (hg _ s5 σ3 H5 x u _ ax r5 (step x H5 y5)) λ_ s6 Z=>?_);obtain⟨σ6,H6,I6,q6⟩:=Z;refine zlU hp (thn (z _ s6 σ6 H6 _ I6 q6) λf s7 Y=>?_);have again : ∀{O:St} {S:Hp},Inv X (pins++JP fp s5.heap) O S s7->N O S->∃m,m<n/\∃i σ' H',Inv X pins σ' H' s7/\tn i s7.heap/\(∀b∈fp,H' b=none)/\W i m σ' H':=λ{O S} U n7=>by
   obtain⟨m',hm,w7⟩:=hN O S n7;refine⟨m',hm,i+1,O,S,U.unpinned,T.keep _ _ _ a6 λb z o e=>(U.pin (b,o) (zj8 _ (zj8 _ (kz z e)))).1,λb z=>?_,w7⟩;obtain⟨o,e,d⟩:=T.obj _ _ a6 b z;exact(U.pin (b,o) (zj8 _ (zj8 _ (kz z e)))).2.1
  cases f with
  | next=>obtain⟨O,S,U,n7⟩:=Y;exact again U n7
  | cont=>obtain⟨O,S,U,n7⟩:=Y;exact again U n7
  | brk=>obtain⟨O,S,U,Y⟩:=Y;exact⟨O,S,U.unpinned,Y⟩
  | ret v=>obtain⟨x7,O,S,U,r7,Y⟩:=Y;exact⟨x7,O,S,U.unpinned,r7,Y⟩
end
theorem J7{lo:Int}{n:Nat}{g:TG}{tb:TS}{D:Ends}{σ:St}{H:Hp}(z:Nat->St->Hp->Prop)(h0:z 0 σ H)
 (S : ∀i σ H,i<n->z i σ H->g (.int (lo+i)) σ H λI H2=>tb {D with nx:=z (i+1),ct:=z (i+1),bk:=D.nx} I H2) (hd : ∀σ H,z n σ H->D.nx σ H) :
 ∃W:Nat->Nat->St->Hp->Prop,(∃m,W 0 m σ H)/\∀i m σ H,W i m σ H->
  ((Itr lo n).stop i H/\D.nx σ H)\/((Itr lo n).go i H/\∃N:St->Hp->Prop,(∀σ' H',N σ' H'->∃m',m'<m/\W (i+1) m' σ' H')/\∀x H',(Itr lo n).yld i H x H'->g x σ H' λI H2=>tb {D with nx:=N,ct:=N,bk:=D.nx} I H2):=by
 refine⟨λi m σ H=>m=n - i/\i<=n/\z i σ H,⟨n,by simp,zkK _,h0⟩,?_⟩;rintro i m σ H ⟨rfl,hi,p⟩;by_cases O:i<n
 ·refine .inr ⟨O,z (i+1),λσ' H' p'=>⟨n - (i+1),by omega,rfl,O,p'⟩,λx H' y=>?_⟩
  obtain⟨e,y⟩:=y;subst e y;exact S i σ _ O p
 ·have e:i=n:=by omega
  subst e;exact .inl ⟨zjb _,hd σ H p⟩
abbrev R2:=V->V->Hp->VK->Prop
def OpR(X:Cx)(f:Value->Value->Sem Value)(r:R2):Prop:=
 ∀(pins:List (Addr×Obj)) (s:Shared) (σ:St) (H:Hp) (x y:V) (v u:Value) (Q:VK),Inv X pins σ H s->RelV x v->RelV y u->r x y H Q->
  wpAny (model X.prog X.w) X.A (f v u) (EP X pins σ Q) X.xe s
def vn(X:Cx)(f:Value)(r:List V->Hp->VK->Prop):Prop:=
 ∀(pins:List (Addr×Obj)) (s:Shared) (σ:St) (H:Hp) (xs:List V) (us:List Value) (Q:VK),Inv X pins σ H s->Vals xs us->r xs H Q->
  wpAny (model X.prog X.w) X.A (call f us) (EP X pins σ Q) X.xe s
def ziY(X:Cx)(r:V->Hp->(Bool->Hp->Prop)->Prop):Prop:=
 ∀(pins:List (Addr×Obj)) (s:Shared) (σ:St) (H:Hp) (x:V) (v:Value) (Q:Bool->Hp->Prop),Inv X pins σ H s->RelV x v->r x H Q->
  wpAny (model X.prog X.w) X.A (truthy v) (TP X pins σ Q) X.xe s
def tOp(r:R2)(ta tb:TE):TE:=λσ H Q=>ta σ H λx H1=>tb σ H1 λy H2=>r x y H2 Q
def rI(C:Int->Int->Prop)(g:Int->Int->V):R2:=λx y H Q=>∃i j,x = .int i/\y = .int j/\C i j/\Q (g i j) H
def rI0(g:Int->Int->V):R2:=λx y H Q=>∃i j,x = .int i/\y = .int j/\Q (g i j) H
section
variable{X:Cx}{a b c:Expr}{ta tb tc:TE}{pos:Pos}
theorem zhO(ha:PE X a ta)(O:PE X b tb){pins:List (Addr×Obj)}{s:Shared}{σ:St}{H:Hp}{R:V->V->Hp->Prop}(I:Inv X pins σ H s)
 (h:ta σ H λx H1=>tb σ H1 λy H2=>R x y H2) {Q:Value->Shared->Prop} {f:Value->Value->Sem Value}
 (S : ∀v u s2 x y H2,Inv X pins σ H2 s2->RelV x v->RelV y u->R x y H2->wpAny (model X.prog X.w) X.A (f v u) Q X.xe s2) :
 wpAny (model X.prog X.w) X.A (eval a X.env) (λv U=>wpAny (model X.prog X.w) X.A (eval b X.env) (λu Y=>wpAny (model X.prog X.w) X.A (f v u) Q X.xe Y) X.xe U) X.xe s:=by
 refine thn (ha pins s σ H _ I h) λv s1 z=>?_;obtain⟨x,H1,Z,r1,q1⟩:=z;refine thn (O pins s1 σ H1 _ Z q1) λu s2 z=>?_;obtain⟨y,H2,I2,r2,q2⟩:=z;exact S v u s2 x y H2 I2 r1 r2 q2
theorem zaB{z:Operator}{r:R2}(O:OpR X (binaryOp z) r)(ha:PE X a ta)(S:PE X b tb):PE X (.BinOp a z b pos) (tOp r ta tb):=by
 intro pins s σ H Q I h;exact wpAny_BinOp (zhO ha S I h λv u s2 x y H2 U Y Z q=>O pins s2 σ H2 x y v u Q U Y Z q)
theorem opI{f:Value->Value->Sem Value}{C:Int->Int->Prop}{g:Int->Int->Int}
 (rule : ∀(i j:Int) (t u:Tok) (s:Shared) (Q:Value->Shared->Prop) (E:Value->Shared->Prop),C i j->Q (.int (g i j) s.toks) {s with toks:=s.toks+1}->wpAny (model X.prog X.w) X.A (f (.int i t) (.int j u)) Q E s) :
 OpR X f (rI C λi j=> .int (g i j)):=by
 intro pins s σ H x y v u Q I z O h;obtain⟨i,j,rfl,rfl,S,q⟩:=h;obtain⟨t,rfl⟩:=z;obtain⟨t',rfl⟩:=O;exact rule i j t t' s _ _ S ⟨.int (g i j),H,I.tok _,⟨_,rfl⟩,q⟩
theorem zij{f:Value->Value->Sem Value}{g:Int->Int->Int}
 (rule : ∀(i j:Int) (t u:Tok) (s:Shared) (Q:Value->Shared->Prop) (E:Value->Shared->Prop),Q (.int (g i j) s.toks) {s with toks:=s.toks+1}->wpAny (model X.prog X.w) X.A (f (.int i t) (.int j u)) Q E s) :
 OpR X f (rI0 λi j=> .int (g i j)):=by
 intro pins s σ H x y v u Q I z O h;obtain⟨i,j,rfl,rfl,q⟩:=h;obtain⟨t,rfl⟩:=z;obtain⟨t',rfl⟩:=O;exact rule i j t t' s _ _ ⟨.int (g i j),H,I.tok _,⟨_,rfl⟩,q⟩
theorem zhk{f:Value->Value->Sem Value}{g:Int->Int->Bool}
 (rule : ∀(i j:Int) (t u:Tok) (s:Shared) (Q:Value->Shared->Prop) (E:Value->Shared->Prop),Q (.bool (g i j)) s->wpAny (model X.prog X.w) X.A (f (.int i t) (.int j u)) Q E s) :
 OpR X f (rI0 λi j=> .bl (g i j)):=by
 intro pins s σ H x y v u Q I z O h;obtain⟨i,j,rfl,rfl,q⟩:=h;obtain⟨t,rfl⟩:=z;obtain⟨t',rfl⟩:=O;exact rule i j t t' s _ _ ⟨.bl (g i j),H,I,rfl,q⟩
def ziD(i j:Int):Prop:=0<j/\j<1073741824
def ziC(i j:Int):Prop:=0<=j/\j<=1000000/\i.natAbs<2 ^ 64
def CMul(i j:Int):Prop:=(-(2 ^ 64)<i/\i<2 ^ 64)\/(-(2 ^ 64)<j/\j<2 ^ 64)
theorem CMul.ok{i j:Int}(h:CMul i j):IntMulOk i j:=by
 rcases h with⟨h1,h2⟩ | ⟨h1,h2⟩
 ·exact .of_left (intBits_le_64 h1 h2)
 ·exact .of_right (intBits_le_64 h1 h2)
theorem op_add:OpR X (binaryOp .Add) (rI0 λi j=> .int (i+j)):=zij λ_ _ _ _ _ _ _ q=>add_int q
theorem zfm:OpR X (binaryOp .Sub) (rI0 λi j=> .int (i - j)):=zij λ_ _ _ _ _ _ _ q=>sub_int q
theorem op_mul:OpR X (binaryOp .Mult) (rI CMul λi j=> .int (i*j)):=opI λ_ _ _ _ _ _ _ z q=>mul_int q z.ok
theorem zdi:OpR X (binaryOp .FloorDiv) (rI ziD λi j=> .int (i/j)):=opI λi j _ _ _ _ _ z q=>by
 have h1:(0:Int)<j:=z.1;have h2:j<1073741824:=z.2;exact floordiv_int ⋯ (by rw [Int.fdiv_eq_ediv_of_nonneg i ⋯];exact q) (.inl (PyProof.noPylong_small ⋯))
theorem zfq:OpR X (binaryOp .Mod) (rI (λ_ j=>0<j) λi j=> .int (i%j)):=opI λi j _ _ _ _ _ z q=>by
 have h1:(0:Int)<j:=z;exact mod_int' ⋯ (by rw [Int.fmod_eq_emod_of_nonneg i ⋯];exact q)
theorem zfn:OpR X (binaryOp .Pow) (rI ziC λi j=> .int (i ^ j.toNat)):=opI λ_ _ _ _ _ _ _ z q=>pow_int_small z.1 z.2.1 z.2.2 q
end
def ziK:V->V->Bool
 | .non,.non=>true | .non,.int _=>true | .int _,.non=>true | .non,.bl _=>true | .bl _,.non=>true | .non,.str _=>true | .str _,.non=>true
 | .int _,.int _=>true | .bl _,.bl _=>true | .str _,.str _=>true | .byt _,.byt _=>true
 | .int _,.str _=>true | .str _,.int _=>true | .bl _,.str _=>true | .str _,.bl _=>true
 | _,_=>false
def rEq:R2:=λx y H Q=>ziK x y=true/\Q (.bl (decide (x=y))) H
theorem zdJ{i j:Int}:decide (V.int i=V.int j)=(i==j):=by
 rw [zkI];simp
theorem zfZ{i j:Bool}:decide (V.bl i=V.bl j)=(i==j):=by
 rw [zkI];simp
theorem zdI{i j:Str}:decide (V.str i=V.str j)=(i==j):=by
 rw [zkI];simp
theorem zdK{i j:Array UInt8}:decide (V.byt i=V.byt j)=(i.toList==j.toList):=by
 rw [zkI];cases i;cases j;simp
section
variable{X:Cx}{a b c:Expr}{ta tb tc:TE}{pos:Pos}
theorem qU{pins:List (Addr×Obj)}{σ:St}{H:Hp}{s:Shared}{Q:VK}{k z:Bool}(I:Inv X pins σ H s)(q:Q (.bl k) H)(e:k=z):EP X pins σ Q (.bool z) s:=by
 subst e;exact⟨.bl k,H,I,rfl,q⟩
theorem zhj:OpR X (compareOp .Eq) rEq:=by
 intro pins s σ H x y v u Q I S z h;obtain⟨O,q⟩:=h;cases x with
 | non=>
  cases S;cases y with
  | non=>cases z;exact PySem.EqNone.eq_none_none (qU I q ⋯)
  | bl j=>cases z;exact PySem.EqNone.eq_none_bool (qU I q ⋯)
  | int j=>obtain⟨t',rfl⟩:=z;exact PySem.EqNone.eq_none_int (qU I q ⋯)
  | str j=>obtain⟨t',rfl⟩:=z;exact PySem.EqNone.eq_none_str (qU I q ⋯)
  | _=>exact absurd (show false=true from O) zjj
 | bl i=>
  cases S;cases y with
  | non=>cases z;exact PySem.EqNone.eq_bool_none (qU I q ⋯)
  | bl j=>cases z;exact eq_bool (qU I q zfZ)
  | str j=>obtain⟨t',rfl⟩:=z;exact PySem.EqMixed.eq_bool_str (qU I q ⋯)
  | _=>exact absurd (show false=true from O) zjj
 | int i=>
  obtain⟨t,rfl⟩:=S;cases y with
  | non=>cases z;exact PySem.EqNone.eq_int_none (qU I q ⋯)
  | int j=>obtain⟨t',rfl⟩:=z;exact eq_int (qU I q zdJ)
  | str j=>obtain⟨t',rfl⟩:=z;exact PySem.EqMixed.eq_int_str (qU I q ⋯)
  | _=>exact absurd (show false=true from O) zjj
 | str i=>
  obtain⟨t,rfl⟩:=S;cases y with
  | non=>cases z;exact PySem.EqNone.eq_str_none (qU I q ⋯)
  | bl j=>cases z;exact PySem.EqMixed.eq_str_bool (qU I q ⋯)
  | int j=>obtain⟨t',rfl⟩:=z;exact PySem.EqMixed.eq_str_int (qU I q ⋯)
  | str j=>obtain⟨t',rfl⟩:=z;exact eq_str (qU I q zdI)
  | _=>exact absurd (show false=true from O) zjj
 | byt i=>
  obtain⟨t,rfl⟩:=S;cases y with
  | byt j=>obtain⟨t',rfl⟩:=z;exact PySem.W.eq_bytes (qU I q zdK)
  | _=>exact absurd (show false=true from O) zjj
 | _=>cases y<;>exact absurd (show false=true from O) zjj
theorem zfr:OpR X (compareOp .Lt) (rI0 λi j=> .bl (decide (i<j))):=zhk λ_ _ _ _ _ _ _ q=>lt_int q
theorem zfs:OpR X (compareOp .LtE) (rI0 λi j=> .bl (decide (i<=j))):=zhk λ_ _ _ _ _ _ _ q=>le_int q
theorem zft:OpR X (compareOp .Gt) (rI0 λi j=> .bl (decide (j<i))):=zhk λ_ _ _ _ _ _ _ q=>gt_int q
theorem OpR.or{f:Value->Value->Sem Value}{r r':R2}(h:OpR X f r)(h':OpR X f r'):OpR X f (λx y H Q=>r x y H Q\/r' x y H Q):=by
 intro pins s σ H x y v u Q I z O q;rcases q with q | q
 ·exact h pins s σ H x y v u Q I z O q
 ·exact h' pins s σ H x y v u Q I z O q
theorem yZ(b:Expr){z:CmpOp}(h:z ≠ .In:=by decide)(h2:z ≠ .NotIn:=by decide):behindInMarks z b=false:=by
 have e1:(z==CmpOp.In)=false:=by cases z<;>first | rfl | exact absurd rfl h
 have I:(z==CmpOp.NotIn)=false:=by cases z<;>first | rfl | exact absurd rfl h2
 cases b<;>simp [behindInMarks,e1,I]
theorem zde{z:CmpOp}{r:R2}(O:OpR X (compareOp z) r)(ha:PE X a ta)(S:PE X b tb)(hm:behindInMarks z b=false):PE X (.Compare a [z] [b] pos) (tOp r ta tb):=by
 intro pins s σ H Q I h;exact wpAny_Compare1 (zhO ha S I h λv u s2 x y H2 U Y Z q=>O pins s2 σ H2 x y v u Q U Y Z q) hm
def zez(t:TE):TT:=λσ H Q=>t σ H λx H'=>∃k,x = .bl k/\Q k H'
theorem Vf{O:CmpOp}{r:R2}(S:OpR X (compareOp O) r)(ha:PE X a ta)(U:PE X b tb)(hm:behindInMarks O b=false):PT X (.Compare a [O] [b] pos) (zez (tOp r ta tb)):=by
 intro pins s σ H Q I h;refine wpAny_isTrue_Compare1 (thn (ha pins s σ H _ I h) λv s1 ⟨x,H1,Y,Z,q1⟩=>thn (U pins s1 σ H1 _ Y q1) λu s2 ⟨y,H2,I2,r2,q2⟩=>
  thn (S pins s2 σ H2 x y v u _ I2 Z r2 q2) λc s3 ⟨z,H3,I3,r3,k,e,q3⟩=>?_) hm
 subst e;cases r3;exact zkZ ⟨H3,I3,q3⟩
def zeC(r r':R2)(ta tb tc:TE):TE:=λσ H Q=>ta σ H λx H1=>tb σ H1 λy H2=>r x y H2 λz I=>∃k,z = .bl k/\
 (if k=true then tc σ I λw' O=>r' y w' O Q else Q (.bl false) I)
theorem zaD{O S:CmpOp}{r r':R2}(ho:OpR X (compareOp O) r)(a1:OpR X (compareOp S) r')(ha:PE X a ta)(hb:PE X b tb)(hc:PE X c tc)
 (hm:lastMarks [O,S] [b,c]=false:=by with_unfolding_all rfl):PE X (.Compare a [O,S] [b,c] pos) (zeC r r' ta tb tc):=by
 intro pins s σ H Q I h;refine Compare_chain (thn (ha pins s σ H _ I h) λv s1 ⟨x,H1,I1,r1,q1⟩=>chain_link (thn (hb pins s1 σ H1 _ I1 q1) λu s2 ⟨y,H2,I2,r2,q2⟩=>
  thn (ho pins s2 σ H2 x y v u _ I2 r1 r2 q2) λd s3 ⟨z,U,Y,r3,k,e,Z⟩=>?_)) hm
 subst e;cases r3;refine zkZ ?_;cases k with
 | false=>exact ite_ff ⟨.bl false,U,Y,rfl,Z⟩
 | true=>exact ite_tt (chain_last (thn (hc pins s3 σ U _ Y Z) λw' s4 ⟨z',H4,I4,r4,q4⟩=>a1 pins s4 σ H4 y z' u w' Q I4 r2 r4 q4))
def ziA(K:PySem.W.Frag)(x:V)(H:Hp)(k:Bool):Prop:=
 match x with
 | .non=>k=false
 | .bl b=>k=b
 | .int i=>k=(i != 0)
 | .str y=>y.length<=sizeLine/\k=((y.length:Int) != 0)
 | .byt y=>y.size<=sizeLine/\k=((y.size:Int) != 0)
 | .ref p=>(∃xs,SqL K H p xs/\k = !xs.isEmpty)\/(∃xs,SqT K H p xs/\k = !xs.isEmpty)\/∃kvs,H p=some (.dK kvs)/\k = !kvs.isEmpty
 | _=>False
theorem Yb{κ:Type}{kvs:List (κ×V)}{vs:List (κ×Value)}(r:KV kvs vs):(!vs.isEmpty) = !kvs.isEmpty:=by
 cases r<;>rfl
theorem Zn{xs:List V}{z:List Value}(r:Vals xs z):(!z.toArray.isEmpty) = !xs.isEmpty:=by
 cases r<;>simp
theorem Zj:(sizeLine:Nat)<2 ^ 63:=by rw [sizeLine_eq];decide
theorem zew:ziY X (λx H Q=>∃k,ziA X.K x H k/\Q k H):=by
 intro pins s σ H x v Q I O h;obtain⟨k,e,q⟩:=h;have hl:=Zj;have hs:sizeLine=16777216:=sizeLine_eq;cases x with
 | non=>
  cases O;have z:k=false:=e;subst z;exact truthy_none ⟨H,I,q⟩
 | bl b=>
  cases O;have z:k=b:=e;subst z;exact zkZ ⟨H,I,q⟩
 | int i=>
  obtain⟨t,rfl⟩:=O;have z:k=(i != 0):=e;subst z;exact PySem.P.truthy_int ⟨H,I,q⟩
 | str y=>
  obtain⟨t,rfl⟩:=O;obtain⟨Y,z⟩:y.length<=sizeLine/\k=((y.length:Int) != 0):=e;subst z;exact PySem.P.truthy_str ⋯ ⟨H,I.tok _,q⟩
 | byt y=>
  obtain⟨t,rfl⟩:=O;obtain⟨Y,z⟩:y.size<=sizeLine/\k=((y.size:Int) != 0):=e;subst z;exact PySem.W.truthy_bytes ⋯ ⟨H,I.tok _,q⟩
 | ref p=>
  cases O;have z:(∃xs,SqL X.K H p xs/\k = !xs.isEmpty)\/(∃xs,SqT X.K H p xs/\k = !xs.isEmpty)\/∃kvs,H p=some (.dK kvs)/\k = !kvs.isEmpty:=e;rcases z with⟨xs,hx,z⟩ | ⟨xs,hx,z⟩ | ⟨kvs,hx,z⟩
  ·subst z
   obtain⟨Z,r,pl,S⟩:=I.list hx;have U:=r.length;exact wpAny_truthy_list pl.isList (by simp only [zji];omega) ⟨H,I.tok _,by rw [Zn r];exact q⟩
  ·subst z
   obtain⟨Z,r,pl,S⟩:=I.tuple hx;have U:=r.length;exact truthy_tuple pl (by simp only [zji];omega) ⟨H,I.tok _,by rw [Zn r];exact q⟩
  ·subst z
   obtain⟨S,hS,vs,r,m⟩:kvs.length<=sizeLine/\(p==sysModules)=false/\∃vs,KV kvs vs/\s.heap.DictOf (QP X.prog X.w) p vs:=I.hok p _ hx;have U:kvs.length=vs.length:=Paired.length r;exact wpAny_truthy_dict hS m ⋯ ⟨H,I.tok _,by rw [Yb r];exact q⟩
 | _=>exact(show False from e).elim
theorem zas(ha:PE X a ta)(he : ∀z,isTrue a X.env z=(do let v <- z;standAt a.pos;holding [v] (truthy v))) :
 PT X a (λσ H Q=>ta σ H λx H'=>∃k,ziA X.K x H' k/\Q k H'):=by
 intro pins s σ H Q I h;exact isTrue_plain (thn (ha pins s σ H _ I h) λv s1 ⟨x,H1,O,S,U⟩=>zew pins s1 σ H1 x v Q O S U) (he _)
theorem KY:OpR X (binaryOp .Add) (λx y H Q=>∃i j,x = .str i/\y = .str j/\i.length+j.length<=sizeLine/\Q (.str (i++j)) H):=by
 intro pins s σ H x y v u Q I z O h;obtain⟨i,j,rfl,rfl,S,q⟩:=h;obtain⟨t,rfl⟩:=z;obtain⟨t',rfl⟩:=O;exact add_str (λt' tk=>⟨.str (i++j),H,I.tok _,⟨_,rfl⟩,q⟩) S
theorem vg{x:V}{us:List Value}(r:Vals [x] us) : ∃u,us=[u]/\RelV x u:=by
 cases r with
 | cons z r2=>cases r2;exact⟨_,rfl,z⟩
theorem zcz{x y:V}{us:List Value}(r:Vals [x,y] us) : ∃u w',us=[u,w']/\RelV x u/\RelV y w':=by
 cases r with
 | cons z r2=>
  cases r2 with
  | cons I O=>cases O;exact⟨_,_,rfl,z,I⟩
theorem Wp(O:X.calm=true):vn X (.builtin "max") (λxs H Q=>∃i j,xs=[.int i,.int j]/\Q (.int (if j>i then j else i)) H):=by
 intro pins s σ H xs us Q I r h;obtain⟨i,j,rfl,q⟩:=h;obtain⟨u,w',rfl,⟨t,rfl⟩,⟨t',rfl⟩⟩:=zcz r;refine max_two_ints (I.ok.hd O) λh' tk k=>⟨_,H,I.kept k,?_,q⟩;by_cases z:j>i
 ·rw [if_pos z,if_pos z];exact⟨_,rfl⟩
 ·rw [if_neg z,if_neg z];exact⟨_,rfl⟩
theorem Wo(O:X.calm=true):vn X (.builtin "min") (λxs H Q=>∃i j,xs=[.int i,.int j]/\Q (.int (if j<i then j else i)) H):=by
 intro pins s σ H xs us Q I r h;obtain⟨i,j,rfl,q⟩:=h;obtain⟨u,w',rfl,⟨t,rfl⟩,⟨t',rfl⟩⟩:=zcz r;refine min_two_ints (I.ok.hd O) λh' tk k=>⟨_,H,I.kept k,?_,q⟩;by_cases z:j<i
 ·rw [if_pos z,if_pos z];exact⟨_,rfl⟩
 ·rw [if_neg z,if_neg z];exact⟨_,rfl⟩
theorem Wq:vn X (.type "int") (λxs H Q=>(∃i,xs=[.int i]/\Q (.int i) H)\/∃k,xs=[.bl k]/\Q (.int (if k then 1 else 0)) H):=by
 intro pins s σ H xs us Q I r h;rcases h with⟨i,rfl,q⟩ | ⟨k,rfl,q⟩
 ·obtain⟨u,rfl,t,rfl⟩:=vg r
  exact call_int_int ⟨.int i,H,I,⟨_,rfl⟩,q⟩
 ·obtain⟨u,rfl,z⟩:=vg r
  cases z;exact call_int_bool ⟨.int (if k then 1 else 0),H,I.tok _,⟨_,rfl⟩,q⟩
end
structure ObjM(h:Heap)(x dx C:Addr)(mA:Str->Option Value):Prop where
 obj:h.get? x=some (PySem.W.instObj C dx)
 ns:h.Ns1 dx mA
 ne:dx≠x
theorem Vz{h:Heap}{dx:Addr}{mA:Str->Option Value}(n:h.Ns1 dx mA) : ∃od,h.get? dx=some od/\∀name,zmh name od=some (mA name):=by
 obtain⟨o,es,ep,I,hd,O,_,hm⟩:=n;refine⟨o,I,λname=>?_⟩;have e:=hm name;unfold nsFind findBy at e;rw [<- Array.find?_toList]at e;unfold zmh;rw [hd];dsimp only;split
 ·rename_i y q
  rw [q]at e;exact congrArg some e
 ·rename_i q
  rw [q]at e;have a:es.toList.any (·.refKey)=false:=by
   rw [zlr];intro y S;obtain⟨z,t,U⟩:=O y (Array.mem_toList_iff.mp S);simp [DictEntry.refKey,U]
  have Y : ¬es.toList.any (·.refKey)=true:=by rw [a];exact zjj
  rw [if_neg Y];exact congrArg some e
theorem ObjM.look{h:Heap}{x dx C:Addr}{mA:Str->Option Value}(I:ObjM h x dx C mA) : ∃od,PySem.W.InstAt h x (PySem.W.instObj C dx) C (some od)/\∀name,zmh name od=some (mA name):=
 let ⟨od,z,O⟩:=Vz I.ns
 ⟨od,⟨I.obj,rfl,rfl,z⟩,O⟩
section
variable{prog:Program}{w:World}{A:Around}{E:Value->Shared->Prop}{s:Shared}{K:PySem.W.Frag}{x dx C f:Addr}{mA:Str->Option Value}{name:Str}{v:Value}
theorem zdA{z:Bool}{Q:Value->Shared->Prop}(X:K.In s.heap)(I:ObjM s.heap x dx C mA)(O:PySem.W.plainGet K C name=true)(S:PySem.W.hasDictIn K C=true)
 (ha:PySem.W.findIn K (.ref C) name=some none) (U:mA name=some v) (Y:PySem.W.handedIn v=true) (h:Q v {s with toks:=s.toks+1}) :
 wpAny (model prog w) A (getAttr (.ref x) name z) Q E s:=by
 obtain⟨od,J,Z⟩:=I.look;exact PySem.W.get_value X J (zmm O).1 (PySem.W.findObj_own S ha rfl (by rw [Z,U])) Y h
theorem za6{pl:Sem Bool}{Q:Value×List Value->Shared->Prop}(X:K.In s.heap)(I:ObjM s.heap x dx C mA)(z:PySem.W.plainGet K C name=true)
 (O:PySem.W.findIn K (.ref C) name=some (some (.ref f))) (S:PySem.W.isFn K (.ref f)=true) (U:mA name=none) (h:Q (.ref f,[.ref x]) s) :
 wpAny (model prog w) A (getMethod (.ref x) name pl) Q E s:=by
 obtain⟨od,J,Y⟩:=I.look;exact PySem.W.method_fn X J (zmm z).1 (zmm z).2 O (beq_iff_eq.mp S) (by show(zmh name od).map (·.isSome)=some false;rw [Y,U];rfl) h
theorem zcN{ns:List Str}{Q:Unit->Shared->Prop}(X:K.In s.heap)(I:ObjM s.heap x dx C mA)
 (S:PySem.W.findIn K (.ref C) "__setattr__" = some (some (.builtin "object.__setattr__"))) (U:PySem.W.plainOver K C=true) (Y:PySem.W.takerIn K C name=some none) (Z:PySem.W.hasDictIn K C=true)
 (hw:zmN mA ns) (hsz:ns.length<=sizeLine)
 (h : ∀h',ObjM h' x dx C (λy=>if y=name then some v else mA y)->zkE dx s.heap h'->Q () {s with heap:=h',toks:=s.toks+2}) :
 wpAny (model prog w) A (setAttr (.ref x) name v) Q E s:=by
 obtain⟨od,J,hl⟩:=I.look;refine PySem.W.set_plain X J S (PySem.W.osa_open (s:={s with toks:=s.toks+1}) (r:=none) X J U Y λb=>?_);obtain⟨cd,hc,a1⟩:=PySem.W.any_some Z;have hx:s.heap.get? x=some ⟨.ref C,some dx,.plain,#[]⟩:=I.obj;refine zi0 (zi4 (zi0 (zi0 (wpAny_loadPart hx (zi0 (PySem.W.Looks.here (s:={s with toks:=s.toks+1}) (PySem.W.looks_clsIn X hc) ?_))))));rw [a1];refine zi4 (a:=some dx) (zi0 (zi4 (zi0 ?_)));refine wpAny_nsSet1 (s:={s with toks:=s.toks+1}) I.ns λh' z O=>?_;obtain⟨oD,a7,a8,a2,a3,a4⟩:=z.count (zmN.cons name v hw);refine zi0 (wpAny_lookBehind a2 (by rw [a3];exact pastItsLine_dict (zj9 a4 (by rw [zjv];omega))) ?_);exact zi4 (h _ ⟨(O.2 _ (zj6 I.ne)).trans I.obj,z,I.ne⟩ O)
theorem zaQ{R:Result->Shared->Prop}{vs:List Value}{z:List (Str×Value)}(X:K.In s.heap)(hm:PySem.W.makesIn K C=true)
 (hi:PySem.W.findIn K (.ref C) "__init__" = some (some (.ref f))) (I:zlI K (.ref f)=some (.type "function"))
 (h:codeAny (model prog w) (A.under (.builtin "type.__call__" ⟨.ref C::vs,z⟩)) (.call (.ref f) ⟨.ref (s.heap.objs.size+1)::vs,z⟩) (PySem.W.InitBack (s.heap.objs.size+1) R)
   {s with heap:=(s.heap.push zks).push (PySem.W.instObj C s.heap.objs.size)}) :
 codeAny (model prog w) A (.call (.ref C) ⟨vs,z⟩) R s:=by
 obtain⟨O,g,d,t,os⟩:=s;exact PySem.W.make_core (PySem.W.makes_of X hm) (PySem.W.looks_findIn X hi) (λself=>PySem.W.bind_fn X self I) (.inl rfl) h
end
def ZQ(f:Str)(v:V):List (Str×V)->List (Str×V)
 | []=>[(f,v)]
 | (g,x)::r=>if g=f then (g,v)::r else (g,x)::ZQ f v r
theorem qa(f g:Str)(v:V) : ∀fs:List (Str×V),(ZQ f v fs).lookup g=if g=f then some v else fs.lookup g
 | []=>by
  show zle g [(f,v)]=_;by_cases h:g=f
  ·have z:(g==f)=true:=beq_iff_eq.mpr h
   simp only [zle,z,if_pos h]
  ·have z:(g==f)=false:=beq_eq_false_iff_ne.mpr h
   simp only [zle,z,if_neg h]
 | (k,x)::r=>by
  have O:=qa f g v r;rw [show ZQ f v ((k,x)::r)=(if k=f then (k,v)::r else (k,x)::ZQ f v r)from rfl];by_cases I:k=f
  ·rw [if_pos I]
   by_cases h:g=k
   ·have z:(g==k)=true:=beq_iff_eq.mpr h
    simp only [zle,z,if_pos (h.trans I)]
   ·have z:(g==k)=false:=beq_eq_false_iff_ne.mpr h
    simp only [zle,z,if_neg (λe:g=f=>h (e.trans I.symm))]
  ·rw [if_neg I]
   by_cases h:g=k
   ·have z:(g==k)=true:=beq_iff_eq.mpr h
    simp only [zle,z,if_neg (λe:g=f=>I (h.symm.trans e))]
   ·have z:(g==k)=false:=beq_eq_false_iff_ne.mpr h
    simp only [zle,z];exact O
theorem wq(f:Str)(v:V) : ∀fs:List (Str×V),f∈(ZQ f v fs).map (·.1)/\∀g,g∈fs.map (·.1)->g∈(ZQ f v fs).map (·.1)
 | []=>⟨by simp [ZQ],λg h=>by simp at h⟩
 | (k,x)::r=>by
  obtain⟨i1,i2⟩:=wq f v r;rw [show ZQ f v ((k,x)::r)=(if k=f then (k,v)::r else (k,x)::ZQ f v r)from rfl];by_cases z:k=f
  ·rw [if_pos z]
   subst z;exact⟨by simp,λg h=>by simpa using h⟩
  ·rw [if_neg z]
   refine⟨?_,λg h=>?_⟩
   ·rw [zjw]
    exact zjk _ i1
   ·rw [zjw]at h ⊢
    rcases zjm.mp h with e | e
    ·exact zjm.mpr (.inl e)
    ·exact zjk _ (i2 g e)
theorem wp(f:Str)(v:V) : ∀fs:List (Str×V),(ZQ f v fs).length<=fs.length+1
 | []=>by simp [ZQ]
 | (k,x)::r=>by
  have I:=wp f v r;rw [show ZQ f v ((k,x)::r)=(if k=f then (k,v)::r else (k,x)::ZQ f v r)from rfl];by_cases z:k=f
  ·rw [if_pos z,zjv,zjv];omega
  ·rw [if_neg z,zjv,zjv];omega
theorem RelO.some_of{v:V}{o:Option Value}(r:RelO (some v) o) : ∃u,o=some u/\RelV v u:=by
 cases o with
 | none=>exact(show False from r).elim
 | some u=>exact⟨u,rfl,r⟩
theorem RelO.none_of{o:Option Value}(r:RelO none o):o=none:=by
 cases o with
 | none=>rfl
 | some u=>exact(show False from r).elim
theorem VY{v:V}{u:Value}(r:RelV v u):PySem.W.handedIn u=true:=by
 cases v with
 | non=>cases (show u=zkz from r);rfl
 | bl b=>cases (show u=zmJ b from r);rfl
 | int i=>obtain⟨t,e⟩:=(show ∃t,u=Value.int i t from r);cases e;rfl
 | str x=>obtain⟨t,e⟩:=(show ∃t,u=zmA x t from r);cases e;rfl
 | byt b=>obtain⟨t,e⟩:=(show ∃t,u=Value.bytes b t from r);cases e;rfl
 | flt b=>obtain⟨t,e⟩:=(show ∃t,u=Value.float b t from r);cases e;rfl
 | ref a=>cases (show u=zjy a from r);rfl
 | ty n=>cases (show u=zlY n from r);rfl
section
variable{P:Program}{w:World}{H H':Hp}{h h':Heap}{a C dx:Addr}{fs fs':List (Str×V)}
theorem Z2(hok:HOk P w H h)(e:H a=some (.ins C dx fs)) : ∃mA,ObjM h a dx C mA/\(∀f,RelO (fs.lookup f) (mA f))/\zmN mA (fs.map (·.1))/\fs.length<=1000/\H dx=some (.own a):=by
 obtain⟨d,z,ne,ob,mA,n,r,q⟩:=(show ObjOk P w H h a (.ins C dx fs)from hok a _ e);exact⟨mA,⟨ob,n,ne⟩,r,q,z,d⟩
end
structure Cls(K:PySem.W.Frag)(C:Addr):Prop where
 pg:PySem.W.plainGet K C Str.empty=true
 hd:PySem.W.hasDictIn K C=true
 po:PySem.W.plainOver K C=true
 sa:PySem.W.findIn K (.ref C) "__setattr__" = some (some (.builtin "object.__setattr__"))
theorem Cls.get{K:PySem.W.Frag}{C:Addr}(c:Cls K C)(f:Str):PySem.W.plainGet K C f=true:=c.pg
def NoAttr(K:PySem.W.Frag)(C:Addr)(f:Str):Prop:=PySem.W.findIn K (.ref C) f=some none
theorem NoAttr.taker{K:PySem.W.Frag}{C:Addr}{f:Str}(n:NoAttr K C f):PySem.W.takerIn K C f=some none:=by
 unfold PySem.W.takerIn;rw [show PySem.W.findIn K (.ref C) f=some none from n];rfl
structure Meth(K:PySem.W.Frag)(C:Addr)(m:Str)(f:Addr):Prop where
 at_:PySem.W.findIn K (.ref C) m=some (some (.ref f))
 fn:PySem.W.isFn K (.ref f)=true
 kp:PySem.W.keepIn K (.ref f)=true
section
variable{X:Cx}{pins:List (Addr×Obj)}{σ:St}{H:Hp}{s:Shared}{a C dx:Addr}{fs:List (Str×V)}{f:Str}{v:V}{A:Around}{E:Value->Shared->Prop}
theorem Yg{b:Bool}{Q:Value->Shared->Prop}(I:Inv X pins σ H s)(e:H a=some (.ins C dx fs))(c:Cls X.K C)(n:NoAttr X.K C f)(l:fs.lookup f=some v)
 (h : ∀u s',Inv X pins σ H s'->RelV v u->Q u s'):wpAny (model X.prog X.w) A (getAttr (.ref a) f b) Q E s:=by
 obtain⟨mA,O,r,_,_,_⟩:=Z2 I.hok e;obtain⟨u,S,z⟩:=RelO.some_of (v:=v) (o:=mA f) (by rw [<- l];exact r f);exact zdA I.kIn O (c.get f) c.hd n S (VY z) (h u _ (I.tok _) z)
theorem Yf{m:Str}{g:Addr}{pl:Sem Bool}{Q:Value×List Value->Shared->Prop}(I:Inv X pins σ H s)(e:H a=some (.ins C dx fs))(c:Cls X.K C)(k:Meth X.K C m g)(l:fs.lookup m=none)
 (h:Q (.ref g,[.ref a]) s):wpAny (model X.prog X.w) A (getMethod (.ref a) m pl) Q E s:=by
 obtain⟨mA,O,r,_,_,_⟩:=Z2 I.hok e;have hn:mA m=none:=RelO.none_of (by rw [<- l];exact r m);exact za6 I.kIn O (c.get m) k.at_ k.fn hn h
theorem KH{y:V}{u:Value}{Q:Unit->Shared->Prop}(I:Inv X pins σ H s)(e:H a=some (.ins C dx fs))(c:Cls X.K C)(n:NoAttr X.K C f)(hl:fs.length<1000)(Y:RelV y u)
 (h : ∀s',Inv X pins σ (upd H a (.ins C dx (ZQ f y fs))) s'->Q () s'):wpAny (model X.prog X.w) A (setAttr (.ref a) f u) Q E s:=by
 obtain⟨mA,O,r,wi,_,U⟩:=Z2 I.hok e;have Z:(fs.map (·.1)).length<=sizeLine:=by rw [zjh,sizeLine_eq];omega
 refine zcN I.kIn O c.sa c.po n.taker c.hd wi Z λh' S sb=>h _ ?_;have hd : ∃o,h'.get? dx=some o:=let ⟨o,_,_,e',_⟩:=S.ns;⟨o,e'⟩;refine I.write (x:=a) (e:=dx) (by rw [e];exact zkS) (.inr U) (λb q hb z=>(sb.2 b hb).trans z) hd ?_;refine⟨by rw [zJ O.ne];exact U,?_,O.ne,S.obj,_,S.ns,λg=>?_,λg hg=>?_⟩
 ·have:=wp f y fs;omega
 ·show RelO ((ZQ f y fs).lookup g) (if g=f then some u else mA g)
  rw [qa];by_cases q:g=f
  ·rw [if_pos q,if_pos q];exact Y
  ·rw [if_neg q,if_neg q];exact r g
 ·by_cases q:g=f
  ·rw [q];exact(wq f y fs).1
  ·refine(wq f y fs).2 g (wi g λz=>hg ?_)
   show(if g=f then some u else mA g)=none;rw [if_neg q];exact z
theorem Inv.made(I:Inv X pins σ H s):Inv X pins σ (upd (upd H s.heap.objs.size (.own (s.heap.objs.size+1))) (s.heap.objs.size+1) (.ins C s.heap.objs.size []))
 {s with heap:=(s.heap.push zks).push (PySem.W.instObj C s.heap.objs.size)}:=by
 have e1:(s.heap.push zks).get? s.heap.objs.size=some zks:=zje s.heap rfl;have z:((s.heap.push zks).push (PySem.W.instObj C s.heap.objs.size)).get? (s.heap.objs.size+1)=some (PySem.W.instObj C s.heap.objs.size):=by
  have:=zje (s.heap.push zks) (o:=PySem.W.instObj C s.heap.objs.size) rfl
  rwa [zjG]at this
 have O:(s.heap.push zks).Ns s.heap.objs.size (λ_=>none):=⟨zks,#[],_,e1,rfl,(λe he=>absurd he ⋯),λ_=>rfl⟩;have S:=I.laid (a:=s.heap.objs.size) (o:= .own (s.heap.objs.size+1)) (h':=s.heap.push zks) (t':=s.toks) (λb u q=>zi3 _ q) (zjb _) ⟨_,e1⟩;refine S.laid (a:=s.heap.objs.size+1) (o:= .ins C s.heap.objs.size []) (t':=s.toks) (λb u q=>zi3 _ q) (Nat.le_of_eq (zjG _ _)) ?_;have ne:s.heap.objs.size≠s.heap.objs.size+1:=zjC (zkr _);refine⟨by rw [zJ ne,zH],zkK _,ne,z,λ_=>none,(Heap.Ns1.of_empty O).at λo q=>zi3 _ q,λ_=>zkS,λy U=>absurd rfl U⟩
theorem zdZ{prog:Program}{w:World}{env:Env}{e:Expr}{f:Str}{pos:Pos}{s:Shared}{Q:Value->Shared->Prop}(z:attributeBase e f env (eval e env)=eval e env)
 (h:wpAny (model prog w) A (eval e env) (λo I=>wpAny (model prog w) A (getAttr o f true) Q E I) E s):wpAny (model prog w) A (eval (.Attribute e f pos) env) Q E s:=
 Attribute_any_ h (by rw [arm_eval_Attribute,z])
end
def zgY(K:PySem.W.Frag)(ta:TE)(f:Str):TE:=λσ H Q=>ta σ H λx H1=>∃a C dx fs v,x = .ref a/\H1 a=some (.ins C dx fs)/\Cls K C/\NoAttr K C f/\fs.lookup f=some v/\Q v H1
def zg5(K:PySem.W.Frag)(ta tv:TE)(f:Str):TS:=λD σ H=>tv σ H λy H1=>ta σ H1 λx H2=>∃a C dx fs,x = .ref a/\H2 a=some (.ins C dx fs)/\Cls K C/\NoAttr K C f/\fs.length<1000/\
 D.nx σ (upd H2 a (.ins C dx (ZQ f y fs)))
section
variable{X:Cx}{o e value:Expr}{f:Str}{pos pos' tpos:Pos}{ta tv:TE}
theorem XO(he:PE X e ta)(z:attributeBase e f X.env (eval e X.env)=eval e X.env):PE X (.Attribute e f pos) (zgY X.K ta f):=by
 intro pins s σ H Q I h;refine zdZ z (thn (he pins s σ H _ I h) λu s1 O=>?_);obtain⟨x,H1,S,U,a,C,dx,fs,v,ex,Y,c,n,l,q⟩:=O;subst ex;obtain rfl:u=zjy a:=U;exact Yg S Y c n l λu' s2 Z ru=>⟨v,H1,Z,ru,q⟩
theorem zb0(ha:PE X o ta)(z:PE X value tv)(O:swapsWith value (some (.Attribute o f pos')) pos.line X.env=pure false):PS X (.Assign [.Attribute o f pos'] value pos) (zg5 X.K ta tv f):=by
 intro pins s σ H D I h;refine plainObj_wpAny_Assign_Attribute (thn (z pins s σ H _ I h) λu s1 ⟨y,H1,S,U,q⟩=>thn (ha pins s1 σ H1 _ S q) λY s2 ⟨x,H2,Z,rx,a,C,dx,fs,ex,ea,c,n,l,q2⟩=>?_) O;subst ex;obtain rfl:Y=zjy a:=rx;exact KH Z ea c n l U λs3 I3=>⟨σ,_,I3,q2⟩
end
section
variable{X:Cx}{pins:List (Addr×Obj)}{σ:St}{H:Hp}{s:Shared}{A:Around}{E:Value->Shared->Prop}{Q:Value->Shared->Prop}{c:Value}{b:Bool}
inductive TyOf(K:PySem.W.Frag)(H:Hp):V->Value->Prop where
 | non:TyOf K H .non (.type "NoneType")
 | bl (x:Bool):TyOf K H (.bl x) (.type "bool")
 | int (i:Int):TyOf K H (.int i) (.type "int")
 | str (x:Str):TyOf K H (.str x) (.type "str")
 | flt (x:UInt64):TyOf K H (.flt x) (.type "float")
 | lst {a:Addr} {xs:List V} (e:H a=some (.lst xs)):TyOf K H (.ref a) (.type "list")
 | frz {a:Addr} {o:Obj} {xs:List V} (e:H a=some (.frz o (.lst xs))):TyOf K H (.ref a) (.type "list")
 | tup {a:Addr} {xs:List V} (e:H a=some (.tup xs)):TyOf K H (.ref a) (.type "tuple")
 | dK {a:Addr} {kvs:List (Key×V)} (e:H a=some (.dK kvs)):TyOf K H (.ref a) (.type "dict")
 | dT {a:Addr} {kvs:List (List Key×V)} (e:H a=some (.dT kvs)):TyOf K H (.ref a) (.type "dict")
 | ins {a C dx:Addr} {fs:List (Str×V)} (e:H a=some (.ins C dx fs)) (cl:Cls K C) (ha:PySem.W.findIn K (.ref C) "__class__" = some (some (.builtin "object.__class__")))
  (hn:PySem.W.specialIn K (.builtin "object.__class__") "__get__" = some (some (.builtin "getset_descriptor.__get__"))) (htk:PySem.W.takesIn K (.builtin "object.__class__")=some true)
  (hm:PySem.W.mroIn K C (.type "object")=some true):TyOf K H (.ref a) (.ref C)
theorem VR{x:V}{u t:Value}(I:Inv X pins σ H s)(S:RelV x u)(ty:TyOf X.K H x t)(e:zkC X.K t c=some b)(h : ∀tk,Q (.bool b) {s with toks:=tk}) :
 wpAny (model X.prog X.w) A (call (.builtin "isinstance") [u,c]) Q E s:=by
 cases ty with
 | non=>cases (show u=zkz from S);exact zjK PySem.W.kitx_none I.kIn zkS e (λz=>nomatch z) h
 | bl y=>cases (show u=zmJ y from S);exact zjK PySem.W.kitx_bool I.kIn zkS e (λz=>nomatch z) h
 | int i=>obtain⟨t,q⟩:=(show ∃t,u=Value.int i t from S);cases q;exact zjK PySem.W.kitx_int I.kIn zkS e (λz=>nomatch z) h
 | str y=>obtain⟨t,q⟩:=(show ∃t,u=zmA y t from S);cases q;exact zjK PySem.W.kitx_str I.kIn zkS e (λz=>nomatch z) h
 | flt y=>obtain⟨t,q⟩:=(show ∃t,u=Value.float y t from S);cases q;exact zjK PySem.W.kitx_float I.kIn zkS e (λz=>nomatch z) h
 | @lst a xs U=>
  cases (show u=zjy a from S);obtain⟨_,_,n,_,h1⟩:=(show ObjOk X.prog X.w H s.heap a (.lst xs)from I.hok a _ U);exact zjK zmD I.kIn ⟨_,h1,rfl⟩ e (λz=>nomatch z) h
 | @frz a ob xs U=>
  cases (show u=zjy a from S);obtain⟨_,_,_,n,_,h1⟩:=(show ObjOk X.prog X.w H s.heap a (.frz ob (.lst xs))from I.hok a _ U);exact zjK zmD I.kIn ⟨_,h1,rfl⟩ e (λz=>nomatch z) h
 | @tup a xs U=>
  cases (show u=zjy a from S);obtain⟨_,_,_,p⟩:=(show ObjOk X.prog X.w H s.heap a (.tup xs)from I.hok a _ U);obtain⟨o,h1,h2,_⟩:=p;exact zjK PySem.W.kitx_tuple I.kIn ⟨o,h1,(Prod.mk.inj h2).1⟩ e (λz=>nomatch z) h
 | @dK a kvs U=>
  cases (show u=zjy a from S);obtain⟨_,_,vs,_,p⟩:=(show ObjOk X.prog X.w H s.heap a (.dK kvs)from I.hok a _ U);obtain⟨o,es,ep,h1,h2,_⟩:=p;exact zjK zmE I.kIn ⟨o,h1,h2.1⟩ e (λz=>nomatch z) h
 | @dT a kvs U=>
  cases (show u=zjy a from S);obtain⟨_,_,xs,_,o,es,ep,h1,h2,_⟩:=(show ObjOk X.prog X.w H s.heap a (.dT kvs)from I.hok a _ U);exact zjK zmE I.kIn ⟨o,h1,h2.1⟩ e (λz=>nomatch z) h
 | @ins a C dx fs U cl ha hn htk hm=>
  cases (show u=zjy a from S);obtain⟨mA,O,_⟩:=Z2 I.hok U;obtain⟨od,J,_⟩:=O.look;exact zjK (PySem.W.kitx_own (cl.get _) cl.hd ha hn htk hm) I.kIn J e (λz=>nomatch z) h
end
structure Room(k:Nat)(A:Around):Prop where
 hd:A.handled=none
 dp:A.depth+3*k+5<recursionLimit
 un:A.units+16*k+200<cLine
theorem Room.mono{j k:Nat}{A:Around}(r:Room k A)(h:j<=k):Room j A:=⟨r.hd,by have:=r.dp;omega,by have:=r.un;omega⟩
theorem Room.deeper{k:Nat}{A:Around}(r:Room (k+1) A)(env:Env):Room k (A.deeper env):=
 ⟨r.hd,by have:=r.dp;show A.depth+1+3*k+5<_;omega,by have:=r.un;show A.units+3+16*k+200<_;omega⟩
theorem K4{A:Around}{C:Addr}{us:List Value}{z:List (Str×Value)}:(A.under (.builtin "type.__call__" ⟨.ref C::us,z⟩)).depth=A.depth+1:=by
 first | rfl | simp [Around.under,Code.weight,Code.isCreation,Code.isGuard,Code.isCaller,Code.frames,Code.isFrame,guardIds]
theorem K1{A:Around}{C:Addr}{us:List Value}{z:List (Str×Value)}:(A.under (.builtin "type.__call__" ⟨.ref C::us,z⟩)).units=A.units+1:=by
 first | rfl | simp [Around.under,Code.cUnits,Code.frames,Code.isFrame]
theorem Room.make{k:Nat}{A:Around}(r:Room (k+1) A)(C:Addr)(us:List Value)(z:List (Str×Value)):Room k (A.under (.builtin "type.__call__" ⟨.ref C::us,z⟩)):=
 ⟨r.hd,by have:=r.dp;rw [K4];omega,by have:=r.un;rw [K1];omega⟩
theorem Room.depth{k:Nat}{A:Around}(r:Room k A):A.depth<recursionLimit:=by have:=r.dp;omega
def zd8:TA:=λ_ H Q=>Q [] H
def vQ(ta:TE)(z:TA):TA:=λσ H Q=>ta σ H λx H1=>z σ H1 λxs H2=>Q (x::xs) H2
section
variable{X:Cx}{e:Expr}{es:List Expr}{te:TE}{t:TA}{pos:Pos}
theorem jP:PA X [] zd8:=λ_ _ _ _ H Q I h=>zl2 ⟨[],H,I,.nil,h⟩
theorem zS(ha:PE X e te)(z:PA X es t)(O:starEach (e::es) X.env=(false,eval e X.env)::starEach es X.env:=by rfl):PA X (e::es) (vQ te t):=by
 intro pos pins s σ H Q I h;rw [O];show wpAny _ _ (spliced ((false,eval e X.env)::backTo pos (starEach es X.env))) _ _ s;refine zk2 (thn (ha pins s σ H _ I h) λu s1 S=>?_);obtain⟨x,H1,U,Y,Z⟩:=S;exact thn (z pos pins s1 σ H1 _ U Z) λus s2 ⟨xs,H2,I2,r2,q2⟩=>⟨x::xs,H2,I2,.cons Y r2,q2⟩
def ziE(t:TA):TE:=λσ H Q=>t σ H λxs H1=>xs.length<=sizeLine/\∀p,H1 p=none->Q (.ref p) (upd H1 p (.tup xs))
def ziG(t:TA):TE:=λσ H Q=>t σ H λxs H1=>xs.length<=sizeLine/\∀p,H1 p=none->Q (.ref p) (upd H1 p (.lst xs))
theorem zfc{x1}(h:PA X es t):PE X (.Tuple es x1 pos) (ziE t):=by
 intro pins s σ H Q I S;refine wpAny_Tuple_spliced (thn (h pos pins s σ H _ I S) λus s1 ⟨xs,H1,O,r,z,q⟩=>⟨by rw [<- r.length];exact z,?_⟩);have U:H1 s1.heap.objs.size=none:=O.hok.fresh (zjb _);refine⟨.ref s1.heap.objs.size,upd H1 s1.heap.objs.size (.tup xs),O.laid (t':=s1.toks) (λb u e=>zi3 _ e) (zjb _) ?_,rfl,q _ U⟩;exact⟨z,us,r,⟨_,zje _ rfl,rfl,_,rfl⟩⟩
theorem zff(h:PA X es t):PE X (.List es pos) (ziG t):=by
 intro pins s σ H Q I S;refine wpAny_List_spliced (thn (h pos pins s σ H _ I S) λus s1 ⟨xs,H1,O,r,z,q⟩=>⟨by rw [<- r.length];exact z,?_⟩);have U:H1 s1.heap.objs.size=none:=O.hok.fresh (zjb _);refine⟨.ref s1.heap.objs.size,upd H1 s1.heap.objs.size (.lst xs),O.laid (t':=s1.toks) (λb u e=>zi3 _ e) (zjb _) ?_,rfl,q _ U⟩;exact⟨z,us,0,r,zje _ rfl⟩
end
abbrev Sp:=List V->Hp->VK->XK->Prop
abbrev CXT:=List Env->Hp->Shared->XK->Value->Shared->Prop
structure Env0(P:Program)(w:World)(K:PySem.W.Frag)(mg:Str->Option Value)(base:Heap)(A:Around)(outer:List Env)(s:Shared)(H:Hp):Prop where
 frames:A.frames=some outer
 mod:Mod K mg base
 bs : ∀b o,base.get? b=some o->s.heap.get? b=some o/\H b=none
 bsz:base.objs.size<=s.heap.objs.size
 funs:s.heap.FunFrames base outer
 frf : ∀b∈frs outer,H b=none
 hok:HOk P w H s.heap
 bare:AllBare s.gens
def CE(outer:List Env)(P:Program)(w:World)(H:Hp)(s:Shared)(Q:VK)(u:Value)(s':Shared):Prop:=
 ∃v H',s'.os=s.os/\AllBare s'.gens/\Un (frs outer) [] H H' s.heap s'.heap/\HOk P w H' s'.heap/\RelV v u/\Q v H'
def CR(CX:CXT)(outer:List Env)(P:Program)(w:World)(H:Hp)(s:Shared)(Q:VK)(E:XK)(r:Result)(s':Shared):Prop:=
 match r with
 | .ok (.ret u)=>CE outer P w H s Q u s'
 | .ok _=>False
 | .error e=>CX outer H s E e s'
structure FnOk(P:Program)(w:World)(K:PySem.W.Frag)(mg:Str->Option Value)(base:Heap)(CX:CXT)(k:Nat)(f:Addr)(fd:FuncData)(ps:List Str)(sp:Sp):Prop where
 len : ∀vs H Q E,sp vs H Q E->vs.length=ps.length
 run : ∀(A:Around) (outer:List Env) (s:Shared) (H:Hp) (args:Args) (us:List Value) (vs:List V) (Q:VK) (E:XK),Room k A->Env0 P w K mg base A outer s H->BindsTo s fd args (ps.zip us)->Vals vs us->sp vs H Q E->
  codeAny (model P w) A (.call (.ref f) args) (CR CX outer P w H s Q E) s
theorem Env0.make{P:Program}{w:World}{K:PySem.W.Frag}{mg:Str->Option Value}{base:Heap}{A:Around}{outer:List Env}{s:Shared}{H:Hp}(e:Env0 P w K mg base A outer s H)(C:Addr)(us:List Value)(z:List (Str×Value)) :
 Env0 P w K mg base (A.under (.builtin "type.__call__" ⟨.ref C::us,z⟩)) outer s H:=⟨by first | exact e.frames | (simpa [Around.under,Code.envs,Code.isFrame,pushEnvs]using e.frames),e.mod,e.bs,e.bsz,e.funs,e.frf,e.hok,e.bare⟩
section
variable{X:Cx}{pins:List (Addr×Obj)}{σ:St}{H:Hp}{s s':Shared}
theorem Inv.env0(I:Inv X pins σ H s):Env0 X.prog X.w X.K X.mg X.base X.A X.stack s H:=
 ⟨I.ok.frames,I.ok.mod,I.bs,zj9 I.ok.bsz I.sz,I.stack,I.stkFree,I.hok,I.bare⟩
theorem Inv.after{Q:VK}{u:Value}(I:Inv X pins σ H s)(h:CE X.stack X.prog X.w H s Q u s'):EP X pins σ Q u s':=by
 obtain⟨v,H',os,bare,un,hok,r,q⟩:=h;obtain⟨O,g,d,t,S⟩:=s';obtain rfl:S=s.os:=os;exact⟨v,H',I.call (h':=O) (g':=g) (d':=d) (t':=t) (ch:=[]) un hok bare (λb z=>absurd z ⋯),r,q⟩
end
def W6(sp:Sp)(dvs:List V)(E:XK)(t:TA):TE:=λσ H Q=>t σ H λvs H1=>sp (vs++dvs) H1 Q E
def zgX(C:Addr)(m:Str)(sp:Sp)(dvs:List V)(E:XK)(ta:TE)(t:TA):TE:=λσ H Q=>ta σ H λx H1=>∃a dx fs,x = .ref a/\H1 a=some (.ins C dx fs)/\fs.lookup m=none/\
 t σ H1 λvs H2=>sp (x::(vs++dvs)) H2 Q E
def W4(C:Addr)(sp:Sp)(dvs:List V)(E:XK)(t:TA):TE:=λσ H Q=>t σ H λvs H1=>∀x dx,H1 x=none->H1 dx=none->dx≠x->
 sp (.ref x::(vs++dvs)) (upd (upd H1 dx (.own x)) x (.ins C dx [])) (λv H2=>v = .non/\Q (.ref x) H2) E
def Binds(K:PySem.W.Frag)(fd:FuncData)(ps:List Str)(ds:List Value):Prop:=
 ∀(s:Shared) (us:List Value),K.In s.heap->(us++ds).length=ps.length->BindsTo s fd ⟨us,[]⟩ (ps.zip (us++ds))
theorem Binds.all{K:PySem.W.Frag}{fd:FuncData}{ps:List Str}(h : ∀us:List Value,us.length=ps.length->bindArgs fd ⟨us,[]⟩=pure (ps.zip us)):Binds K fd ps []:=λs us _ z=>by
 rw [zlG]at z ⊢;exact .of_eq (h us z)
def Zy(CX:CXT)(X:Cx)(E:XK):Prop:=∀(pins:List (Addr×Obj)) (σ:St) (H:Hp) (s:Shared) (e:Value) (s':Shared),Inv X pins σ H s->CX X.stack H s E e s'->X.xe e s'
section
variable{X:Cx}{CX:CXT}{k:Nat}{f C:Addr}{fd:FuncData}{ps:List Str}{sp:Sp}{dvs:List V}{ds:List Value}{E:XK}{x m:Str}{p pos apos:Pos}{e o:Expr}{es:List Expr}{ta:TE}{t:TA}
theorem zbM{pins:List (Addr×Obj)}{σ:St}{H:Hp}{s:Shared}{Q:VK}{us:List Value}{vs:List V}(F:FnOk X.prog X.w X.K X.mg X.base CX k f fd ps sp)(O:Room k X.A)(S:Binds X.K fd ps ds)(hd:Vals dvs ds)(hx:Zy CX X E)
 (I:Inv X pins σ H s) (r:Vals vs us) (h:sp (vs++dvs) H Q E):wpAny (model X.prog X.w) X.A (call (.ref f) us) (EP X pins σ Q) X.xe s:=by
 have r2:Vals (vs++dvs) (us++ds):=r.append hd;have U:(us++ds).length=ps.length:=by rw [<- r2.length];exact F.len _ _ _ _ h
 refine wpAny_call (zmz (F.run X.A X.stack s H ⟨us,[]⟩ (us++ds) (vs++dvs) Q E O I.env0 (S s us I.kIn U) r2 h) λr s' z=>?_);cases r with
 | error e=>exact hx pins σ H s e s' I z
 | ok Y=>
  cases Y with
  | ret u=>exact I.after z
  | next=>exact zkR z
  | brk=>exact zkR z
  | cont=>exact zkR z
theorem wa(F:FnOk X.prog X.w X.K X.mg X.base CX k f fd ps sp)(O:Room k X.A)(S:Gl X x)(hm:X.mg x=some (.ref f))(U:PySem.W.keepIn X.K (.ref f)=true)(Y:Binds X.K fd ps ds)(hd:Vals dvs ds)(hx:Zy CX X E)
 (ha:PA X (e::es) t) (Z:(x==("__debug__" : Str))=false:=by decide) (he:starEach (e::es) X.env=(false,eval e X.env)::starEach es X.env:=by rfl) (a0:(backTo pos (starEach es X.env)).any (·.1)=false:=by rfl) :
 PE X (.Call (.Name x p) (e::es) [] pos) (W6 sp dvs E t):=by
 intro pins s σ H Q I h;refine zlt (QV I S hm ?_ Z);refine zmu (h₀:=X.base) I.ok.mod.kin U (thn (ha pos pins s σ H _ I h) λus s1 ⟨vs,H1,z,r,q⟩=>⟨z.kIn,?_⟩) he a0;exact zbM F O Y hd hx z r q
theorem zdc{pl:Sem Bool}(he:PE X o ta)(c:Cls X.K C)(hm:Meth X.K C m f)(F:FnOk X.prog X.w X.K X.mg X.base CX k f fd ps sp)(U:Room k X.A)(Y:Binds X.K fd ps ds)(hd:Vals dvs ds)(hx:Zy CX X E)(ha:PA X (e::es) t)
 (Z:starEach (e::es) X.env=(false,eval e X.env)::starEach es X.env:=by rfl) (a0:(backTo pos (starEach es X.env)).any (·.1)=false:=by rfl)
 (ht:eval (.Call (.Attribute o m apos) (e::es) [] pos) X.env=(do
   let z <- eval o X.env
   standAt apos.atName
   let (f,first) <- holding [z] (getMethod z m pl)
   callWith pos f first (backTo pos (starEach (e::es) X.env)) (backToKw pos (keywordEach [] X.env))):=by rfl) :
 PE X (.Call (.Attribute o m apos) (e::es) [] pos) (zgX C m sp dvs E ta t):=by
 intro pins s σ H Q I h;refine PySem.W.methodCall_KW (pl:=pl) (thn (he pins s σ H _ I h) λu s1 hZ=>?_) ht;obtain⟨x,H1,O,rx,a,dx,fs,ex,ea,l,q⟩:=hZ;subst ex;obtain rfl:u=zjy a:=rx;refine Yf O ea c hm l ?_;refine zmu (first:=[.ref a]) (h₀:=X.base) I.ok.mod.kin hm.kp (thn (ha pos pins s1 σ H1 _ O q) λus s2 ⟨vs,H2,S,r,q2⟩=>⟨S.kIn,?_⟩) Z a0;exact zbM (us:= .ref a::us) (vs:= .ref a::vs) F U Y hd hx S (.cons rfl r) q2
structure Mk(K:PySem.W.Frag)(C f:Addr):Prop where
 makes:PySem.W.makesIn K C=true
 init:PySem.W.findIn K (.ref C) "__init__" = some (some (.ref f))
 fn:PySem.W.isFn K (.ref f)=true
 kp:PySem.W.keepIn K (.ref C)=true
theorem zai{pins:List (Addr×Obj)}{σ:St}{H:Hp}{s:Shared}{Q:VK}{us:List Value}{vs:List V}(M:Mk X.K C f)(F:FnOk X.prog X.w X.K X.mg X.base CX k f fd ps sp)(U:Room (k+1) X.A)(Y:Binds X.K fd ps ds)(hd:Vals dvs ds)
 (hx:Zy CX X E) (I:Inv X pins σ H s) (r:Vals vs us)
 (h : ∀x dx,H x=none->H dx=none->dx≠x->sp (.ref x::(vs++dvs)) (upd (upd H dx (.own x)) x (.ins C dx [])) (λv H2=>v = .non/\Q (.ref x) H2) E) :
 wpAny (model X.prog X.w) X.A (call (.ref C) us) (EP X pins σ Q) X.xe s:=by
 have S:=h (s.heap.objs.size+1) s.heap.objs.size (I.hok.fresh (Nat.le_succ _)) (I.hok.fresh (zjb _)) (zjC (zkr _));have O:=Inv.made (C:=C) I;have r2:Vals (V.ref (s.heap.objs.size+1)::(vs++dvs)) (zjy (s.heap.objs.size+1)::(us++ds)):= .cons rfl (r.append hd);have Z:(zjy (s.heap.objs.size+1)::us++ds).length=ps.length:=by
  have e:=r2.length;rw [F.len _ _ _ _ S]at e;exact e.symm
 refine wpAny_call (zaQ (f:=f) I.kIn M.makes M.init (beq_iff_eq.mp M.fn) (zmz (F.run _ X.stack _ _ ⟨zjy (s.heap.objs.size+1)::us,[]⟩ (zjy (s.heap.objs.size+1)::(us++ds)) _ _ E (U.make C us [])
  (O.env0.make C us []) (Y _ (zjy (s.heap.objs.size+1)::us) O.kIn Z) r2 S) λr s' z=>?_))
 cases r with
 | error e=>exact hx pins σ _ _ e s' O z
 | ok fl=>
  cases fl with
  | ret u=>
   obtain⟨v,H',I3,rv,ev,q3⟩:=O.after z;subst ev;exact⟨rv,⟨V.ref (s.heap.objs.size+1),H',I3,rfl,q3⟩⟩
  | next=>exact zkR z
  | brk=>exact zkR z
  | cont=>exact zkR z
theorem Vq(M:Mk X.K C f)(F:FnOk X.prog X.w X.K X.mg X.base CX k f fd ps sp)(O:Room (k+1) X.A)(S:Gl X x)(hm:X.mg x=some (.ref C))(U:Binds X.K fd ps ds)(hd:Vals dvs ds)(hx:Zy CX X E)
 (ha:PA X (e::es) t) (Y:(x==("__debug__" : Str))=false:=by decide) (he:starEach (e::es) X.env=(false,eval e X.env)::starEach es X.env:=by rfl) (Z:(backTo pos (starEach es X.env)).any (·.1)=false:=by rfl) :
 PE X (.Call (.Name x p) (e::es) [] pos) (W4 C sp dvs E t):=by
 intro pins s σ H Q I h;refine zlt (QV I S hm ?_ Y);refine zmu (h₀:=X.base) I.ok.mod.kin M.kp (thn (ha pos pins s σ H _ I h) λus s1 ⟨vs,H1,z,r,q⟩=>⟨z.kIn,?_⟩) he Z;exact zai M F O U hd hx z r q
end
structure FnScope(N P:List Str)(sc:Scope):Prop where
 kind:sc.kind = .function
 co:sc.isCoroutine=false
 gen:sc.isGenerator=false
 nd:N.Nodup
 pre:N.take P.length=P
 par : ∀x∈P,sc.names.lookup x=some .local\/sc.names.lookup x=some .cell
 nofree : ∀y∈sc.names,y.2 ≠ .free
theorem Qg{kindOf:Str->Option NameKind}{x:Str} : ∀{binds:List (Str×Value)} {m:Str->Option Value},(∀v,(x,v)∉binds)->bindL kindOf binds m x=m x
 | [],_,_=>rfl
 | (n,v)::r,m,h=>by
  unfold bindL;rw [Qg λw hw=>h w (zjk _ hw)];split
  ·have:x≠n:=by rintro rfl;exact h v zju
   simp [this]
  ·rfl
theorem Qi{kindOf:Str->Option NameKind}{x:Str} : ∀{binds:List (Str×Value)} {m:Str->Option Value},(∀v,(x,v)∉binds)->bindC kindOf binds m x=m x
 | [],_,_=>rfl
 | (n,v)::r,m,h=>by
  unfold bindC;rw [Qi λw hw=>h w (zjk _ hw)];split
  ·rfl
  ·have:x≠n:=by rintro rfl;exact h v zju
   simp [this]
theorem Qh{kindOf:Str->Option NameKind}{x:Str}{v:Value} : ∀{P:List Str} {vs:List Value} {i:Nat} {m:Str->Option Value},P.Nodup->P[i]? = some x->vs[i]? = some v->kindOf x=some .local->
 bindL kindOf (P.zip vs) m x=some v
 | [],_,_,_,_,h,_,_=>by simp at h
 | _::_,[],_,_,_,_,h,_=>by simp at h
 | p::P,w::vs,0,m,nd,h1,h2,hk=>by
  simp at h1 h2;subst h1;subst h2;show bindL kindOf ((p,w)::P.zip vs) m p=_;unfold bindL;rw [Qg λv z=>(zkp.mp nd).1 (List.of_mem_zip z).1,if_pos hk];simp
 | p::P,w::vs,i+1,m,nd,h1,h2,hk=>by
  show bindL kindOf ((p,w)::P.zip vs) m x=_;unfold bindL;exact Qh (i:=i) (zkp.mp nd).2 (by simpa using h1) (by simpa using h2) hk
theorem Qj{kindOf:Str->Option NameKind}{x:Str}{v:Value} : ∀{P:List Str} {vs:List Value} {i:Nat} {m:Str->Option Value},P.Nodup->P[i]? = some x->vs[i]? = some v->kindOf x≠some .local->
 bindC kindOf (P.zip vs) m x=some v
 | [],_,_,_,_,h,_,_=>by simp at h
 | _::_,[],_,_,_,_,h,_=>by simp at h
 | p::P,w::vs,0,m,nd,h1,h2,hk=>by
  simp at h1 h2;subst h1;subst h2;show bindC kindOf ((p,w)::P.zip vs) m p=_;unfold bindC;rw [Qi λv z=>(zkp.mp nd).1 (List.of_mem_zip z).1,if_neg hk];simp
 | p::P,w::vs,i+1,m,nd,h1,h2,hk=>by
  show bindC kindOf ((p,w)::P.zip vs) m x=_;unfold bindC;exact Qj (i:=i) (zkp.mp nd).2 (by simpa using h1) (by simpa using h2) hk
def start(N:List Str)(vs:List V):St:=vs.map some++zi5 (N.length - vs.length) none
def zdM(CX:CXT)(P:Program)(w:World)(K:PySem.W.Frag)(mg:Str->Option Value)(base:Heap)(N:List Str)(qual:Str)(scope:Scope)(f:Addr)(z:Value)(A:Around)(outer:List Env)(s:Shared)(H:Hp)(E:XK):Cx where
 prog:=P
 w:=w
 K:=K
 mg:=mg
 base:=base
 A:=A.deeper (envOfC qual scope s.heap.objs.size f z)
 N:=N
 s₀:=s
 H₀:=H
 env:=envOfC qual scope s.heap.objs.size f z
 outer:=outer
 stack:=envOfC qual scope s.heap.objs.size f z::outer
 ex:=[]
 calm:=true
 fn:=λ_=>true
 pn:=[]
 xe:=λe s'=>wpAny (model P w) (A.deeper (envOfC qual scope s.heap.objs.size f z)) (leaving (envOfC qual scope s.heap.objs.size f z) e) (λ_ I=>CX outer H s E e I) (λO I=>CX outer H s E O I) s'
theorem Ki{sc:Scope}{n:Nat}{x:Str}(h:sc.names.lookup x=some .cell) : ∃c,(cellsFrom n sc.names []).lookup x=some c:=by
 have q:=zlg sc.names n [] (.inl h);exact zke.mp q
theorem VS{CX:CXT}{P:Program}{w:World}{K:PySem.W.Frag}{mg:Str->Option Value}{base:Heap}{N ps:List Str}{qual:Str}{scope:Scope}{f:Addr}{Y:Value}{A:Around}{outer:List Env}{s s1:Shared}{H:Hp}{E:XK}{us:List Value}{vs:List V}
 (S:FnScope N ps scope) (hd:A.handled=none) (I:Env0 P w K mg base A outer s H) (hl:vs.length=ps.length) (r:Vals vs us)
 (x:InCallC s s.heap.objs.size (bindL (envOfC qual scope s.heap.objs.size f Y).kindOf (ps.zip us) λ_=>none) (cellsFrom (s.heap.objs.size+1) scope.names []) (bindC (envOfC qual scope s.heap.objs.size f Y).kindOf (ps.zip us) λ_=>none) s1) :
 Inv (zdM CX P w K mg base N qual scope f Y A outer s H E) [] (start N vs) H s1:=by
 have a5:ps.length<=N.length:=by have:=congrArg zmv S.pre;rw [zld]at this;omega
 obtain⟨h1,tk,rfl,hk⟩:=x.done;have Z : ∀b:Addr,b∉(zdM CX P w K mg base N qual scope f Y A outer s H E).ex:=λb z=>absurd (show b∈([]:List Addr)from z) ⋯;refine⟨⟨I.mod,S.kind,rfl,rfl,zjb _,λy z c h1 h2=>?_,λy O=>?_,λy c _ h=>?_,λ_=>hd,Around.frames_deeper I.frames,.inr ⟨rfl,rfl⟩,λb z=>absurd z (Z b),I.bs,I.bsz,λb _ _=>Z b,λb z=>absurd z (Z b),I.funs,I.frf⟩,
  rfl,I.bare,Un.kept hk,⟨_,x.toInCall.ns,λi y v h1 h2 h3=>?_⟩,λy c h=>⟨_,x.cell y c h⟩,I.hok.fresh (zjb _),λy c h=>?_,λp U=>absurd (show p∈([]:List (Addr×Obj))from U) ⋯,I.hok.kept hk,?_⟩
 ·exact name_of_addr x.apart (zlc h1) (zlc h2)
 ·have O:scope.names.lookup y=some .cell\/scope.names.lookup y=some .free:=O
  rcases O with O | O
  ·exact Ki O
  ·exact absurd rfl (S.nofree _ (zlc O))
 ·exact zmp (x.above y c (zlc h))
 ·have hi:i<vs.length:=by
   unfold start at h2;by_cases hi:i<vs.length
   ·exact hi
   ·rw [zjV (by simpa using hi)]at h2
    rw [zli]at h2;split at h2<;>cases h2
  have ha:vs[i]? = some v:=by
   unfold start at h2;rw [zkb (by simpa using hi),zjR]at h2;cases e:vs[i]? with
   | none=>rw [e]at h2;cases h2
   | some a=>rw [e]at h2;cases h2;rfl
  obtain⟨u,hu,rv⟩:=r.get ha;have U:ps[i]? = some y:=by
   rw [<- S.pre,List.getElem?_take_of_lt ⋯];exact h1
  have a2:ps.Nodup:=by rw [<- S.pre];exact S.nd.sublist (List.take_sublist _ _)
  refine⟨u,rv,?_⟩;rcases S.par y (zkD U)with k | k
  ·exact .inl ⟨k,Qh a2 U hu k⟩
  ·obtain⟨c,e⟩:=Ki (n:=s.heap.objs.size+1) k
   refine .inr ⟨.inl k,c,e,?_⟩;have q:=x.cell y c e;rw [Qj a2 U hu (by show scope.names.lookup y≠_;rw [k];decide)]at q;exact q
 ·exact I.hok.fresh (zmp (x.above y c (zlc h)))
 ·unfold start
  show _=N.length;rw [zjY,zjh,List.length_replicate];omega
theorem zhB{CX:CXT}{P:Program}{w:World}{K:PySem.W.Frag}{mg:Str->Option Value}{base:Heap}{k:Nat}{f:Addr}{name qual:Str}{Z:Arguments}{body:List Stmt}{scope:Scope}{dV kV doc pm cdv ct oc:Value}{an od:Option Addr}
 {osl:Array (Option Value)} {N ps:List Str} {sp:Sp} (lk:K.lookup f=some ⟨oc,od,.func (PySem.W.fnOf name qual Z body scope dV kV doc pm an cdv ct),osl⟩) (a4:PySem.W.codeIn K cdv qual=true) (S:FnScope N ps scope)
 (len : ∀vs H Q E,sp vs H Q E->vs.length=ps.length)
 (a5 : ∀(A:Around) (outer:List Env) (s:Shared) (H:Hp) (vs:List V) (Q:VK) (E:XK),Room k (A.deeper (envOfC qual scope s.heap.objs.size f cdv))->sp vs H Q E->
   ∃t,PSs (zdM CX P w K mg base N qual scope f cdv A outer s H E) body t/\t {nx:=λ_ H'=>Q .non H',rt:=Q} (start N vs) H) :
 FnOk P w K mg base CX (k+1) f (PySem.W.fnOf name qual Z body scope dV kV doc pm an cdv ct) ps sp:=by
 refine⟨len,λA outer s H args us vs Q E U O hb r a1=>?_⟩;have hl:=len _ _ _ _ a1;have KX:K.In s.heap:=O.mod.kin.keeps λb o e=>(O.bs b o e).1;have lim:s.heap.NoLimit:=O.mod.nolimit.keeps λb o e=>(O.bs b o e).1;have a8 : ∀y∈ps.zip us,scope.names.lookup y.1=some .local\/(scope.names.lookup y.1=some .cell/\((cellsFrom (s.heap.objs.size+1) scope.names []).lookup y.1).isSome=true):=λ⟨n,v⟩ hy=>by
  rcases S.par n (List.of_mem_zip hy).1 with q | q
  ·exact .inl q
  ·exact .inr ⟨q,zlg _ _ _ (.inl q)⟩
 refine codeAny_call_function U.depth (KX _ _ lk) rfl S.co S.gen rfl (PySem.W.codeRec_of KX a4) (hb _ _ _ _ ?_);refine wpAny_newFunctionEnv_cells S.kind a8 λenv he s1 x=>?_;subst he;refine⟨lim.keeps x.toInCall.keep,codeAny_func ?_⟩;obtain⟨t,ht,hq⟩:=a5 A outer s H vs Q E (U.deeper _) a1;have I:Inv (zdM CX P w K mg base N qual scope f cdv A outer s H E) [] (start N vs) H s1:=VS S U.hd O hl r x;refine zk5 (ht [] s1 (start N vs) H _ I hq) (λfl s' z=>?_) λe s' z=>z;have a3 : ∀{σ':St} {H':Hp} {v:V} {u:Value},Inv (zdM CX P w K mg base N qual scope f cdv A outer s H E) [] σ' H' s'->RelV v u->Q v H'->CE outer P w H s Q u s':=
  λ{σ' H' v u} J Y q=>⟨v,H',J.os,J.bare,J.base,J.hok,Y,q⟩
 cases fl with
 | ret u=>
  obtain⟨v,σ',H',J,Y,q⟩:=z;exact a3 J Y q
 | next=>
  obtain⟨σ',H',J,q⟩:=z;exact a3 (v:=V.non) (u:=zkz) J rfl q
 | brk=>
  obtain⟨_,_,_,q⟩:=z;exact zkR q
 | cont=>
  obtain⟨_,_,_,q⟩:=z;exact zkR q
section
variable{X:Cx}{x:Str}{p pos:Pos}{e:Expr}{es:List Expr}{t:TA}{id T:String}{r:List V->Hp->VK->Prop}
def tCB(r:List V->Hp->VK->Prop)(t:TA):TE:=λσ H Q=>t σ H λvs H1=>r vs H1 Q
theorem xh(z:vn X (.builtin id) r)(O:Gl X x)(hm:X.mg x=none)(S:bootBuiltins x=some (.builtin id))(ha:PA X (e::es) t)(hn:x ≠ "__name__":=by decide)(U:(x==("__debug__" : Str))=false:=by decide)
 (he:starEach (e::es) X.env=(false,eval e X.env)::starEach es X.env:=by rfl) (Y:(backTo pos (starEach es X.env)).any (·.1)=false:=by rfl):PE X (.Call (.Name x p) (e::es) [] pos) (tCB r t):=by
 intro pins s σ H Q I h;refine zlt (kW I O hm S ?_ hn U);exact zmn (thn (ha pos pins s σ H _ I h) λus s1 ⟨vs,H1,Z,r1,q1⟩=>z pins s1 σ H1 vs us Q Z r1 q1) he Y
theorem JR(z:vn X (.type T) r)(O:Gl X x)(hm:X.mg x=none)(S:bootBuiltins x=some (.type T))(ha:PA X (e::es) t)(hn:x ≠ "__name__":=by decide)(U:(x==("__debug__" : Str))=false:=by decide)
 (he:starEach (e::es) X.env=(false,eval e X.env)::starEach es X.env:=by rfl) (Y:(backTo pos (starEach es X.env)).any (·.1)=false:=by rfl):PE X (.Call (.Name x p) (e::es) [] pos) (tCB r t):=by
 intro pins s σ H Q I h;refine zlt (kW I O hm S ?_ hn U);exact zkd (thn (ha pos pins s σ H _ I h) λus s1 ⟨vs,H1,Z,r1,q1⟩=>z pins s1 σ H1 vs us Q Z r1 q1) he Y
end
end L2
namespace HT
open PySem PyProof.Rows
section
variable{prog:Program}{w:World}{A:Around}{E:Value->Shared->Prop}{s:Shared}
theorem cat_tup{t b:Addr}{vs z:List Value}{Q:Value->Shared->Prop}(ht:IsTup s.heap t vs.toArray)(hb:IsTup s.heap b z.toArray)(S:vs ≠ [])
 (h1:z=[]->Q (.ref t) s) (h2:z ≠ []->Q (.ref s.heap.objs.size) {s with heap:=s.heap.push {cls:= .type "tuple",data:= .seq (vs++z).toArray}})
 (hsz:vs.length+z.length<=sizeLine):wpAny (model prog w) A (binaryOp .Add (.ref t) (.ref b)) Q E s:=by
 obtain⟨⟨cls,U,data,sl⟩,I,Y,n,hd⟩:=id ht;obtain⟨⟨a6,Z,data2,a0⟩,O,a1,n2,a3⟩:=id hb;simp only at Y hd a1 a3;subst Y hd a1 a3;have e:vs.toArray++z.toArray=(vs++z).toArray:=by simp
 by_cases hw:z=[]
 ·exact zm4 ⟨_,I,rfl⟩ ⟨_,O,rfl⟩ zm5 seq_tuple_add zl4 zl0 (zlM _ _)
   (tuple_addW1 t b vs.toArray z.toArray n n2 U Z sl a0 (by simpa using S) (by simp [hw])) ⟨I,O,h1 hw⟩
 ·refine zm4 ⟨_,I,rfl⟩ ⟨_,O,rfl⟩ zm5 seq_tuple_add zl4 zl0 (zlM _ _)
   (tuple_addW2 t b vs.toArray z.toArray n n2 U Z sl a0 (by simpa using S) (by simpa using hw) (by rw [zji,zji];exact hsz)) ⟨I,O,?_⟩
  rw [e];exact h2 hw
def sIx(n d:Nat):Option Int->Nat
 | none=>d
 | some v=>if v<0 then (v+(n:Int)).toNat else min v.toNat n
theorem zeK(n d:Nat)(hd:d<=n)(o:Option Int):sIx n d o<=n:=by
 cases o with
 | none=>exact hd
 | some v=>
  show(if v<0 then (v+(n:Int)).toNat else min v.toNat n)<=n;by_cases z:v<0
  ·rw [if_pos z];omega
  ·rw [if_neg z];exact Nat.min_le_right _ _
theorem Wj(v:Int)(n d:Nat):(if v<0 then max (v+(n:Int)) 0 else min v (n:Int))=((sIx n d (some v):Nat):Int):=by
 show(if v<0 then max (v+(n:Int)) 0 else min v (n:Int))=(((if v<0 then (v+(n:Int)).toNat else min v.toNat n):Nat):Int);by_cases z:v<0
 ·simp only [if_pos z];omega
 ·simp only [if_neg z];omega
theorem Yp(lo hi:Option Int)(n:Nat):zly lo hi 1 (n:Int)=(((sIx n 0 lo:Nat):Int),((sIx n n hi:Nat):Int)):=by
 have h1 : ¬((1:Int)<0):=by omega
 unfold zly;simp only [h1,if_false];refine Prod.ext ?_ ?_
 ·cases lo with
  | none=>rfl
  | some v=>exact Wj v n 0
 ·cases hi with
  | none=>rfl
  | some v=>exact Wj v n n
theorem KS(i j:Nat):zk3 (i:Int) (j:Int) 1=j - i:=by
 unfold zk3;have h1:(1:Int)>0:=by omega
 simp only [h1,if_true,Int.ediv_one];split<;>omega
theorem w9{v:Value}{o:Option Int}{Q:Option Int->Shared->Prop}(p:IsPart v o)(h:Q o s):wpAny (model prog w) A (Builtin.Slice.slicePartIndex v) Q E s:=by
 cases p with
 | none=>exact slicePart_none h
 | int i t=>exact slicePart_int h
theorem sliceApplied_gen{sl:Addr}{z I:Value}{lo hi:Option Int}{n:Nat}{Q:Int×Int×Nat->Shared->Prop}(U:s.heap.IsSliceOf sl z I .none)(pl:IsPart z lo)(Y:IsPart I hi)
 (h:Q (((sIx n 0 lo:Nat):Int),1,sIx n n hi - sIx n 0 lo) s):wpAny (model prog w) A (Builtin.Slice.sliceApplied (.ref sl) (pure (n:Int))) Q E s:=by
 obtain⟨os,O,Z,S⟩:=id U;unfold Builtin.Slice.sliceApplied Builtin.Slice.sliceFields;refine zi0 (zi0 (zj4 O S (x:=z) rfl (zi0 (zj4 O S (x:=I) rfl (zi0 (zj4 O S (x:= .none) rfl (zi4 ?_)))))));refine zi0 (slicePart_none ?_);show wpAny _ _ (if ((1:Int)==0)=true then _ else _) _ _ s;rw [if_neg ⋯];refine zi0 (w9 pl (zi0 (w9 Y (zi0 (zi4 ?_)))));show wpAny _ _ (match zly lo hi 1 (n:Int)with | (lo,hi)=>pure (lo,(1:Int),zk3 lo hi 1)) _ _ s;rw [Yp lo hi n];show wpAny _ _ (pure (((sIx n 0 lo:Nat):Int),(1:Int),zk3 ((sIx n 0 lo:Nat):Int) ((sIx n n hi:Nat):Int) 1)) _ _ s;rw [KS];exact zi4 h
theorem zay(xs:Array Value)(i k:Nat):((zi2 k).filterMap λ(m:Nat)=>xs[((i:Int)+(m:Int)*1).toNat]?).toArray=((xs.toList.drop i).take k).toArray:=by
 have e:(λ(m:Nat)=>xs[((i:Int)+(m:Int)*1).toNat]?)=λm=>xs[i+m]? :=by
  funext m;have:((i:Int)+(m:Int)*1).toNat=i+m:=by omega
  rw [this]
 rw [e];have:=pick_run xs i k;rw [List.filterMap_map]at this;have z:((λx=>xs[x]?)∘λx=>i+x)=λm=>xs[i+m]? :=rfl;rw [z]at this;rw [this]
theorem getItem_tuple_cut{t sl:Addr}{items:Array Value}{O S:Value}{lo hi:Option Int}{Q:Value->Shared->Prop}(z:IsTup s.heap t items)(U:s.heap.IsSliceOf sl O S .none)(pl:IsPart O lo)(Y:IsPart S hi)
 (hw : ¬(sIx items.size 0 lo=0/\sIx items.size items.size hi=items.size))
 (h:Q (.ref s.heap.objs.size) {s with heap:=s.heap.push {cls:= .type "tuple",data:= .seq ((items.toList.drop (sIx items.size 0 lo)).take (sIx items.size items.size hi - sIx items.size 0 lo)).toArray}})
 (hsz:items.size<=sizeLine):wpAny (model prog w) A (getItem (.ref t) (.ref sl)) Q E s:=by
 have I:sizeOk (.seq ((items.toList.drop (sIx items.size 0 lo)).take (sIx items.size items.size hi - sIx items.size 0 lo)).toArray):=by
  show((items.toList.drop (sIx items.size 0 lo)).take (sIx items.size items.size hi - sIx items.size 0 lo)).toArray.size<=sizeLine;rw [zji,zld,List.length_drop,zkg];omega
 have hj:sIx items.size items.size hi<=items.size:=zeK _ _ (zjb _) hi;obtain⟨os,Z,a0,a4⟩:=id U;have a1:s.TypeIs (.ref sl) "slice":=⟨os,Z,a0⟩;unfold getItem
 try with_reducible refine zkJ ?_
 first | refine zi0 (zi4 ?_) | skip
 refine zi0 (wpAny_sequenceKey z.typeIs ⋯ ?_);refine zi0 (zjS (name:=zjZ "__getitem__") z.typeIs zkf
  (zj2 zkf z.typeIs entry_tuple_getitem ?_ (args_tuple_getitem _ _)))
 show wpAny _ _ (Builtin.Tuple.tupleItemsOf (.ref t) >>= _) _ _ s;refine zi0 (zml z ?_);refine zi0 (zl6 a1 ?_);rw [if_pos ⋯];refine zi0 (sliceApplied_gen U pl Y ?_);have a2 : ¬((((sIx items.size 0 lo:Nat):Int)==0 && (1:Int)==1 && (sIx items.size items.size hi - sIx items.size 0 lo)==items.size)=true):=by
  intro q;rw [Bool.and_eq_true,Bool.and_eq_true]at q;have q1:((sIx items.size 0 lo:Nat):Int)=0:=eq_of_beq q.1.1;have q2:sIx items.size items.size hi - sIx items.size 0 lo=items.size:=eq_of_beq q.2;exact hw ⟨by omega,by omega⟩
 show wpAny _ _ (if (((sIx items.size 0 lo:Nat):Int)==0 && (1:Int)==1 && (sIx items.size items.size hi - sIx items.size 0 lo)==items.size)=true then _ else _) _ _ s;rw [if_neg a2,zay]
 first
  | exact zi0 (m:=zku _) (zj1 (zi4 ⟨_,rfl,zi4 h⟩) I)
  | exact zi0 (m:=zku _) (zj1 (zi0 (zi4 (zi4 ⟨_,rfl,zi4 h⟩))) I)
  | exact zi0 (zi0 (m:=zku _) (zj1 (zi4 (zi4 ⟨_,rfl,zi4 h⟩)) I))
  | exact zi0 (zi0 (m:=zku _) (zj1 (zi4 ⟨_,rfl,zi4 h⟩) I))
end
end HT
namespace L2
open PySem PySem.Spec PyProof.Rows
abbrev TO:=St->Hp->(Option Int->Hp->Prop)->Prop
def PO(X:Cx)(e:Option Expr)(t:TO):Prop:=
 ∀(pins:List (Addr×Obj)) (s:Shared) (σ:St) (H:Hp) (Q:Option Int->Hp->Prop),Inv X pins σ H s->t σ H Q->
  wpAny (model X.prog X.w) X.A (evalPart e X.env) (λu s'=>∃o H',Inv X pins σ H' s'/\IsPart u o/\Q o H') X.xe s
def zcB:TO:=λ_ H Q=>Q none H
def zgT(t:TE):TO:=λσ H Q=>t σ H λx H1=>∃i,x = .int i/\Q (some i) H1
section
variable{X:Cx}{e:Expr}{te:TE}{lo hi:Option Expr}{tl th:TO}{pos p2:Pos}
theorem zc6:PO X none zcB:=by
 intro pins s σ H Q I h;rw [evalPart_none];exact zi4 ⟨none,H,I,.none,h⟩
theorem zc5(h:PE X e te):PO X (some e) (zgT te):=by
 intro pins s σ H Q I hw;rw [evalPart_some];refine thn (h pins s σ H _ I hw) λu s1 z=>?_;obtain⟨x,H1,O,S,U⟩:=z;obtain⟨i,rfl,q⟩:=U;obtain⟨t,rfl⟩:=S;exact⟨some i,H1,O,.int i t,q⟩
def SlR(X:Cx)(r:V->Option Int->Option Int->Hp->VK->Prop):Prop:=
 ∀(pins:List (Addr×Obj)) (s:Shared) (σ:St) (H:Hp) (x:V) (v z I:Value) (lo hi:Option Int) (sl:Addr) (Q:VK),Inv X pins σ H s->RelV x v->s.heap.IsSliceOf sl z I .none->IsPart z lo->IsPart I hi->r x lo hi H Q->
  ∃T id,typeLookup (.type T) "__getitem__" = pure (some (.builtin id))/\s.TypeIs v T/\wpAny (model X.prog X.w) X.A (getItem v (.ref sl)) (EP X pins σ Q) X.xe s
def tSl(r:V->Option Int->Option Int->Hp->VK->Prop)(te:TE)(tl th:TO):TE:=λσ H Q=>te σ H λx H1=>tl σ H1 λl H2=>th σ H2 λu z=>r x l u z Q
theorem zaA{r:V->Option Int->Option Int->Hp->VK->Prop}(Y:SlR X r)(he:PE X e te)(Z:PO X lo tl)(hu:PO X hi th):PE X (.Subscript e (.Slice lo hi none p2) pos) (tSl r te tl th):=by
 intro pins s σ H Q I h;refine Subscript_ (thn (he pins s σ H _ I h) λv s1 hZ=>?_);obtain⟨x,H1,I1,r1,q1⟩:=hZ;refine wpAny_Slice (thn (Z pins s1 σ H1 _ I1 q1) λO s2 ⟨l,H2,I2,pl,q2⟩=>thn (hu pins s2 σ H2 _ I2 q2) λS z ⟨u,U,I3,pu,q3⟩=>?_);rw [evalPart_none];refine zi4 ?_;have I4:Inv X pins σ U {z with heap:=z.heap.push {cls:= .type "slice",data:= .fields #[O,S,.none]}}:=I3.kept (t':=z.toks) λb ob q=>zi3 _ q;obtain⟨T,id,hT,ht,hg⟩:=Y pins {z with heap:=z.heap.push {cls:= .type "slice",data:= .fields #[O,S,.none]}} σ U x v O S l u z.heap.objs.size Q I4 r1 (Heap.IsSliceOf.new ..) pl pu q3;show wpAny (model X.prog X.w) X.A (subscriptTail e (.Slice lo hi none p2) v (.ref z.heap.objs.size)) (EP X pins σ Q) X.xe {z with heap:=z.heap.push {cls:= .type "slice",data:= .fields #[O,S,.none]}};exact tail_any (ops:=[.ref z.heap.objs.size,v]) ht hT hg (by with_unfolding_all rfl)
def zdO(xs:List V)(lo hi:Option Int):List V:=(xs.drop (HT.sIx xs.length 0 lo)).take (HT.sIx xs.length xs.length hi - HT.sIx xs.length 0 lo)
theorem Q7(xs:List V)(lo hi:Option Int):(zdO xs lo hi).length<=xs.length:=by
 unfold zdO;rw [zld,List.length_drop];omega
def ziL(K:PySem.W.Frag):V->Option Int->Option Int->Hp->VK->Prop:=λx lo hi H Q=>∃a xs,x = .ref a/\SqT K H a xs/\
 ¬(HT.sIx xs.length 0 lo=0/\HT.sIx xs.length xs.length hi=xs.length)/\∀p,H p=none->Q (.ref p) (upd H p (.tup (zdO xs lo hi)))
theorem zeH:SlR X (ziL X.K):=by
 intro pins s σ H x v vl vu lo hi sl Q I U Y pl Z h;obtain⟨a,xs,rfl,hx,hw,q⟩:=h;cases U;obtain⟨a0,r,O,S⟩:=I.tuple hx;have z:a0.toArray.size=xs.length:=by rw [zji];exact r.length.symm
 refine⟨"tuple",_,zkf.lookup,O.typeIs,?_⟩;refine HT.getItem_tuple_cut O Y pl Z (by rw [z];exact hw) ?_ (by rw [z];exact S);rw [z];refine⟨.ref s.heap.objs.size,_,I.laid (t':=s.toks) (o:= .tup (zdO xs lo hi)) (λb ob q=>zi3 _ q) (zjb _) ?_,rfl,q _ (I.hok.fresh (zjb _))⟩;exact⟨zj9 (Q7 xs lo hi) S,_,(r.drop (HT.sIx xs.length 0 lo)).take (HT.sIx xs.length xs.length hi - HT.sIx xs.length 0 lo),IsTupD.new _ _⟩
theorem Vals.nil_iff{xs:List V}{us:List Value}(r:Vals xs us):us=[]↔xs=[]:=by
 cases r with
 | nil=>simp
 | cons _ _=>simp
end
def ixN(n:Nat)(i:Int):Option Nat:=if 0<=i then (if i<n then some i.toNat else none)else if -(n:Int)<=i then some (i+n).toNat else none
def atI{α:Type}(xs:List α)(i:Int):Option α:=(ixN xs.length i).bind λj=>xs[j]?
theorem zdt{n:Nat}{i:Int}{j:Nat}(h:ixN n i=some j):seqIndex? i n=some j/\j<n/\ -(n:Int)<=i/\i<n:=by
 unfold ixN at h;by_cases h0:0<=i
 ·rw [if_pos h0]at h
  by_cases h1:i<n
  ·rw [if_pos h1]at h
   have e:i.toNat=j:=zj7 h;exact⟨by rw [seqIndex_of h0 h1,e],by omega,by omega,h1⟩
  ·rw [if_neg h1]at h;cases h
 ·rw [if_neg h0]at h
  by_cases h1 : -(n:Int)<=i
  ·rw [if_pos h1]at h
   have e:(i+n).toNat=j:=zj7 h;exact⟨by rw [seqIndex_neg ⋯ h1,e],by omega,h1,by omega⟩
  ·rw [if_neg h1]at h;cases h
theorem Xe{α:Type}{xs:List α}{i:Int}{v:α}(h:atI xs i=some v) : ∃j,seqIndex? i xs.length=some j/\xs[j]? = some v/\j<xs.length/\ -(xs.length:Int)<=i/\i<xs.length:=by
 unfold atI at h;cases e:ixN xs.length i with
 | none=>rw [e]at h;cases h
 | some j=>
  rw [e]at h;obtain⟨h1,h2,z,I⟩:=zdt e;exact⟨j,h1,h,h2,z,I⟩
def Xl(b:Expr):Prop:=∀o i,subscripted b false o i=operate [o,i] (getItem o i)
def IxR(X:Cx)(r:R2):Prop:=
 ∀(value z:Expr) (pins:List (Addr×Obj)) (s:Shared) (σ:St) (H:Hp) (x y:V) (v u:Value) (Q:VK),Inv X pins σ H s->RelV x v->RelV y u->r x y H Q->
  subscripted z false v u=operate [v,u] (getItem v u)->wpAny (model X.prog X.w) X.A (subscriptTail value z v u) (EP X pins σ Q) X.xe s
def MtR(X:Cx)(id:String)(r:V->List V->Hp->VK->Prop):Prop:=
 ∀(pins:List (Addr×Obj)) (s:Shared) (σ:St) (H:Hp) (x:V) (xs:List V) (v:Value) (us:List Value) (Q:VK),Inv X pins σ H s->RelV x v->Vals xs us->r x xs H Q->
  wpAny (model X.prog X.w) X.A (call (.builtin id) (v::us)) (EP X pins σ Q) X.xe s
section
variable{X:Cx}{a b:Expr}{ta tb:TE}{pos:Pos}
theorem IxR.or{r r':R2}(h:IxR X r)(h':IxR X r'):IxR X (λx y H Q=>r x y H Q\/r' x y H Q):=by
 intro value z pins s σ H x y v u Q I O S q U;rcases q with q | q
 ·exact h value z pins s σ H x y v u Q I O S q U
 ·exact h' value z pins s σ H x y v u Q I O S q U
theorem zfg{r:R2}(z:IxR X r)(ha:PE X a ta)(O:PE X b tb)(S:Xl b):PE X (.Subscript a b pos) (tOp r ta tb):=by
 intro pins s σ H Q I h;exact Subscript_ (zhO ha O I h λv u s2 x y H2 U Y Z q=>z a b pins s2 σ H2 x y v u Q U Y Z q (S _ _))
def ziO(K:PySem.W.Frag):R2:=λx y H Q=>∃p xs i v,x = .ref p/\y = .int i/\SqL K H p xs/\atI xs i=some v/\Q v H
def ziM(K:PySem.W.Frag):R2:=λx y H Q=>∃p xs i v,x = .ref p/\y = .int i/\SqT K H p xs/\atI xs i=some v/\Q v H
def ziN:R2:=λx y H Q=>∃z i c,x = .str z/\y = .int i/\z.length<=sizeLine/\atI z.cps.toList i=some c/\Q (.str ⟨#[c]⟩) H
theorem ix_list:IxR X (ziO X.K):=by
 intro value a7 pins s σ H x y v u Q I Z ry h S;obtain⟨p,xs,i,z,rfl,rfl,hq,he,q⟩:=h;cases Z;obtain⟨t,rfl⟩:=ry;obtain⟨a2,r,pl,hz⟩:=I.list hq;obtain⟨j,h1,h2,h3,h4,h5⟩:=Xe he;obtain⟨w,U,a5⟩:=r.get h2;have hl:=r.length;have hn:=Zj;have Y:EP X pins σ Q w s:=⟨z,H,I,a5,q⟩;by_cases h0:0<=i
 ·have O:i.toNat=j:=by
   rw [seqIndex_of h0 h5]at h1;exact zj7 h1
  exact item_listR pl.isList h0 ⋯ (by rw [O];simpa using U) Y S
 ·have O:(i+(a2.toArray.size:Int)).toNat=j:=by
   rw [seqIndex_neg ⋯ h4]at h1;rw [zji,<- hl];exact zj7 h1
  exact subscriptTail_builtinR (x:=w) pl.isList.typeIs slot_list_getitem.lookup
   (wpAny_getItem_list_neg (Q:=λr s'=>r=w/\EP X pins σ Q r s') pl.isList ⋯ (by rw [zji]<;>omega) ⋯ (by rw [O];simpa using U) ⟨rfl,Y⟩) S
theorem zfL:IxR X (ziM X.K):=by
 intro value a3 pins s σ H x y v u Q I O S h U;obtain⟨p,xs,i,z,rfl,rfl,Y,he,q⟩:=h;cases O;obtain⟨t,rfl⟩:=S;obtain⟨a4,r,pl,hz⟩:=I.tuple Y;obtain⟨j,h1,h2,h3,h4,h5⟩:=Xe he;obtain⟨w,Z,a0⟩:=r.get h2;have hl:=r.length;have hn:=Zj;have a2:EP X pins σ Q w s:=⟨z,H,I,a0,q⟩;exact subscriptTail_builtinR (x:=w) pl.typeIs slot_tuple_getitem.lookup
  (getItem_tuple (j:=j) (Q:=λr s'=>r=w/\EP X pins σ Q r s') pl ⋯ ⋯ (by rw [zji,<- hl];exact h1) (by simpa using Z) ⟨rfl,a2⟩) U
theorem zfM:IxR X ziN:=by
 intro value a2 pins s σ H x y v u Q I O S h U;obtain⟨z,i,c,rfl,rfl,hz,he,q⟩:=h;obtain⟨t,rfl⟩:=O;obtain⟨t',rfl⟩:=S;obtain⟨j,h1,h2,h3,Y,Z⟩:=Xe he;have hl:z.cps.toList.length=z.length:=by simp [Str.length]
 rw [hl]at h1 Y Z;have hn:=Zj;exact tail_any (typeIs_str s z t) slot_str_getitem.lookup (getItem_str (c:=c) (by
  have e1:decide (i < -(2 ^ 63:Int))=false:=decide_eq_false ⋯;have e2:decide (i>=2 ^ 63)=false:=decide_eq_false ⋯;rw [e1,e2,Bool.or_false]) (by rw [h1];simpa using h2) ⟨.str ⟨#[c]⟩,H,I.tok _,⟨_,rfl⟩,q⟩) U
theorem Qf:vn X (.builtin "len") (λxs H Q=>∃p ys,xs=[.ref p]/\(SqL X.K H p ys\/SqT X.K H p ys)/\Q (.int ys.length) H):=by
 intro pins s σ H xs us Q I r h;obtain⟨p,ys,rfl,z,q⟩:=h;obtain⟨u,rfl,S⟩:=vg r;cases S;have hn:=Zj;rcases z with z | z
 ·obtain⟨U,r',pl,Y⟩:=I.list z
  have O:=r'.length;exact Calls.call_len_list pl.isList (by simp only [zji]<;>omega) ⟨.int ys.length,H,I.tok _,⟨s.toks+1,by rw [zji,O]⟩,q⟩
 ·obtain⟨U,r',pl,Y⟩:=I.tuple z
  have O:=r'.length;exact len_tuple pl (by simp only [zji]<;>omega) ⟨.int ys.length,H,I.tok _,⟨s.toks+1,by rw [zji,O]⟩,q⟩
theorem Qe:vn X (.builtin "len") (λxs H Q=>∃z,xs=[.str z]/\z.length<=sizeLine/\Q (.int z.length) H):=by
 intro pins s σ H xs us Q I r h;obtain⟨z,rfl,O,q⟩:=h;obtain⟨u,rfl,t,rfl⟩:=vg r;have hn:=Zj;exact len_str ⋯ ⟨.int z.length,H,I.tok _,⟨_,rfl⟩,q⟩
theorem Je:vn X (.type "tuple") (λxs H Q=>∃p ys,xs=[.ref p]/\((SqL X.K H p ys/\∀l,H l=none->Q (.ref l) (upd H l (.tup ys)))\/(SqT X.K H p ys/\Q (.ref p) H))):=by
 intro pins s σ H xs us Q I r h;obtain⟨p,ys,rfl,h⟩:=h;obtain⟨u,rfl,Y⟩:=vg r;cases Y;rcases h with⟨z,q⟩ | ⟨z,q⟩
 ·obtain⟨O,r',pl,S⟩:=I.list z
  have a0:=r'.length;refine call_tuple_list pl.isList (λh' kp=>?_) (by simp only [zji]<;>omega);have U:Inv X pins σ H {s with heap:=h'}:=I.kept (t':=s.toks) kp;have Z:Inv X pins σ (upd H h'.objs.size (.tup ys)) {s with heap:=h'.push {cls:= .type "tuple",data:= .seq O.toArray}}:=
   U.laid (t':=s.toks) (λb o e=>zi3 _ e) (zjb _) (show ObjOk X.prog X.w _ _ _ (.tup ys)from⟨S,O,r',IsTupD.new _ _⟩)
  exact⟨.ref h'.objs.size,_,Z,rfl,q _ (U.hok.fresh (zjb _))⟩
 ·obtain⟨O,r',pl,S⟩:=I.tuple z
  exact call_tuple_same pl ⟨.ref p,H,I,rfl,q⟩
def tyV(K:PySem.W.Frag)(T:String)(x:V)(H:Hp):Prop:=match x with
 | .str _=>T = "str"
 | .int _=>T = "int"
 | .ref p=>(T = "list"/\∃xs,SqL K H p xs)\/(T = "tuple"/\∃o,K.lookup p=some o/\o.cls = .type "tuple"/\o.dict=none)\/
  (T = "dict"/\((∃kvs,H p=some (.dK kvs))\/∃kvs,H p=some (.dT kvs)))\/(T = "set"/\∃S n,H p=some (.set S n))
 | _=>False
theorem zev{pins:List (Addr×Obj)}{σ:St}{H:Hp}{s:Shared}{T:String}{x:V}{v:Value}(I:Inv X pins σ H s)(r:RelV x v)(ty:tyV X.K T x H) :
 s.TypeIs v T/\∀a,v = .ref a->∃ob,s.heap.get? a=some ob/\ob.dict=none:=by
 cases x with
 | str z=>
  obtain⟨t,rfl⟩:=r;cases (show T = "str" from ty);exact⟨typeIs_str s z t,λ_ e=>nomatch e⟩
 | int i=>
  obtain⟨t,rfl⟩:=r;cases (show T = "int" from ty);exact⟨typeIs_int s i t,λ_ e=>nomatch e⟩
 | ref p=>
  cases r;rcases ty with⟨rfl,xs,Y⟩ | ⟨rfl,o,O,Z,hd⟩ | ⟨rfl,O⟩ | ⟨rfl,S,n,O⟩
  ·obtain⟨a0,_,pl,_⟩:=I.list Y
   refine⟨pl.isList.typeIs,λa e=>?_⟩;cases e;obtain⟨o,n,e,c,hd,_⟩:=pl;exact⟨o,e,hd⟩
  ·refine⟨⟨o,I.kIn p o O,Z⟩,λa e=>?_⟩
   cases e;exact⟨o,I.kIn _ o O,hd⟩
  ·have z : ∃o,s.heap.get? p=some o/\o.ExactDict:=by
    rcases O with⟨kvs,O⟩ | ⟨kvs,O⟩
    ·obtain⟨_,_,_,_,o,_,_,e,ex,_⟩:=I.hok p _ O
     exact⟨o,e,ex⟩
    ·obtain⟨_,_,_,_,o,_,_,e,ex,_⟩:=I.hok p _ O
     exact⟨o,e,ex⟩
   obtain⟨o,e,ex⟩:=z;refine⟨⟨o,e,ex.1⟩,λa U=>?_⟩;cases U;exact⟨o,e,ex.2.1⟩
  ·obtain⟨o,_,_,_,e,ex,_⟩:=I.hok p _ O
   refine⟨⟨o,e,ex.1⟩,λa U=>?_⟩;cases U;exact⟨o,e,ex.2.1⟩
 | _=>exact zkR ty
def tBM(K:PySem.W.Frag)(T:String)(r:V->List V->Hp->VK->Prop)(to:TE)(t:TA):TE:=λσ H Q=>to σ H λx H1=>tyV K T x H1/\t σ H1 λxs H2=>r x xs H2 Q
variable{o e:Expr}{es:List Expr}{to:TE}{t:TA}{name:Str}{apos cpos:Pos}{T id:String}{r:V->List V->Hp->VK->Prop}
theorem zdf(U:PlainAttrs T)(slot:Slot T name id)(Y:typeOf (.builtin id)=pure (.type "method_descriptor"))(hm:MtR X id r)(Z:PE X o to)(ha:PA X (e::es) t)
 (a0:attributeBase o name X.env (eval o X.env)=eval o X.env:=by rfl)
 (a1:((backTo cpos (starEach (e::es) X.env)).all (λx=> !x.1) && (backToKw cpos (keywordEach [] X.env)).all (λx=>x.1.isSome)
   && decide ((e::es).length+([]:List Keyword).length+(if ([]:List Keyword).isEmpty then 0 else 1)<30))=true:=by rfl)
 (a2:(apos.endLine==cpos.line)=true:=by rfl) (hs:starEach (e::es) X.env=(false,eval e X.env)::starEach es X.env:=by rfl) (a4:(backTo cpos (starEach es X.env)).any (·.1)=false:=by rfl) :
 PE X (.Call (.Attribute o name apos) (e::es) [] cpos) (tBM X.K T r to t):=by
 intro pins s σ H Q I h;refine wpAny_Call_method_late a0 a1 a2 rfl (thn (Z pins s σ H _ I h) λv s1 hZ=>?_);obtain⟨x,H1,z,O,ty,q1⟩:=hZ;obtain⟨h1,h2⟩:=zev z O ty;refine⟨T,id,U,slot,Y,h1,h2,?_⟩;have S:=ha cpos pins s1 σ H1 _ z q1;rw [hs]at S ⊢;refine Calls.callWith_builtin (by show(false || (backTo cpos (starEach es X.env)).any (·.1))=false;rw [a4]<;>rfl) (Calls.evalArgs_plain ?_);exact thn S λus s2 ⟨vs,H2,I2,r2,q2⟩=>hm pins s2 σ H2 x vs v us Q I2 O r2 q2
end
def MtM(X:Cx)(id:String)(r:V->List V->Hp->VK->Prop):Prop:=
 ∀(pins:List (Addr×Obj)) (s:Shared) (σ:St) (H:Hp) (x:V) (xs:List V) (v:Value) (us:List Value) (Q:VK),Inv X pins σ H s->RelV x v->Vals xs us->r x xs H Q->
  wpAny (model X.prog X.w) X.A (call (.builtin id) (v::us)) (EP X pins σ Q) X.xe s
theorem Vals.one : ∀{x:V} {us:List Value},Vals [x] us->∃u,us=[u]/\RelV x u
 | _,_,.cons r .nil=>⟨_,rfl,r⟩
theorem Vals.dropLast{xs:List V}{us:List Value}(h:Vals xs us):Vals xs.dropLast us.dropLast:=by
 induction h with
 | nil=>exact .nil
 | cons r t z=>
  cases t with
  | nil=>exact .nil
  | cons q t'=>exact .cons r z
theorem Vals.rep{xs:List V}{us:List Value}(h:Vals xs us) : ∀k:Nat,Vals (zi5 k xs).flatten (zi5 k us).flatten
 | 0=> .nil
 | k+1=>by
  rw [zkw,zkw,zkV,zkV];exact Vals.append h (Vals.rep h k)
theorem J9(z:List Value) : ∀(k:Nat) (acc:List Value),
 List.foldl (λx1 I=>x1++I) acc.toArray (zi5 k z.toArray)=(acc++(zi5 k z).flatten).toArray
 | 0,acc=>by simp
 | k+1,acc=>by
  have e:acc.toArray++z.toArray=(acc++z).toArray:=by simp
  have O:(acc++z)++(zi5 k z).flatten=acc++(zi5 (k+1) z).flatten:=by
   rw [zkw,zkV,List.append_assoc]
  rw [<- O,<- J9 z k (acc++z),<- e,zkw,List.foldl_cons]
section
variable{X:Cx}{pins:List (Addr×Obj)}{σ:St}{H:Hp}{s:Shared}{l b:Addr}{xs ys zs:List V}
theorem Inv.lset{z its':List Value}{n:Nat}{f:Array Value->Array Value}{t':Nat}(I:Inv X pins σ H s)(O:H l=some (.lst xs))
 (e:s.heap.get? l=some {cls:= .type "list",data:= .seq z.toArray n}) (S:f z.toArray=its'.toArray) (U:Vals ys its') (Y:ys.length<=sizeLine) :
 Inv X pins σ (upd H l (.lst ys)) {s with heap:=s.heap.update l (Obj.mapSeq f),toks:=t'}:=by
 have q:=PySem.IsL.update e f;rw [S]at q;refine I.write (x:=l) (e:=l) (by rw [O];exact trivial) (.inl rfl) (λb' u Z hu=>(Heap.get?_update_other s.heap (Obj.mapSeq f) (zj6 Z)).trans hu) ⟨_,q⟩ ?_;exact⟨Y,its',_,U,q⟩
theorem Inv.lnew{z:List Value}{t':Nat}(I:Inv X pins σ H s)(O:Vals ys z)(S:ys.length<=sizeLine) :
 Inv X pins σ (upd H s.heap.objs.size (.lst ys)) {s with heap:=s.heap.push {cls:= .type "list",data:= .seq z.toArray},toks:=t'}:=
 I.laid (λ_ _ q=>zi3 _ q) (zjb _) ⟨S,z,0,O,zje _ rfl⟩
theorem Inv.fresh(I:Inv X pins σ H s):H s.heap.objs.size=none:=I.hok.fresh (zjb _)
theorem Inv.lstM(I:Inv X pins σ H s)(S:H l=some (.lst xs)):xs.length<=sizeLine/\∃(O:List Value) (n:Nat),Vals xs O/\xs.length=O.length/\s.heap.get? l=some {cls:= .type "list",data:= .seq O.toArray n}:=by
 obtain⟨z,O,n,r,e⟩:=I.hok l _ S;exact⟨z,O,n,r,r.length,e⟩
theorem zaI{n:Nat}(h:n<=sizeLine):zlB n=false:=by
 unfold zlB;exact decide_eq_false ⋯
end
section
variable{X:Cx}
def Y4:V->List V->Hp->VK->Prop:=λx vs H Q=>∃l xs y,x = .ref l/\vs=[y]/\H l=some (.lst xs)/\xs.length<sizeLine/\Q .non (upd H l (.lst (xs++[y])))
theorem Vx:MtM X "list.append" Y4:=by
 intro pins s σ H x vs v us Q I U Y h;obtain⟨l,xs,y,rfl,rfl,O,hz,q⟩:=h;cases U;obtain⟨u,rfl,Z⟩:=Y.one;obtain⟨z,S,n,r,hl,e⟩:=I.lstM O;refine zlQ F.slot_list_append ⟨_,e,rfl⟩ F.entry_list_append (F.args_list_append_2 _ _) (PySem.list_append l S.toArray n u (by rw [zji];omega)) ⟨e,?_⟩;refine⟨.non,_,I.lset (its':=S++[u]) O e ⋯ (r.append (.cons Z .nil)) ?_,rfl,q⟩;rw [zjY,zlw];omega
def zcU:V->List V->Hp->VK->Prop:=λx vs H Q=>∃l b xs zs,x = .ref l/\vs=[.ref b]/\H l=some (.lst xs)/\H b=some (.lst zs)/\xs.length+zs.length<=sizeLine/\Q .non (upd H l (.lst (xs++zs)))
theorem Vw:MtM X "list.extend" zcU:=by
 intro pins s σ H x vs v us Q I Y Z h;obtain⟨l,b,xs,zs,rfl,rfl,U,hB,hz,q⟩:=h;cases Y;obtain⟨u,rfl,ru⟩:=Z.one;cases ru;obtain⟨z,O,n,r,hl,e⟩:=I.lstM U;obtain⟨z2,S,n2,r2,a7,e2⟩:=I.lstM hB;have hsz:O.toArray.size+S.toArray.size<=sizeLine:=by rw [zji,zji];omega
 have a4 : ¬(!O.toArray.isEmpty && zlB (O.toArray.size+S.toArray.size))=true:=by
  rw [zaI hsz,Bool.and_false];exact zjj
 refine zlQ F.slot_list_extend ⟨_,e,rfl⟩ F.entry_list_extend (F.args_list_extend_2 _ _)
  (AutoSeq1.list_extend_list_list_0 l O.toArray n b S.toArray n2 a4 (by rw [zji];omega) ⋯) ⟨e,e2,?_⟩
 refine⟨.non,_,I.lset (its':=O++S) U e ⋯ (r.append r2) ?_,rfl,q⟩;rw [zjY];omega
theorem VD{α:Type}(xs:List α)(k:Nat):(zi5 k xs).flatten.length=k*xs.length:=by
 induction k with
 | zero=>simp
 | succ k z=>rw [zkw,zkV,zjY,z,Nat.succ_mul,Nat.add_comm]
end
end L2
namespace Att
open PySem PySem.W PySem.Calls PyProof.Rows
theorem wr{P:Params}{h:Heap} : ∀(ns:List Int) (vs:List Value),WellAll P h vs (ns.map WData.int)->IntsAre vs ns:=by
 intro ns
 induction ns with
 | nil=>
  intro vs w;rw [List.map_nil]at w;cases w;exact .nil
 | cons n ns z=>
  intro vs w;rw [zjw]at w;cases w with
  | cons a b=>
   cases a;exact .cons _ _ (z _ b)
theorem YV{l:OpenLaw}{n:Nat}(hn:l.most=some n){P:Params}{h:Heap}{args:List WData}{O:List Value}
 (S:l.row.toRowW.claim.pre args=true) (Y:WellAll P h O args) :
 ∃a vs ns,O=[zjy a]/\args=[WData.list (ns.map WData.int)]/\h.get? a=some {cls:= .type "list",data:= .seq vs.toArray}/\IntsAre vs ns/\ns.length<=n:=by
 have Z:WShape.hasAll [] args [.list .int]=true:=(pre_splitW S).1;have U:l.pre.holds [] {args:=args}=true:=(pre_splitW S).2;obtain⟨d,r,rfl,h1,h2⟩:=hasAllW_cons Z;obtain rfl:=hasAllW_nil h2;obtain⟨xs,rfl,h3⟩:=hasW_list h1;obtain⟨ns,rfl⟩:=items_int h3;have a1:ns.length<=n:=by
  unfold OpenLaw.pre at U;have z:(WTm.not (.lt (.lit (.int (n:Int))) (.len (.arg 0)))).holds [] {args:=[.list (ns.map .int)]}=true:=by
   have z:=(holds_andW U).1;rw [hn]at z;exact z
  have I:=condW_of z (w_not (w_lt w_lit (w_len_list (w_arg rfl))));rw [zjh]at I;refine Nat.le_of_not_lt λq=>?_;have q':(n:Int)<((ns.length:Nat):Int):=by omega
  first
   | (rw [decide_eq_true q']at I;exact absurd I ⋯)
   | (simp at I;omega)
 cases Y with
 | cons w1 w2=>
  cases w2;cases w1 with
  | list ho a4=>exact⟨_,_,ns,rfl,rfl,ho,wr ns _ a4,a1⟩
theorem Vj(l:OpenLaw)(args:List WData):l.row.toRowW.claim.post args (.bool true) args=true:=
 postW_of (r:=l.row.toRowW) (X:=(true==true))
  (show WShape.has [] (.bool true) .bool=true by first | rfl | decide | simp [WShape.has,WShape.arms,WShape.armsAll])
  (show(WTm.eq .res (.lit (.bool true))).value [] {args:=args,res:=some (.bool true),after:=args}=some (.bool (true==true))from w_eq_bool (w_res rfl) w_lit) rfl
theorem attach_call{l:OpenLaw}{n:Nat}{q:Program}{O:List Str}{S:(Str->Option Value)->Heap->Prop}{U:World->Heap->Prop}{d:DefRec}
 (hn:l.most=some n) (a0:d.params.defaults=[])
 (call : ∀(w:World) (s₀ z:Shared) (mg mb:Str->Option Value) (fa:Addr) (o:Obj) (pm I doc:Value) (a:Addr) (vs:List Value) (ns:List Int),
   Ground q O [] S w s₀ mg mb z.heap->U w z.heap->
   z.heap.get? fa=some o->o.data = .func (docDef d.name d.params d.body d.scope pm I doc)->z.heap.CodeRec I d.name->mg d.name=some (.ref fa)->
   z.heap.get? a=some {cls:= .type "list",data:= .seq vs.toArray}->IntsAre vs ns->ns.length<=n->z.gens = #[]->
   codeAny (model l.prog w) callerA (.call (.ref fa) ⟨[.ref a],[]⟩) (λr s'=>r = .ok (.ret (.bool true))/\OldK z.heap s'.heap/\s'.os=z.os/\AllBare s'.gens) z) :
 WalkO q O S U l.row.toRowW d [] (λf vs=>PySem.call f vs):=by
 intro w s₀ z mg mb G Y fa o pm I doc dV kV ho hd a3 Z a4 hg args ae as a6 ag ah a7 ai;obtain rfl:dV = .none:=Dflts.none Z a0;obtain rfl:kV = .none:=Dflts.noKw Z;obtain⟨a,vs,ns,rfl,rfl,a8,a9,aa⟩:=YV hn a6 a7;refine enter_call (zmz (call w s₀ z mg mb fa o pm I doc a vs ns G Y ho (fd_plain hd) a3 a4 a8 a9 aa hg) λr s' hq=>?_);obtain⟨rfl,h2,h3,h4⟩:=hq;exact⟨.inl ⟨.bool true,.bool true,[],rfl,λ_=>rfl,.bool true,Vj l _,λ_=>⟨zlk.nil,λ_ hm=>(nomatch hm)⟩⟩,h2,h3,h4⟩
end Att
namespace L2
open PySem PySem.Spec PyProof.Rows
theorem yd : ∀{vs:List Value} {ns:List Int},IntsAre vs ns->Vals (ns.map V.int) vs
 | _,_,.nil=> .nil
 | _,_,.cons n t h=> .cons ⟨t,rfl⟩ (yd h)
def zgQ(H:Hp):Prop:=∀b,H b=none\/∃o xs,H b=some (.frz o (.lst xs))
theorem zaT{P:Program}{w:World}{K:PySem.W.Frag}{mg mb:Str->Option Value}{CX:CXT}{k:Nat}{fa a:Addr}{fd:FuncData}{x:Str}{sp:Sp}{I:Shared}{vs:List Value}{ns:List Int}
 (Z:K.In I.heap) (a0:I.heap.Ns mainGlobals mg) (O:I.heap.Ns builtinsNs mb) (a8 : ∀x:Str,x ≠ "__name__"->mb x=bootBuiltins x) (a9:I.heap.NoLimit) (hg:I.gens = #[])
 (ha:I.heap.get? a=some {cls:= .type "list",data:= .seq vs.toArray}) (hi:IntsAre vs ns) (hl:ns.length<=sizeLine) (hr:Room k callerA)
 (F : ∀base:Heap,K.In base->base.Ns mainGlobals mg->FnOk P w K mg base CX k fa fd [x] sp) (ac : ∀(s:Shared) (u:Value),BindsTo s fd ⟨[u],[]⟩ [(x,u)])
 (ad : ∀H:Hp,zgQ H->SqL K H a (ns.map V.int)->sp [.ref a] H (λv _=>v = .bl true) λ_ _ _=>False)
 (ae : ∀H e s',CX [] H I (λ_ _ _=>False) e s'->False) :
 codeAny (model P w) callerA (.call (.ref fa) ⟨[.ref a],[]⟩) (λr s'=>r = .ok (.ret (.bool true))/\OldK I.heap s'.heap/\s'.os=I.os/\AllBare s'.gens) I:=by
 have rv:=yd hi;have af:=hi.length;have a3 : ∀H:Hp,zgQ H->SqL K H a (ns.map V.int)->HOk P w H I.heap->(∀b,H b≠none->b=a)->(H a≠none->K.lookup a=none)->
  codeAny (model P w) callerA (.call (.ref fa) ⟨[.ref a],[]⟩) (λr s'=>r = .ok (.ret (.bool true))/\OldK I.heap s'.heap/\s'.os=I.os/\AllBare s'.gens) I:=by
  intro H hO hS hok hA hK;have a6 : ∀{b:Addr} {o:Obj},I.heap.get? b=some o->H b=none->(za3 I.heap H).get? b=some o:=λe n=>za2 e n;have ai : ∀{b:Addr} {o:Obj} {es:Array DictEntry} {ep:Nat},I.heap.get? b=some o->o.data = .dict es ep->H b=none:=λ{b o es ep} e d=>by
   cases q:H b with
   | none=>rfl
   | some u=>
    have Y:b=a:=hA b (by rw [q];simp);subst Y;rw [ha]at e;cases e;have d':Data.seq vs.toArray _=Data.dict es ep:=d;cases d'
  have U : ∀{b:Addr} {m:Str->Option Value},I.heap.Ns b m->(za3 I.heap H).Ns b m:=λ{b m} ⟨o,es,ep,e,d,r⟩=>⟨o,es,ep,a6 e (ai e d),d,r⟩;have a7:K.In (za3 I.heap H):=λb o e=>a6 (Z b o e) (by
   cases q:H b with
   | none=>rfl
   | some u=>
    have Y:b=a:=hA b (by rw [q];simp);subst Y;rw [hK (by rw [q];simp)]at e;cases e)
  have hM:Mod K mg (za3 I.heap H):=⟨a7,U a0,⟨mb,U O,a8⟩,let ⟨mc,h1,h2⟩:=a9;⟨mc,U h1,h2⟩⟩;have e0:Env0 P w K mg (za3 I.heap H) callerA [] I H:=⟨rfl,hM,λb o e=>zdj e,Nat.le_of_eq (VW _ _),trivial,λb O=>absurd (show b∈([]:List Addr)from O) ⋯,hok,.of_eq hg⟩;refine zmz ((F _ a7 (U a0)).run callerA [] I H ⟨[.ref a],[]⟩ [.ref a] [.ref a] _ _ hr e0 (ac I (.ref a)) (.cons rfl .nil) (ad H hO hS)) λr s' h=>?_;cases r with
  | error e=>exact(ae H e s' h).elim
  | ok fl=>
   cases fl with
   | next=>exact zkR h
   | brk=>exact zkR h
   | cont=>exact zkR h
   | ret u=>
    obtain⟨v,H',os,bare,un,an,r',q⟩:=h;have q':v = .bl true:=q;subst q';obtain rfl:u=zmJ true:=r';refine⟨rfl,OldK.of_keep λb o e=>?_,os,bare⟩;cases q:H b with
    | none=>exact un.keep b o e q (by intro z;exact absurd (show b∈([]:List Addr)from z) ⋯) ⋯
    | some u=>
     rcases hO b with z | ⟨ob,xs,z⟩
     ·rw [q]at z;cases z
     ·have z2:=un.frzs b ob _ z
      obtain⟨e1,_⟩:=hok b _ z;obtain⟨e2,_⟩:=an b _ z2;rw [e]at e1;cases e1;exact e2
 cases hk:K.lookup a with
 | some o=>
  have e:=Z a o hk;rw [ha]at e;cases e;refine a3 (λ_=>none) (λ_=> .inl rfl) (.inr ⟨_,vs.toArray,_,hk,rfl,rfl,rfl,by rw [zji,af];exact hl,by simpa using rv⟩) (λb u z=>by have S:(none:Option HO)=some u:=z;cases S) (λb z=>absurd rfl z) λz=>absurd rfl z
 | none=>
  refine a3 (λb=>if b=a then some (.frz {cls:= .type "list",data:= .seq vs.toArray} (.lst (ns.map V.int)))else none) (λb=>?_) (.inl (.inr ⟨{cls:= .type "list",data:= .seq vs.toArray},if_pos rfl⟩)) (λb u z=>?_) (λb z=>?_) λ_=>hk
  ·by_cases O:b=a
   ·exact .inr ⟨_,_,if_pos O⟩
   ·exact .inl (if_neg O)
  ·by_cases O:b=a
   ·have S:=(if_pos O).symm.trans z
    cases S;subst O;exact⟨ha,by rw [zjh];exact hl,vs,_,rv,ha⟩
   ·have S:=(if_neg O).symm.trans z
    cases S
  ·by_cases O:b=a
   ·exact O
   ·exact absurd (if_neg O) z
abbrev KOf{K:PySem.W.Frag}{h:Heap}(_:K.In h):PySem.W.Frag:=K
theorem zcy{l:PySem.W.OpenLaw}{n k:Nat}{q:Program}{S:List Str}{U:(Str->Option Value)->Heap->Prop}{z:World->Heap->Prop}{d:DefRec}{K:Params->PySem.W.Frag}{CX:World->CXT}{sp:World->Sp}{x:Str}
 (hn:l.most=some n) (Z:n<=sizeLine) (a0:d.params.defaults=[]) (hr:Room k callerA)
 (hY : ∀(w:World) (h:Heap),z w h->(K w.params).In h)
 (F : ∀(w:World) (mg:Str->Option Value) (fa:Addr) (h:Heap),(K w.params).In h->h.Ns mainGlobals mg->mg d.name=some (.ref fa)->
   ∃fd:FuncData,(∀(s:Shared) (u:Value),BindsTo s fd ⟨[u],[]⟩ [(x,u)])/\
    ∀base:Heap,(K w.params).In base->base.Ns mainGlobals mg->FnOk l.prog w (K w.params) mg base (CX w) k fa fd [x] (sp w))
 (a3 : ∀(w:World) (H:Hp) (a:Addr) (ns:List Int),ns.length<=n->zgQ H->SqL (K w.params) H a (ns.map V.int)->sp w [.ref a] H (λv _=>v = .bl true) λ_ _ _=>False)
 (a4 : ∀(w:World) (H:Hp) (s:Shared) (e:Value) (s':Shared),CX w [] H s (λ_ _ _=>False) e s'->False) :
 PySem.W.WalkO q S U z l.row.toRowW d [] (λf vs=>PySem.call f vs):=by
 refine Att.attach_call hn a0 λw s₀ s₁ mg mb fa o pm cd doc a vs ns G Y ho hd ag a6 a7 a8 I hg=>?_;have O:=hY w _ Y;obtain⟨fd,hb,hF⟩:=F w mg fa _ O G.T.g a6;exact zaT O G.T.g G.T.b G.T.builtins G.T.nolimit hg a7 a8 (zj9 I Z) hr hF hb (λH hO hS=>a3 w H a ns I hO hS) λH e s'=>a4 w H s₁ e s'
theorem walk_ofK{l:PySem.W.OpenLaw}{n k:Nat}{q:Program}{I:List Str}{O:(Str->Option Value)->Heap->Prop}{z:World->Heap->Prop}{d:DefRec}{K:Params->PySem.W.Frag}{CX:CXT}{sp:PySem.W.Frag->Sp}{x:Str}
 (hn:l.most=some n) (S:n<=sizeLine) (U:d.params.defaults=[]) (Y:Room k callerA)
 (Z : ∀(w:World) (h:Heap),z w h->(K w.params).In h)
 (F : ∀(w:World) (mg:Str->Option Value) (fa:Addr) (h:Heap),(K w.params).In h->h.Ns mainGlobals mg->mg d.name=some (.ref fa)->
   ∃fd:FuncData,(∀(s:Shared) (u:Value),BindsTo s fd ⟨[u],[]⟩ [(x,u)])/\
    ∀base:Heap,(K w.params).In base->base.Ns mainGlobals mg->FnOk l.prog w (K w.params) mg base CX k fa fd [x] (sp (K w.params)))
 (a0 : ∀(K:PySem.W.Frag) (H:Hp) (a:Addr) (ns:List Int),ns.length<=n->zgQ H->SqL K H a (ns.map V.int)->sp K [.ref a] H (λv _=>v = .bl true) λ_ _ _=>False)
 (a1 : ∀(H:Hp) (s:Shared) (e:Value) (s':Shared),CX [] H s (λ_ _ _=>False) e s'->False) :
 PySem.W.WalkO q I O z l.row.toRowW d [] (λf vs=>PySem.call f vs):=
 zcy (K:=K) (CX:=λ_=>CX) (sp:=λw=>sp (K w.params)) hn S U Y Z F (λw H a ns h1 h2 h3=>a0 (K w.params) H a ns h1 h2 h3) λ_ H s e s'=>a1 H s e s'
def defArgs(s:Stmt):Arguments:=match s with
 | .FunctionDef _ a _ _ _ _ _ _ _ _=>a
 | _=>{posonlyargs:=[],args:=[],vararg:=none,kwonlyargs:=[],kw_defaults:=[],kwarg:=none,defaults:=[]}
def defBody(s:Stmt):List Stmt:=match s with
 | .FunctionDef _ _ b _ _ _ _ _ _ _=>b
 | _=>[]
def defScope(s:Stmt):Scope:=match s with
 | .FunctionDef _ _ _ _ _ _ sc _ _ _=>sc
 | _=>{kind:= .function,names:=[],isGenerator:=false,isCoroutine:=false}
abbrev CX0:CXT:=λ_ _ _ _ _ _=>False
abbrev E0:XK:=λ_ _ _=>False
theorem JS{X:Cx}:Zy CX0 X E0:=λ_ _ _ _ _ _ _ h=>h.elim
structure Fun(K:PySem.W.Frag)(x qual:Str)(st:Stmt)(f:Addr)(fd:FuncData):Prop where
 ex : ∃(oc:Value) (od:Option Addr) (kV doc pm:Value) (an:Option Addr) (cdv ct:Value) (osl:Array (Option Value)),
  fd=PySem.W.fnOf x qual (defArgs st) (defBody st) (defScope st) .none kV doc pm an cdv ct/\K.lookup f=some ⟨oc,od,.func fd,osl⟩/\PySem.W.codeIn K cdv qual=true
 kp:PySem.W.keepIn K (.ref f)=true
section
variable{P:Program}{w:World}{K:PySem.W.Frag}{mg:Str->Option Value}{base:Heap}
theorem Fun.ok{x qual:Str}{st:Stmt}{f:Addr}{fd:FuncData}{N ps:List Str}{k:Nat}{sp:Sp}(F:Fun K x qual st f fd)(S:FnScope N ps (defScope st))(len : ∀vs H Q E,sp vs H Q E->vs.length=ps.length)
 (z : ∀(cdv:Value) (A:Around) (outer:List Env) (s:Shared) (H:Hp) (vs:List V) (Q:VK) (E:XK),Room k (A.deeper (envOfC qual (defScope st) s.heap.objs.size f cdv))->sp vs H Q E->
   ∃t,PSs (zdM CX0 P w K mg base N qual (defScope st) f cdv A outer s H E).nox (defBody st) t/\t {nx:=λ_ H'=>Q .non H',rt:=Q} (start N vs) H):FnOk P w K mg base CX0 (k+1) f fd ps sp:=by
 obtain⟨oc,od,kV,doc,pm,an,cdv,ct,osl,rfl,lk,I⟩:=F.ex;refine zhB lk I S len λA outer s H vs Q E O U=>?_;obtain⟨t,h,q⟩:=z cdv A outer s H vs Q E O U;exact⟨t,h.nox,q⟩
theorem Fun.binds{x qual:Str}{st:Stmt}{f:Addr}{fd:FuncData}{ps:List Str}(F:Fun K x qual st f fd)
 (h : ∀(kV doc pm:Value) (an:Option Addr) (cdv ct:Value) (us:List Value),us.length=ps.length->bindArgs (PySem.W.fnOf x qual (defArgs st) (defBody st) (defScope st) .none kV doc pm an cdv ct) ⟨us,[]⟩=pure (ps.zip us)):Binds K fd ps []:=by
 obtain⟨oc,od,kV,doc,pm,an,cdv,ct,osl,rfl,lk,z⟩:=F.ex;exact .all (h kV doc pm an cdv ct)
theorem X8{x qual:Str}{st:Stmt}{f:Addr}{oc:Value}{od an:Option Addr}{osl:Array (Option Value)}{kV doc pm cdv ct:Value}(l:K.lookup f=some ⟨oc,od,.func (PySem.W.fnOf x qual (defArgs st) (defBody st) (defScope st) .none kV doc pm an cdv ct),osl⟩)
 (c:PySem.W.codeIn K cdv qual=true) (k:PySem.W.keepIn K (.ref f)=true):Fun K x qual st f (PySem.W.fnOf x qual (defArgs st) (defBody st) (defScope st) .none kV doc pm an cdv ct):=⟨⟨oc,od,kV,doc,pm,an,cdv,ct,osl,rfl,l,c⟩,k⟩
end
def Same(H H':Hp):Prop:=∀b o,H b=some o->H' b=some o
theorem Same.refl(H:Hp):Same H H:=λ_ _ h=>h
theorem Same.trans{H H1 H2:Hp}(a:Same H H1)(b:Same H1 H2):Same H H2:=λc o h=>b c o (a c o h)
theorem Same.free{H H':Hp}(e:Same H H'){l:Addr}(h:H' l=Option.none):H l=Option.none:=by
 cases q:H l with
 | none=>rfl
 | some o=>
  rw [e l o q]at h;cases h
theorem Same.seq{K:PySem.W.Frag}{H H':Hp}{a:Addr}{xs:List V}(e:Same H H')(h:SqL K H a xs):SqL K H' a xs:=by
 rcases h with(h | ⟨o,h⟩) | h
 ·exact .inl (.inl (e _ _ h))
 ·exact .inl (.inr ⟨o,e _ _ h⟩)
 ·exact .inr h
def Js(cells:List (Str×Addr)):List (Str×NameKind)->List (Str×Addr)->List (Str×Addr)
 | [],acc=>acc
 | (n,k)::r,acc=>Js cells r (if k==NameKind.free then (match cells.lookup n with | some c=>(n,c)::acc | none=>acc)else acc)
theorem x6{env:Env}(f:Str×NameKind->List (Str×Addr)->Sem (ForInStep (List (Str×Addr))))
 (I : ∀name kind O,f (name,kind) O=if kind==NameKind.free then (do let a <- cellOf env name;pure (.yield ((name,a)::O)))else pure (.yield O)) :
 ∀(names:List (Str×NameKind)) (acc:List (Str×Addr)),(∀n,(n,NameKind.free)∈names->∃c,env.cells.lookup n=some c)->
  forIn names acc f=(pure (Js env.cells names acc):Sem _)
 | [],acc,_=>by rw [zlR];rfl
 | (n,k)::r,acc,h=>by
  rw [zlE,I];have S : ∀n,(n,NameKind.free)∈r->∃c,env.cells.lookup n=some c:=λm hm=>h m (zjk _ hm);unfold Js;by_cases z:(k==NameKind.free)=true
  ·rw [if_pos z,if_pos z]
   have Y:k=NameKind.free:=by simpa using z
   subst Y;obtain⟨c,U⟩:=h n zju;have e:cellOf env n=pure c:=by unfold cellOf;rw [U]
   rw [e,U];exact x6 f I r _ S
  ·rw [if_neg z,if_neg z]
   exact x6 f I r acc S
theorem Jc{scope:Scope}{env:Env}(h : ∀n,(n,NameKind.free)∈scope.names->∃c,env.cells.lookup n=some c) :
 closureFor scope env=pure (Js env.cells scope.names []):=by
 simp only [closureFor];rw [x6 (env:=env) _ (λname kind z=>by cases hk:kind==NameKind.free<;>simp [hk]) scope.names [] h];rfl
theorem xl{M:Model}{A:Around}{E:Value->Shared->Prop}{s:Shared}{scope:Scope}{globals:Addr}{cl:List (Str×Addr)}{qual:Str}{env:Env}{Q:Env->Shared->Prop}
 (z:Q {scope:=scope,locals:=s.heap.objs.size,globals:=globals,cells:=cellsFrom (s.heap.objs.size+1) scope.names cl,qual:=qual,func:=none,code:=env.code,frame:=env.frame,builtins:=env.builtins}
   {s with heap:=pushCells (s.heap.push {cls:= .type "dict",data:= .dict #[]}) scope.names}) :
 wpAny M A (newFunctionEnv scope globals cl [] qual none .none (some env)) Q E s:=by
 simp only [newFunctionEnv,Option.isSome_some,if_true];refine zi0 (wpAny_alloc ?_);refine zi0 (wpAny_layCells _ (λname kind cells=>by cases hkc:kind==zkT<;>simp [hkc]) _ _ _ _ ?_);rw [show({s with heap:=s.heap.push {cls:= .type "dict",data:= .dict #[]}}:Shared).heap.objs.size=s.heap.objs.size+1 from zjG ..];exact zi0 (zi4 (zi4 z))
theorem XV{cells:List (Str×Addr)}{n:Str}{c:Addr} : ∀{names:List (Str×NameKind)} {acc:List (Str×Addr)},(n,c)∈Js cells names acc->(n,c)∈acc\/((n,NameKind.free)∈names/\cells.lookup n=some c)
 | [],acc,h=> .inl h
 | (m,k)::r,acc,h=>by
  unfold Js at h;rcases XV h with g | ⟨h1,h2⟩
  ·clear h
   by_cases z:(k==NameKind.free)=true
   ·rw [if_pos z]at g
    have I:k=NameKind.free:=by simpa using z
    subst I;cases e:cells.lookup m with
    | none=>rw [e]at g;exact .inl g
    | some O=>
     rw [e]at g;rcases zjm.mp g with g | g
     ·cases g;exact .inr ⟨zju,e⟩
     ·exact .inl g
   ·rw [if_neg z]at g;exact .inl g
  ·exact .inr ⟨zjk _ h1,h2⟩
theorem wm{cells:List (Str×Addr)}{n:Str} : ∀{names:List (Str×NameKind)} {acc:List (Str×Addr)},((acc.lookup n).isSome=true\/((n,NameKind.free)∈names/\(cells.lookup n).isSome=true))->((Js cells names acc).lookup n).isSome=true
 | [],acc,h=>by
  rcases h with h | ⟨h,_⟩
  ·exact h
  ·cases h
 | (m,k)::r,acc,h=>by
  unfold Js;apply wm;by_cases z:(k==NameKind.free)=true
  ·rw [if_pos z]
   have O:k=NameKind.free:=by simpa using z
   subst O;cases e:cells.lookup m with
   | none=>
    rcases h with h | ⟨h1,h2⟩
    ·exact .inl h
    ·rcases zjm.mp h1 with h1 | h1
     ·cases h1;rw [e]at h2;cases h2
     ·exact .inr ⟨h1,h2⟩
   | some S=>
    dsimp only;by_cases I:n=m
    ·subst I;left;simp
    ·rcases h with h | ⟨h1,h2⟩
     ·left;rw [zj5];split<;>simp_all
     ·rcases zjm.mp h1 with h1 | h1
      ·cases h1;exact absurd rfl I
      ·exact .inr ⟨h1,h2⟩
  ·rw [if_neg z]
   rcases h with h | ⟨h1,h2⟩
   ·exact .inl h
   ·rcases zjm.mp h1 with h1 | h1
    ·cases h1;exact absurd rfl z
    ·exact .inr ⟨h1,h2⟩
theorem qJ{n:Str}{c:Addr} : ∀{names:List (Str×NameKind)} {k:Nat} {acc:List (Str×Addr)},(n,c)∈cellsFrom k names acc->(n,c)∈acc\/(k<=c/\(n,zkT)∈names)
 | [],_,_,h=> .inl h
 | (m,kd)::r,k,acc,h=>by
  unfold cellsFrom at h;split at h
  ·rename_i z
   have I:kd=zkT:=by simpa using z
   subst I;rcases qJ h with h | ⟨h1,h2⟩
   ·rcases zjm.mp h with h | h
    ·cases h;exact .inr ⟨zjb _,zju⟩
    ·exact .inl h
   ·exact .inr ⟨by omega,zjk _ h2⟩
  ·rcases qJ h with h | ⟨h1,h2⟩
   ·exact .inl h
   ·exact .inr ⟨h1,zjk _ h2⟩
theorem xF : ∀{names:List (Str×NameKind)} {k:Nat} {acc:List (Str×Addr)},(∀p∈acc,∀q∈acc,p.2=q.2->p.1=q.1)->(∀p∈acc,p.2<k)->
 ∀p∈cellsFrom k names acc,∀q∈cellsFrom k names acc,p.2=q.2->p.1=q.1
 | [],_,_,h,_=>h
 | (m,kd)::r,k,acc,h,hl=>by
  unfold cellsFrom;split
  ·refine xF (λp z q I e=>?_) (λp z=>?_)
   ·rcases zjm.mp z with rfl | z<;>rcases zjm.mp I with rfl | I
    ·rfl
    ·have O:k=q.2:=e
     exact absurd (O ▸ hl q I) (zjP _)
    ·have O:p.2=k:=e
     exact absurd (O ▸ hl p z) (zjP _)
    ·exact h p z q I e
   ·rcases zjm.mp z with rfl | z
    ·exact zkr _
    ·exact zkc (hl p z)
  ·exact xF h hl
theorem wv : ∀{names:List (Str×NameKind)} {h:Heap} {acc:List (Str×Addr)} {n:Str} {c:Addr},(n,c)∈cellsFrom h.objs.size names acc->(n,c)∈acc\/(pushCells h names).IsCell c none
 | [],_,_,_,_,hm=> .inl hm
 | (m,kd)::r,h,acc,n,c,hm=>by
  unfold cellsFrom at hm;unfold pushCells;split at hm
  ·rename_i z
   rw [if_pos z];have e:h.objs.size+1=(h.push {cls:= .type "cell",data:= .cell none}).objs.size:=(zjG ..).symm;rw [e]at hm;rcases wv hm with hm | hm
   ·rcases zjm.mp hm with hm | hm
    ·cases hm
     have I:(h.push {cls:= .type "cell",data:= .cell none}).IsCell h.objs.size none:=⟨{cls:= .type "cell",data:= .cell none},zje _ rfl,rfl⟩;exact .inr (I.keeps λb o q=>zlX _ _ b o q)
    ·exact .inl hm
   ·exact .inr hm
  ·rename_i z
   rw [if_neg z];exact wv hm
theorem kA{α:Type}{l:List (Str×α)}(nd:(l.map (·.1)).Nodup) : ∀{n:Str} {a:α},(n,a)∈l->l.lookup n=some a:=by
 induction l with
 | nil=>intro n a h;cases h
 | cons p r z=>
  intro n a h;obtain⟨m,b⟩:=p;rw [zjw,zkp]at nd;rw [zj5];rcases zjm.mp h with h | h
  ·cases h;simp
  ·have I:(n==m)=false:=by
    have:n≠m:=λe=>nd.1 (by rw [<- e];exact zjx.mpr ⟨(n,a),h,rfl⟩);simpa using this
   rw [I];exact z nd.2 h
theorem kU(scope:Scope)(env:Env)(x:Str):(relabel scope env).names.lookup x =
 (scope.names.lookup x).map λk=>if (k==NameKind.free && env.scope.kind == .function && env.kindOf x==some .cell)then zkT else k:=by
 unfold relabel;dsimp only;generalize scope.names=l
 induction l with
 | nil=>rfl
 | cons p r I=>
  obtain⟨n,k⟩:=p;rw [zjw];cases hx:x==n with
  | true=>
   have e:x=n:=by simpa using hx
   subst e;rw [zj5,zj5];dsimp only;by_cases z:(k==NameKind.free && env.scope.kind == .function && env.kindOf x==some .cell)=true
   ·rw [if_pos z,beq_self_eq_true];dsimp only [zmF];rw [if_pos z]
   ·rw [if_neg z,beq_self_eq_true];dsimp only [zmF];rw [if_neg z]
  | false=>
   have : ∀O,zle x ((n,O)::(r.map λx=>match x with | (n,k)=>if (k==NameKind.free && env.scope.kind == .function && env.kindOf n==some .cell)=true then (n,zkT)else (n,k)))=zle x (r.map λx=>match x with | (n,k)=>if (k==NameKind.free && env.scope.kind == .function && env.kindOf n==some .cell)=true then (n,zkT)else (n,k)):=λO=>by
    rw [zj5,hx]
   rw [zj5 (k:=n),hx];dsimp only;split
   ·rw [this];exact I
   ·rw [this];exact I
def yt(scope:Scope)(env:Env)(L:Addr):Env:=
 {scope:=relabel scope env,locals:=L,globals:=env.globals,cells:=cellsFrom (L+1) scope.names (Js env.cells scope.names []),qual:=env.qual,func:=none,code:=env.code,frame:=env.frame,builtins:=env.builtins}
def jq(X:Cx)(scope:Scope)(N':List Str)(fp:List Addr)(s2:Shared)(H2:Hp):Cx:=
 {X with N:=N',s₀:=s2,H₀:=H2,env:=yt scope X.env (s2.heap.objs.size+1),outer:=X.stack,stack:=X.stack,ex:=fp,fn:=λx=>scope.names.lookup x==some .cell,pn:=[],xe:=λ_ _=>False}
structure CompOk(X:Cx)(scope:Scope)(fr:List (Str×Nat)):Prop where
 kind:scope.kind = .function
 nd:(scope.names.map (·.1)).Nodup
 free : ∀p∈scope.names,p.2=NameKind.free->X.env.kindOf p.1=some .cell\/X.env.kindOf p.1=some .free
 fr : ∀p∈fr,scope.names.lookup p.1=some .free/\X.N[p.2]? = some p.1
def pull(own:List Str)(fr:List (Str×Nat))(σ:St):St:=own.map (λ_=>none)++fr.map λp=>(σ[p.2]?).join
abbrev QQ:Obj:={cls:= .type "list",data:= .seq #[]}
abbrev zcf:Obj:={cls:= .type "dict",data:= .dict #[]}
theorem za0{X:Cx}{pins:List (Addr×Obj)}{σ:St}{H2:Hp}{s2:Shared}{scope:Scope}{own:List Str}{fr:List (Str×Nat)}{fp:List Addr}(I:Inv X pins σ H2 s2)(ok:CompOk X scope fr)
 (a2 : ∀b∈fp,FpOk X pins H2 b) (af : ∀b∈fp,∃o,s2.heap.get? b=some o) :
 Inv (jq X scope (own++fr.map (·.1)) fp s2 H2) [] (pull own fr σ) (upd H2 s2.heap.objs.size (.lst [])) {s2 with heap:=pushCells ((s2.heap.push QQ).push zcf) scope.names}:=by
 have z1:(s2.heap.push QQ).objs.size=s2.heap.objs.size+1:=zjG ..;have z2:((s2.heap.push QQ).push zcf).objs.size=s2.heap.objs.size+2:=by rw [zjG,z1]
 have Y : ∀n c,(n,c)∈Js X.env.cells scope.names []->(n,NameKind.free)∈scope.names/\X.env.cells.lookup n=some c:=λn c h=>(XV h).resolve_left ⋯;have a8 : ∀n c,X.env.cells.lookup n=some c->c<s2.heap.objs.size:=λn c h=>by obtain⟨v,q⟩:=I.cell n c h;exact q.lt
 have ag : ∀p∈Js X.env.cells scope.names [],p.2<s2.heap.objs.size+1+1:=λp S=>by
  exact zkc (zkc (a8 p.1 p.2 (Y p.1 p.2 S).2))
 have hC:(yt scope X.env (s2.heap.objs.size+1)).cells=cellsFrom (s2.heap.objs.size+2) scope.names (Js X.env.cells scope.names []):=rfl;have cells : ∀x c,(yt scope X.env (s2.heap.objs.size+1)).cells.lookup x=some c->((x,NameKind.free)∈scope.names/\X.env.cells.lookup x=some c)\/(s2.heap.objs.size+2<=c/\(x,zkT)∈scope.names):=λx c h=>by
  rcases qJ (mem_of_lookup h)with h | h
  ·exact .inl (Y x c h)
  ·exact .inr h
 have a9 : ∀x,(x,NameKind.free)∈scope.names->∃c,X.env.cells.lookup x=some c/\(yt scope X.env (s2.heap.objs.size+1)).cells.lookup x=some c:=λx hx=>by
  obtain⟨c,Z⟩:=I.ok.has x (ok.free (x,.free) hx rfl);have h1:((Js X.env.cells scope.names []).lookup x).isSome=true:=wm (.inr ⟨hx,by rw [Z];rfl⟩);have h2:=zlg scope.names (s2.heap.objs.size+2) (Js X.env.cells scope.names []) (.inr h1);obtain⟨c',ab⟩:=zke.mp h2;refine⟨c,Z,?_⟩;rcases cells x c' ab with⟨_,q⟩ | ⟨_,q⟩
  ·rw [Z]at q;cases q;exact ab
  ·exact absurd ((kA ok.nd q).symm.trans (kA ok.nd hx)) ⋯
 have keep : ∀b o,s2.heap.get? b=some o->(pushCells ((s2.heap.push QQ).push zcf) scope.names).get? b=some o:=λb o e=>
  zlX _ _ b o (zi3 _ (zi3 _ e))
 have ac : ∀b∈fp,b<s2.heap.objs.size:=λb O=>by obtain⟨o,e⟩:=af b O;exact zjq e
 have fresh:H2 s2.heap.objs.size=none:=I.hok.fresh (zjb _);have ad : ∀c,s2.heap.objs.size<c->(upd H2 s2.heap.objs.size (.lst [])) c=none:=λc Z=>by
  rw [zJ (zky Z)];exact I.hok.fresh (zmp Z)
 obtain⟨m0,ai⟩ : ∃m,(pushCells ((s2.heap.push QQ).push zcf) scope.names).Ns (s2.heap.objs.size+1) m:=by
  have q:=(Heap.Ns.new (s2.heap.push QQ) (.type "dict")).keeps (λb o e=>zlX scope.names _ b o e);rw [z1]at q;exact⟨_,q⟩
 refine⟨⟨I.ok.mod,ok.kind,I.ok.glob,I.ok.blt,Nat.le_succ _,λx y c h1 h2=>?_,λx hx=>?_,λx c hf h=>?_,I.ok.hd,I.ok.frames,.inl rfl,λb O=>⟨?_,λx c h z=>?_⟩,λb o e=>I.bs b o e,?_,λb o e O=>?_,λb O hs=>?_,I.stack,I.stkFree⟩,
  rfl,I.bare,Un.laid keep (zjb _) fresh,⟨m0,ai,λi x v e1 U e3=>?_⟩,λx c h=>?_,?_,λx c h=>?_,λp S=>?_,?_,?_⟩
 ·have q:=xF (names:=scope.names) (k:=s2.heap.objs.size+2) (acc:=Js X.env.cells scope.names []) (λp S q hq e=>I.ok.inj p.1 q.1 p.2 (Y _ _ S).2 (by rw [e];exact(Y _ _ hq).2)) ag
  exact q (x,c) (mem_of_lookup h1) (y,c) (mem_of_lookup h2) rfl
 ·have a0:(relabel scope X.env).names.lookup x=some .cell\/(relabel scope X.env).names.lookup x=some .free:=hx
  have:scope.names.lookup x=some .cell\/scope.names.lookup x=some .free:=by
   rw [kU]at a0;cases e:scope.names.lookup x with
   | none=>rw [e]at a0;simp at a0
   | some k=>
    rw [e]at a0;cases k<;>simp at a0 ⊢
  rcases this with h | h
  ·exact zke.mp (zlg scope.names _ _ (.inl h))
  ·obtain⟨c,_,h2⟩:=a9 x (mem_of_lookup h);exact⟨c,h2⟩
 ·have am:(scope.names.lookup x==some .cell)=true:=hf
  have an:scope.names.lookup x=some .cell:=by simpa using am
  rcases cells x c h with⟨q,_⟩ | ⟨q,_⟩
  ·exact absurd ((kA ok.nd q).symm.trans an) ⋯
  ·exact zj9 (zjB _ 2) q
 ·exact zjC (zkc (ac b O))
 ·rcases cells x c h with⟨_,q⟩ | ⟨q,_⟩
  ·exact(a2 b O).2.2.2.2.1 x c q z
  ·exact absurd (zjr (ac b O) (zj9 (zjB _ 2) (z ▸ q))) (zjP _)
 ·exact zj9 I.ok.bsz I.sz
 ·rcases (a2 b O).2.2.2.1 with q | q
  ·exact I.ok.noex b o e q
  ·exact absurd (zjr (zjq e) (zj9 I.ok.bsz q)) (zjP _)
 ·rcases zjm.mp (I.stkSub b hs)with q | q
  ·exact(a2 b O).2.1 q
  ·exact(a2 b O).2.2.1 q
 ·have hi:i<(own++fr.map (·.1)).length:=(zjp.mp e1).1
  by_cases a5:i<own.length
  ·unfold pull at U
   rw [zkb (by simpa using a5)]at U;simp [zjR,a5]at U
  ·have hj : ∃p,fr[i - own.length]? = some p/\p.1=x/\(σ[p.2]?).join=some v:=by
    unfold pull at U;have a1:(own++fr.map (·.1))[i]? = some x:=e1;rw [zjV ⋯,zjR]at a1;rw [zjV (by simpa using a5),zjR,zjh]at U;cases q:fr[i - own.length]? with
    | none=>rw [q]at a1;cases a1
    | some p=>
     rw [q]at a1 U;exact⟨p,rfl,by simpa using a1,by simpa using U⟩
   obtain⟨p,S,ap,a3⟩:=hj;obtain⟨g1,g2⟩:=ok.fr p (zkD S);rw [ap]at g1 g2;have hσ:σ[p.2]? = some (some v):=by
    cases q:σ[p.2]? with
    | none=>rw [q]at a3;cases a3
    | some o=>rw [q]at a3;simpa using a3
   have ae:=ok.free (x,.free) (mem_of_lookup g1) rfl;obtain⟨m,hn,hl⟩:=I.loc;obtain⟨u,ru,lk⟩:=hl p.2 x v g2 hσ (by rcases ae with k | k;exact .inr (.inl k);exact .inr (.inr k));refine⟨u,ru,.inr ?_⟩;obtain⟨c,au,av⟩:=a9 x (mem_of_lookup g1);have aw:s2.heap.IsCell c (some u):=by
    rcases lk with⟨k,_⟩ | ⟨_,c',e,z⟩
    ·rcases ae with k' | k'<;>rw [k]at k'<;>cases k'
    ·rw [au]at e;cases e;exact z
   refine⟨?_,c,av,aw.keeps keep⟩;show(relabel scope X.env).names.lookup x=some .cell\/(relabel scope X.env).names.lookup x=some .free;rw [kU,g1];dsimp only [zmF];split
   ·exact .inl rfl
   ·exact .inr rfl
 ·rcases qJ (mem_of_lookup h)with q | q
  ·obtain⟨v,w'⟩:=I.cell x c (Y x c q).2
   exact⟨v,w'.keeps keep⟩
  ·have q2:=mem_of_lookup h
   have q3:(x,c)∈cellsFrom ((s2.heap.push QQ).push zcf).objs.size scope.names (Js X.env.cells scope.names []):=by rw [z2];exact q2
   rcases wv q3 with q4 | q4
   ·obtain⟨v,w'⟩:=I.cell x c (Y x c q4).2
    exact⟨v,w'.keeps keep⟩
   ·exact⟨none,q4⟩
 ·exact ad _ (zkr _)
 ·rcases cells x c h with⟨_,q⟩ | ⟨q,_⟩
  ·rw [zJ (zjC (a8 x c q))];exact I.freeC x c q
  ·exact ad c (zjr (zkc (zkr _)) q)
 ·exact absurd (show p∈([]:List (Addr×Obj))from S) ⋯
 ·refine I.hok.laid keep (zjb _) ⟨zkK _,[],0,.nil,?_⟩
  exact zlX _ _ _ _ (zi3 _ (zje _ rfl))
 ·show(pull own fr σ).length=(own++fr.map (·.1)).length
  simp [pull]
theorem kN{prog:Program}{w:World}{A:Around}{R:Result->Shared->Prop}{s:Shared}{elt O iter:Expr}{ifs:List Expr}{scope:Scope}{pos:Pos}{it acc:Value}{env:Env}(I:Nat->Shared->Prop)
 (a2 : ∀n s,I n s->wpAny (model prog w) A (pyNext it) (λr z=>match r with
   | none=>R (.ok .next) z
   | some v=>wpAny (model prog w) A (letOwnedTupleGo O it v) (λ_ z=>wpAny (model prog w) A (assign O env v) (λ_ U=>
    wpAny (model prog w) A (forIn ifs true λc r=>if r=true then do let ok <- isTrue c env (eval c env);pure (zl5 ok)else pure (zl5 r)) (λok S=>
     if ok=true then wpAny (model prog w) A (eval elt env) (λx Y=>
      wpAny (model prog w) A (call (.builtin "list.append") [acc,x]) (λ_ Z=>∃m,m<n/\I m Z) (λ_ _=>False) Y) (λ_ _=>False) S
     else ∃m,m<n/\I m S) (λ_ _=>False) U) (λ_ _=>False) z) (λ_ _=>False) z) (λ_ _=>False) s)
 (n:Nat) (h:I n s) :
 codeAny (model prog w) A (.compLoop (.ListComp elt [⟨O,iter,ifs,0⟩] scope pos) 0 it acc env) R s:=by
 refine codeAny_loop rfl I (λn s hI=>?_) n h;show wpAny _ A ((compTurn (.ListComp elt [⟨O,iter,ifs,0⟩] scope pos) 0 it acc env).onRaise (λx=>do noteFrame x env;theTreesLotGoes x)) _ _ s;refine wpAny_noted ?_;rw [compTurn_list];refine zi0 (wpAny_standAt (zi0 (zk5 (a2 n s hI) (λr z h₁=>?_) λ_ _ h'=>h'.elim)));cases r with
 | none=>exact zi4 h₁
 | some v=>
  refine zi0 (zk5 h₁ (λ_ a8 a4=>?_) λ_ _ h'=>h'.elim);refine zi0 (zk5 a4 (λ_ U h₂=>zi0 (zk5 h₂ (λok S h₃=>?_) λ_ _ h'=>h'.elim)) λ_ _ h'=>h'.elim);cases ok with
  | false=>exact zi4 ⟨rfl,h₃⟩
  | true=>
   exact zi0 (zi0 (zk5 h₃ (λx Y h₄=>zi0 (zk5 h₄ (λ_ Z h₅=>zi4 (zi4 ⟨rfl,h₅⟩)) λ_ _ h'=>h'.elim)) λ_ _ h'=>h'.elim))
def zei(X:Cx)(ifs:List Expr)(t:TT):Prop:=
 ∀(pins:List (Addr×Obj)) (s:Shared) (σ:St) (H:Hp) (Q:Bool->Hp->Prop),Inv X pins σ H s->t σ H Q->
  wpAny (model X.prog X.w) X.A (forIn ifs true λc r=>if r=true then do let ok <- isTrue c X.env (eval c X.env);pure (zl5 ok)else pure (zl5 r)) (TP X pins σ Q) X.xe s
def zgV:TT:=λ_ H Q=>Q true H
theorem XM{X:Cx}:zei X [] zgV:=λ_ _ _ H _ I h=>wpAny_tests_nil ⟨H,I,h⟩
theorem XL{X:Cx}{c:Expr}{t:TT}(h:PT X c t):zei X [c] t:=λpins s σ H Q I z=>wpAny_tests_one (h pins s σ H Q I z)
def CW(J:It)(g:TG)(tt:TT)(te:TE)(D:Addr)(Q:VK)(W:Nat->Nat->List V->St->Hp->Prop):Prop:=
 ∀i m ys σ H,W i m ys σ H->H D=some (.lst ys)/\((J.stop i H/\Q (.ref D) H)\/(J.go i H/\ys.length<sizeLine/\∀x H',J.yld i H x H'->g x σ H' λz H2=>tt z H2 λb I=>
  if b=true then te z I λv O=>O D=some (.lst ys)/\∃m',m'<m/\W (i+1) m' (ys++[v]) z (upd O D (.lst (ys++[v])))else ∃m',m'<m/\W (i+1) m' ys z I))
def zbr(X:Cx)(pins:List (Addr×Obj))(H:Hp)(L:Addr):Prop:=
 H L=none/\L≠X.env.locals/\X.s₀.heap.objs.size<=L/\(∀x c,X.env.cells.lookup x=some c->c≠L)/\∀p∈X.pn++pins,p.1≠L
theorem zbj{X:Cx}{pins:List (Addr×Obj)}{σ:St}{H2:Hp}{s2:Shared}{scope:Scope}{own:List Str}{fr:List (Str×Nat)}{fp:List Addr}{it:Addr}{tn:Nat->Heap->Prop}{J:It}{elt tg iter:Expr}{ifs:List Expr}{pos:Pos}{g:TG}{tt:TT}{te:TE}{Q:VK}{E:Value->Shared->Prop}
 (hc:X.calm=true) (I:Inv X pins σ H2 s2) (ok:CompOk X scope fr) (T:Turn X.prog X.w X.K tg J fp it tn) (st:tn 0 s2.heap) (U : ∀b∈fp,FpOk X pins H2 b)
 (hg:PG (jq X scope (own++fr.map (·.1)) fp s2 H2) tg g) (ht:zei (jq X scope (own++fr.map (·.1)) fp s2 H2) ifs tt) (he:PE (jq X scope (own++fr.map (·.1)) fp s2 H2) elt te)
 (hW : ∀D,H2 D=none->∃W:Nat->Nat->List V->St->Hp->Prop,(∃m,W 0 m [] (pull own fr σ) (upd H2 D (.lst [])))/\CW J g tt te D Q W) :
 wpAny (model X.prog X.w) X.A (newList []) (λacc s₃=>wpAny (model X.prog X.w) X.A (newFunctionEnv scope X.env.globals (Js X.env.cells scope.names []) [] X.env.qual none .none (some X.env)) (λa8 s₄=>
  codeAny (model X.prog X.w) X.A (.compStart (.ListComp elt [⟨tg,iter,ifs,0⟩] scope pos) 0 (.ref it) acc {a8 with scope:=relabel scope X.env})
   (λr s'=>(∃f,r = .ok f)/\∃D H',acc = .ref D/\Inv X pins σ H' s'/\Q (.ref D) H'/\(∃m,s'.heap.Ns a8.locals m)/\zbr X pins H' a8.locals) s₄) E s₃) E s2:=by
 have ah : ∀b∈fp,∃o,s2.heap.get? b=some o:=λb O=>by obtain⟨o,e,_⟩:=T.obj 0 _ st b O;exact⟨o,e⟩
 have I0:=za0 (own:=own) I ok U ah;obtain⟨W,⟨m0,w0⟩,cw⟩:=hW _ I.fresh;refine zj1 (xl ?_);have z1:(s2.heap.push QQ).objs.size=s2.heap.objs.size+1:=zjG ..;show codeAny _ _ (.compStart _ 0 (.ref it) (.ref s2.heap.objs.size) {scope:=relabel scope X.env,locals:=(s2.heap.push QQ).objs.size,globals:=X.env.globals,cells:=cellsFrom ((s2.heap.push QQ).objs.size+1) scope.names (Js X.env.cells scope.names []),qual:=X.env.qual,func:=none,code:=X.env.code,frame:=X.env.frame,builtins:=X.env.builtins})
  (λr s'=>(∃f,r = .ok f)/\∃D H',zjy s2.heap.objs.size = .ref D/\Inv X pins σ H' s'/\Q (.ref D) H'/\(∃m,s'.heap.Ns (s2.heap.push QQ).objs.size m)/\zbr X pins H' (s2.heap.push QQ).objs.size) {s2 with heap:=pushCells ((s2.heap.push QQ).push zcf) scope.names}
 rw [z1];have ai:tn 0 (pushCells ((s2.heap.push QQ).push zcf) scope.names):=T.keep 0 _ _ st λb _ o e=>zlX _ _ b o (zi3 _ (zi3 _ e));have bb : ∀b∈fp,b<s2.heap.objs.size:=λb O=>by obtain⟨o,e⟩:=ah b O;exact zjq e
 have a9 : ∀{H':Hp},(∀b∈fp,H' b=none)->∀b∈fp,FpOk (jq X scope (own++fr.map (·.1)) fp s2 H2) [] H' b:=λhn b O=>
  ⟨hn b O,(I0.ok.exf b O).1,I0.ok.exfs b O,.inl O,(I0.ok.exf b O).2,λp hp=>absurd (show p∈([]:List (Addr×Obj))from hp) ⋯⟩
 have aj:codeAny (model X.prog X.w) X.A (.compLoop (.ListComp elt [⟨tg,iter,ifs,0⟩] scope pos) 0 (.ref it) (.ref s2.heap.objs.size) (yt scope X.env (s2.heap.objs.size+1)))
  (λr s'=>(∃f,r = .ok f)/\∃D H',zjy s2.heap.objs.size = .ref D/\Inv X pins σ H' s'/\Q (.ref D) H'/\(∃m,s'.heap.Ns (s2.heap.objs.size+1) m)/\zbr X pins H' (s2.heap.objs.size+1)) {s2 with heap:=pushCells ((s2.heap.push QQ).push zcf) scope.names}:=by
  refine kN (λn s'=>∃i ys σ' H',Inv (jq X scope (own++fr.map (·.1)) fp s2 H2) [] σ' H' s'/\tn i s'.heap/\(∀b∈fp,H' b=none)/\W i n ys σ' H') ?_ m0
   ⟨0,[],_,_,I0,ai,λb O=>by rw [zJ (zjC (bb b O))];exact(U b O).1,w0⟩
  rintro n s3 ⟨i,ys,σ3,H3,I3,am,an,w3⟩;obtain⟨hD,bc⟩:=cw i n ys σ3 H3 w3;rcases bc with⟨stop,qn⟩ | ⟨go,hz,step⟩
  ·refine thn (T.done (jq X scope (own++fr.map (·.1)) fp s2 H2) rfl rfl rfl hc i [] s3 σ3 H3 _ I3 (a9 an) am stop) λr s4 S=>?_
   obtain⟨hr,Y⟩:=S;subst hr;refine⟨⟨_,rfl⟩,_,H3,rfl,I.call' (ch:=fp) Y.os Y.base Y.hok Y.bare (λb O=>⟨(U b O).2.2.2.1,(U b O).2.1,(U b O).2.2.2.2.1,(U b O).2.2.2.2.2⟩),qn,?_,Y.free,?_,?_,?_,?_⟩
   ·obtain⟨m,hn,_⟩:=Y.loc
    exact⟨m,hn⟩
   ·exact zky (zkc I.lt)
   ·exact Nat.le_succ_of_le I.sz
   ·intro x c e z
    obtain⟨v,q⟩:=I.cell x c e;exact absurd (zkc q.lt) (by rw [z];exact zjP _)
   ·intro p hp z
    exact absurd (zkc (zjq (I.pin p hp).1)) (by rw [z];exact zjP _)
  ·refine thn (T.item (jq X scope (own++fr.map (·.1)) fp s2 H2) rfl rfl rfl hc i [] s3 σ3 H3 _ I3 (a9 an) am go) λr s4 S=>?_
   obtain⟨u,hr,h4⟩:=S;subst hr;refine thn h4 λ_ s5 S=>?_;obtain⟨x,H5,I5,r5,y5,ac,bj⟩:=S;have bl:=I5.pinned (a9 bj) (T.obj _ _ ac);refine thn (hg _ s5 σ3 H5 x u _ bl r5 (step x H5 y5)) λ_ s6 S=>?_;obtain⟨σ6,H6,I6,q6⟩:=S;refine thn (ht _ s6 σ6 H6 _ I6 q6) λb s7 S=>?_;obtain⟨H7,I7,q7⟩:=S;have after : ∀{σ8:St} {H8:Hp} {Z:Shared},Inv (jq X scope (own++fr.map (·.1)) fp s2 H2) ([]++JP fp s5.heap) σ8 H8 Z->tn (i+1) Z.heap/\∀b∈fp,H8 b=none:=λ{σ8 H8 Z} I8=>by
    refine⟨T.keep _ _ _ ac λb O o e=>(I8.pin (b,o) (zj8 _ (zj8 _ (kz O e)))).1,λb O=>?_⟩;obtain⟨o,e,d⟩:=T.obj _ _ ac b O;exact(I8.pin (b,o) (zj8 _ (zj8 _ (kz O e)))).2.1
   cases b with
   | false=>
    rw [if_neg zjj]at q7 ⊢;obtain⟨m',hm,w7⟩:=q7;exact⟨m',hm,i+1,ys,σ6,H7,I7.unpinned,(after I7).1,(after I7).2,w7⟩
   | true=>
    rw [if_pos rfl]at q7 ⊢;refine thn (he _ s7 σ6 H7 _ I7 q7) λv8 Z S=>?_;obtain⟨x8,H8,I8,r8,as,m',hm,w8⟩:=S;obtain⟨z8,au,n8,rv,c2,e8⟩:=I8.lstM as;refine zlQ F.slot_list_append ⟨_,e8,rfl⟩ F.entry_list_append (F.args_list_append_2 _ _) (PySem.list_append _ au.toArray n8 v8 (by rw [zji];omega)) ⟨e8,?_⟩;have I9:=I8.lset (its':=au++[v8]) (f:=(·.push v8)) (t':=Z.toks) as e8 ⋯ (rv.append (.cons r8 .nil)) (by rw [zjY,zlw];omega);exact⟨m',hm,i+1,ys++[x8],σ6,_,I9.unpinned,(after I9).1,(after I9).2,w8⟩
 exact codeAny_compStart_list aj (T.self _ 0 _ _ _ ai aj)
def W5(wi:TI)(own:List Str)(fr:List (Str×Nat))(g:TG)(tt:TT)(te:TE):TE:=λσ H Q=>wi σ H λJ H1=>∀D,H1 D=none->
 ∃W:Nat->Nat->List V->St->Hp->Prop,(∃m,W 0 m [] (pull own fr σ) (upd H1 D (.lst [])))/\CW J g tt te D Q W
section
variable{X:Cx}{scope:Scope}{own:List Str}{fr:List (Str×Nat)}{elt tg iter:Expr}{ifs:List Expr}{pos:Pos}{wi:TI}{g:TG}{tt:TT}{te:TE}
theorem Kg{use:Option (Value->Sem Unit)}{R:Value->Shared->Prop}{pins:List (Addr×Obj)}{s:Shared}{σ:St}{H:Hp}{Q:VK}
 (z:X.calm=true) (ok:CompOk X scope fr) (hi:PI X tg iter wi) (O : ∀fp s2 H2,PG (jq X scope (own++fr.map (·.1)) fp s2 H2) tg g)
 (S : ∀fp s2 H2,zei (jq X scope (own++fr.map (·.1)) fp s2 H2) ifs tt) (he : ∀fp s2 H2,PE (jq X scope (own++fr.map (·.1)) fp s2 H2) elt te)
 (I:Inv X pins σ H s) (h:W5 wi own fr g tt te σ H Q)
 (U : ∀D H' s' L,Inv X pins σ H' s'->Q (.ref D) H'->(∃m,s'.heap.Ns L m)->zbr X pins H' L->
   compPost (model X.prog X.w) X.A X.xe use R (.ref D) L (.ok .next) s')
 (Y : ∀x,foldedSetIterable iter X.env x=pure x:=by intro _;rfl) :
 wpAny (model X.prog X.w) X.A (comprehension (.ListComp elt [⟨tg,iter,ifs,0⟩] scope pos) scope X.env (firstIterPos [⟨tg,iter,ifs,0⟩] pos) (newList []) false (eval iter X.env) use) R X.xe s:=by
 refine wpAny_comprehension_free rfl Y (Jc λn hn=>I.ok.has n (ok.free (n,.free) hn rfl)) ok.kind (λx hx e=>by rw [<- e];exact kA ok.nd (show(x.1,x.2)∈scope.names from hx)) ?_;refine thn (hi pins s σ H _ I h) λv s1 h1=>thn h1 λab s2 h2=>?_;obtain⟨it,fp,tn,J,H2,e,Z,T,a0,f2,hW⟩:=h2;subst e;refine thn (zbj (own:=own) (Q:=Q) (E:=X.xe) z Z ok T a0 f2 (O fp s2 H2) (S fp s2 H2) (he fp s2 H2) hW) λacc s3 h3=>thn h3 λa4 s4 h4=>zmz h4 λr s' h5=>?_;obtain⟨⟨f,hr⟩,D,H',ea,I',q,hn,y⟩:=h5;subst hr;subst ea;have q2:=U D H' s' a4.locals I' q hn y;cases use<;>exact q2
theorem QL(z:X.calm=true)(ok:CompOk X scope fr)(hi:PI X tg iter wi)(O : ∀fp s2 H2,PG (jq X scope (own++fr.map (·.1)) fp s2 H2) tg g)
 (S : ∀fp s2 H2,zei (jq X scope (own++fr.map (·.1)) fp s2 H2) ifs tt) (he : ∀fp s2 H2,PE (jq X scope (own++fr.map (·.1)) fp s2 H2) elt te)
 (U : ∀x,foldedSetIterable iter X.env x=pure x:=by intro _;rfl) :
 PE X (.ListComp elt [⟨tg,iter,ifs,0⟩] scope pos) (W5 wi own fr g tt te):=by
 intro pins s σ H Q I h;rw [eval_ListComp];refine Kg (use:=none) z ok hi O S he I h (λD H' s' L Y q hn y=>?_) U;obtain⟨m,hm⟩:=hn;obtain⟨Z,y2,y3,y4,y5⟩:=y;refine⟨m,hm,λh' sb=>⟨.ref D,H',Y.turned (t':=s'.toks) (it:=L) (λb o hb e=>sb.extBut b o hb e) Z y2 (.inr y3) y4 y5,rfl,q⟩⟩
theorem Zg{y:Str}{z S:Pos}{i:Nat}(U:X.N.Nodup)(Y:X.N[i]? = some y)(Z:Loc X.env.scope y)(hf:X.fn y=true\/X.env.scope.names.lookup y=some .local)
 (hc:X.calm=true) (ok:CompOk X scope fr) (hi:PI X tg iter wi) (hg : ∀fp s2 H2,PG (jq X scope (own++fr.map (·.1)) fp s2 H2) tg g)
 (ht : ∀fp s2 H2,zei (jq X scope (own++fr.map (·.1)) fp s2 H2) ifs tt) (he : ∀fp s2 H2,PE (jq X scope (own++fr.map (·.1)) fp s2 H2) elt te)
 (hs : ∀x,foldedSetIterable iter X.env x=pure x:=by intro _;rfl) :
 PS X (.Assign [.Name y z] (.ListComp elt [⟨tg,iter,ifs,0⟩] scope pos) S) (Ky (W5 wi own fr g tt te) (xW i)):=by
 have O : ∃b:Bool,swapsWith (.ListComp elt [⟨tg,iter,ifs,0⟩] scope pos) (some (.Name y z)) S.line X.env=pure b:=⟨_,rfl⟩;obtain⟨b,O⟩:=O;cases b with
 | false=>
  have e1:swapsWithSole [.Name y z] (.ListComp elt [⟨tg,iter,ifs,0⟩] scope pos) S.line X.env=swapsWith (.ListComp elt [⟨tg,iter,ifs,0⟩] scope pos) (some (.Name y z)) S.line X.env:=rfl;exact zb1 (QL hc ok hi hg ht he hs) (Vp U Y Z hf) (by rw [e1];exact O)
 | true=>
  intro pins s σ H D I h;rw [exec_Assign_Name_used _ _ _ _ O];refine zi0 (wpAny_standAt (zi0 ?_));show wpAny _ X.A (do let _ <- comprehension (.ListComp elt [⟨tg,iter,ifs,0⟩] scope pos) scope X.env _ (newList []) false (eval iter X.env) (some (assign (.Name y z) X.env))) _ _ s;refine zi0 (thn (Kg (R:=λ_ s'=>SP X pins D .next s') (use:=some (assign (.Name y z) X.env)) hc ok hi hg ht he I h (λDa H' s' L I' q hn yg=>?_) hs) λ_ s' q=>zi4 (zi4 q));obtain⟨y1,y2,y3,y4,y5⟩:=yg;obtain⟨m,hm⟩:=hn;show wpAny _ _ (assign (.Name y z) X.env (.ref Da)) _ _ _;refine wpAny_assign_Name (JC I' U Y Z (v:= .ref Da) rfl (λad ae af=>?_) hf);obtain⟨a,sb,ha⟩:=af;have ah:L≠a:=by
   rcases ha with e | e
   ·rw [e];exact y2
   ·exact zj6 (y4 _ _ e)
  refine⟨m,hm.sameBut sb ah,λh' ai=>⟨_,_,ae.turned (t':=ad.toks) (it:=L) (λb o O e=>ai.extBut b o O e) y1 y2 (.inr y3) y4 y5,q⟩⟩
end
inductive Sk where
 | L | T
 deriving DecidableEq
end L2
namespace DL
open PySem L2
inductive D where
 | non | bl (b:Bool) | int (i:Int) | str (x:Str) | tup (xs:List D) | lst (xs:List D)
 | exc (c:Str) (n:Option Int)
 | dic (ks vs:List D)
 | dct (ks:List (List Int)) (vs:List D)
inductive Cell where
 | no | val (d:D) | own (ds:List D) | nest (rows:List (List D))
abbrev Ctx:=List Cell
abbrev CO (a : Type) := Ctx -> Option a
def lim:Nat:=2500
def je:D->Option (Sk×List D)
 | .tup ds=>some (.T,ds)
 | .lst ds=>some (.L,ds)
 | _=>none
def zC(f:CO D):CO (Sk×List D):=λγ=>(f γ).bind je
def jp(f:CO (List D)):CO D:=λγ=>(f γ).map D.lst
def jy(f:CO (List D)):CO (Sk×List D):=λγ=>(f γ).map λds=>(Sk.L,ds)
def Xa:Option Cell->Option D
 | some (.val d)=>some d
 | _=>none
def x9:Option Cell->Option (Sk×List D)
 | some (.val d)=>je d
 | some (.own ds)=>some (.L,ds)
 | _=>none
def zc(i:Nat):CO D:=λγ=>Xa γ[i]?
def zf(i:Nat):CO (Sk×List D):=λγ=>x9 γ[i]?
def zh(d:D):CO D:=λ_=>some d
def zv(F:D->D->Option D)(fa fb:CO D):CO D:=λγ=>(fa γ).bind λx=>(fb γ).bind λy=>F x y
def asB:D->Option Bool
 | .bl b=>some b
 | _=>none
def asI:D->Option Int
 | .int i=>some i
 | _=>none
def sB(f:CO D):CO Bool:=λγ=>(f γ).bind asB
def zcS(f g:CO Bool):CO Bool:=λγ=>(f γ).bind λb=>if b=true then g γ else some false
def zad(f g:CO Bool):CO Bool:=λγ=>(f γ).bind λb=>if b=true then some true else g γ
def qk(f:CO Bool):CO Bool:=λγ=>(f γ).map λb=> !b
def zea(f g:CO D):CO D:=λγ=>((f γ).bind asB).bind λb=>if b=true then g γ else some (.bl false)
def zgk(f:CO D):CO D:=λγ=>((f γ).bind asB).map λb=> .bl (!b)
def JG(c:CO Bool)(f g:CO D):CO D:=λγ=>(c γ).bind λb=>if b=true then f γ else g γ
def zu:CO (List D):=λ_=>some []
def za(f:CO D)(g:CO (List D)):CO (List D):=λγ=>(f γ).bind λx=>(g γ).map λr=>x::r
def jx(f:CO (List D)):CO D:=λγ=>(f γ).bind λds=>if ds.length<=lim then some (.tup ds)else none
def qB(f:CO (List D)):CO (List D):=λγ=>(f γ).bind λds=>if ds.length<=lim then some ds else none
inductive Res where
 | val (d:D) | own (ds:List D)
inductive Fl where
 | next (γ:Ctx) | brk (γ:Ctx) | cont (γ:Ctx) | ret (r:Res)
def j9:CO Fl:=λγ=>some (.next γ)
def zI(F G:CO Fl):CO Fl:=λγ=>(F γ).bind λz=>match z with
 | .next γ'=>G γ'
 | f=>some f
def j3(f:CO D):CO Fl:=λγ=>(f γ).map λd=> .ret (.val d)
def xD(f:CO (List D)):CO Fl:=λγ=>(f γ).map λd=> .ret (.own d)
def Jd:Option Cell->Option Fl
 | some (.val d)=>some (.ret (.val d))
 | some (.own ds)=>some (.ret (.own ds))
 | _=>none
def k5(i:Nat):CO Fl:=λγ=>Jd γ[i]?
def zaf:CO Fl:=λγ=>some (.cont γ)
def kS:CO Fl:=λ_=>none
def sIf(k:CO Bool)(F G:CO Fl):CO Fl:=λγ=>(k γ).bind λb=>if b=true then F γ else G γ
def zU(i:Nat)(f:CO D):CO Fl:=λγ=>(f γ).map λd=> .next (γ.set i (.val d))
def xm(i:Nat)(f:CO (List D)):CO Fl:=λγ=>(f γ).map λds=> .next (γ.set i (.own ds))
def QB(f:CO D):CO Fl:=λγ=>(f γ).map λ_=> .next γ
def qW:Option Cell->Option (List D)
 | some (.own ds)=>some ds
 | _=>none
def qR(i:Nat)(f:CO D):CO Fl:=λγ=>(qW γ[i]?).bind λds=>(f γ).bind λd=>if ds.length<lim then some (.next (γ.set i (.own (ds++[d]))))else none
def zP(n:Nat)(ds:List D):Ctx:=ds.map Cell.val++zi5 (n - ds.length) Cell.no
def ja(n:Nat)(F:CO Fl)(ds:List D):Option Res:=(F (zP n ds)).bind λz=>match z with
 | .ret r=>some r
 | .next _=>some (.val .non)
 | _=>none
def zec:Res->D
 | .val d=>d
 | .own ds=> .lst ds
def zn(F:List D->Option Res)(g:CO (List D)):CO D:=λγ=>(g γ).bind λds=>(F ds).map zec
def zeb:Res->Option (List D)
 | .own ds=>some ds
 | _=>none
def jg(F:List D->Option Res)(g:CO (List D)):CO (List D):=λγ=>(g γ).bind λds=>(F ds).bind zeb
def qi(lo:Int)(n:Nat):List D:=(zi2 n).map λ(i:Nat)=>D.int (lo+(i:Int))
def yC(ds es:List D):List D:=(ds.zip es).map λp=>D.tup [p.1,p.2]
def zG(f:CO (Sk×List D)):CO (List D):=λγ=>(f γ).map (·.2)
def inR(i:Int):Bool:=decide (i.natAbs<2 ^ 62)
def zX(f:CO D):CO (List D):=λγ=>((f γ).bind asI).bind λn=>if inR n=true then some (qi 0 n.toNat)else none
def qQ(f g:CO D):CO (List D):=λγ=>((f γ).bind asI).bind λm=>((g γ).bind asI).bind λn=>if inR m=true/\inR n=true then some (qi m (n - m).toNat)else none
def wK(f g:CO D):CO (List D):=λγ=>((f γ).bind je).bind λm=>((g γ).bind je).map λn=>yC m.2 n.2
inductive Tg where
 | nm (i:Nat) | tp (is:List Nat)
def qg:List Nat->List D->Ctx->Ctx
 | i::is,d::ds,γ=>qg is ds (γ.set i (.val d))
 | _,_,γ=>γ
def qe:Tg->D->CO Ctx
 | .nm i,d,γ=>some (γ.set i (.val d))
 | .tp is,.tup ds,γ=>if ds.length=is.length then some (qg is ds γ)else none
 | _,_,_=>none
def qo(T:Tg)(F:CO Fl):List D->CO Fl
 | [],γ=>some (.next γ)
 | d::ds,γ=>(qe T d γ).bind λγ1=>(F γ1).bind λI=>match I with
  | .next z=>qo T F ds z
  | .cont z=>qo T F ds z
  | .brk z=>some (.next z)
  | .ret r=>some (.ret r)
def yX(src:CO (List D))(T:Tg)(F:CO Fl):CO Fl:=λγ=>(src γ).bind λds=>qo T F ds γ
def qx:Cell->Cell
 | .own _=> .no
 | .nest _=> .no
 | c=>c
def jd(n:Nat)(fr:List Nat)(γ:Ctx):Ctx:=zi5 n Cell.no++fr.map λj=>qx (γ[j]?.getD .no)
def zL(T:Tg)(k:CO Bool)(f:CO D)(γ:Ctx):List D->Option (List D)
 | []=>some []
 | d::ds=>(qe T d γ).bind λγ1=>(k γ1).bind λb=>if b=true then (f γ1).bind λe=>(zL T k f γ ds).map λr=>e::r else zL T k f γ ds
def zD(src:CO (List D))(T:Tg)(n:Nat)(fr:List Nat)(k:CO Bool)(f:CO D):CO (List D):=λγ=>(src γ).bind λds=>if ds.length<=lim then zL T k f (jd n fr γ) ds else none
def jb:CO Bool:=λ_=>some true
def Tg.idx:Tg->List Nat
 | .nm i=>[i]
 | .tp is=>is
def dI(g:Int->Int->D):D->D->Option D
 | .int i,.int j=>some (g i j)
 | _,_=>none
def dIc(c:Int->Int->Bool)(g:Int->Int->D):D->D->Option D
 | .int i,.int j=>if c i j=true then some (g i j)else none
 | _,_=>none
def xC:D->D->Option D:=dI λi j=> .int (i - j)
def Zu(i j:Int):Bool:=decide (i.natAbs<2 ^ 64) || decide (j.natAbs<2 ^ 64)
def zf4(_ j:Int):Bool:=decide (0<j) && decide (j.natAbs<1073741824)
def Qb:D->D->Option D:=dIc zf4 λi j=> .int (i/j)
def zgH(_ j:Int):Bool:=decide (0<j)
def qL:D->D->Option D:=dIc zgH λi j=> .int (i%j)
def zf3(i j:Int):Bool:=decide (0<=j) && decide (j.natAbs<=1000000) && decide (i.natAbs<2 ^ 64)
def zdL:D->D->Option D:=dIc zf3 λi j=> .int (i ^ j.toNat)
def dLt:D->D->Option D:=dI λi j=> .bl (decide (i<j))
def dLe:D->D->Option D:=dI λi j=> .bl (decide (i<=j))
def dGt:D->D->Option D:=dI λi j=> .bl (decide (j<i))
def dGe:D->D->Option D:=dI λi j=> .bl (decide (j<=i))
def jj:D->D->Option D
 | .int i,.int j=>some (.int (i+j))
 | .tup xs,.tup ys=>if xs.length+ys.length<=lim then some (.tup (xs++ys))else none
 | _,_=>none
def qV:D->D->Option D
 | .int i,.int j=>if Zu i j=true then some (.int (i*j))else none
 | .tup xs,.int j=>if xs.length*j.toNat<=lim/\inR j=true then some (.tup (zi5 j.toNat xs).flatten)else none
 | _,_=>none
def yj(f g:CO (Sk×List D)):CO (List D):=λγ=>(f γ).bind λa=>(g γ).bind λb=>
 match a.1,b.1 with
 | .L,.L=>if a.2.length+b.2.length<=lim then some (a.2++b.2)else none
 | _,_=>none
def zcP(f:CO (Sk×List D))(g:CO D):CO (List D):=λγ=>(f γ).bind λa=>((g γ).bind asI).bind λj=>
 match a.1 with
 | .L=>if a.2.length*j.toNat<=lim/\inR j=true then some (zi5 j.toNat a.2).flatten else none
 | _=>none
def ixD(n:Nat)(i:Int):Option Nat:=if 0<=i/\i<n then some i.toNat else if i<0/\0<=i+n then some (i+n).toNat else none
def sIx(f:CO (Sk×List D))(g:CO D):CO D:=λγ=>(f γ).bind λa=>((g γ).bind asI).bind λi=>(ixD a.2.length i).bind λk=>a.2[k]?
def Y0(i:Nat)(g f:CO D):CO Fl:=λγ=>(f γ).bind λd=>(qW γ[i]?).bind λds=>((g γ).bind asI).bind λk=>(ixD ds.length k).map λj=> .next (γ.set i (.own (ds.set j d)))
def Q9(n dflt:Nat):Option Int->Nat
 | none=>dflt
 | some i=>if i<0 then (i+n).toNat else min i.toNat n
def Q8(xs:List D)(lo hi:Option Int):List D:=(xs.drop (Q9 xs.length 0 lo)).take (Q9 xs.length xs.length hi - Q9 xs.length 0 lo)
def Yr:CO (Option Int):=λ_=>some none
def sBd(f:CO D):CO (Option Int):=λγ=>((f γ).bind asI).map some
def Qs(f:CO D)(l h:CO (Option Int)):CO D:=λγ=>(f γ).bind λd=>(l γ).bind λlo=>(h γ).bind λhi=>match d with
 | .tup xs=>some (.tup (Q8 xs lo hi))
 | _=>none
def ya(f:CO (Sk×List D)):CO D:=λγ=>(f γ).map λa=> .int a.2.length
inductive Ty where
 | int | bool | str | tuple | list
 deriving DecidableEq
@[simp] def zfQ:D->Bool
 | .int _=>true
 | .bl _=>true
 | _=>false
@[simp] def zhu:D->Bool
 | .bl _=>true
 | _=>false
@[simp] def zfO:D->Bool
 | .str _=>true
 | _=>false
@[simp] def zfN:D->Bool
 | .tup _=>true
 | _=>false
@[simp] def zfP:D->Bool
 | .lst _=>true
 | _=>false
def zce:Ty->D->Bool
 | .int=>zfQ
 | .bool=>zhu
 | .str=>zfO
 | .tuple=>zfN
 | .list=>zfP
def sIs(T:Ty)(f:CO D):CO D:=λγ=>(f γ).map λd=> .bl (zce T d)
@[simp] def eqN:D->Bool
 | .non=>true
 | _=>false
@[simp] def eqB(a:Bool):D->Bool
 | .bl b=>a==b
 | .int b=>(if a then 1 else 0)==b
 | _=>false
@[simp] def eqI(a:Int):D->Bool
 | .bl b=>a==(if b then 1 else 0)
 | .int b=>a==b
 | _=>false
@[simp] def eqS(a:Str):D->Bool
 | .str b=>a==b
 | _=>false
@[simp] def eqX(a:Str)(i:Option Int):D->Bool
 | .exc b j=>a==b && i==j
 | _=>false
mutual
def eqD:D->D->Bool
 | .non,y=>eqN y
 | .bl a,y=>eqB a y
 | .int a,y=>eqI a y
 | .str a,y=>eqS a y
 | .tup xs,y=>match y with
  | .tup ys=>eqDs xs ys
  | _=>false
 | .lst xs,y=>match y with
  | .lst ys=>eqDs xs ys
  | _=>false
 | .exc a i,y=>eqX a i y
 | .dic a b,y=>match y with
  | .dic c d=>eqDs a c && eqDs b d
  | _=>false
 | .dct a b,y=>match y with
  | .dct c d=>a==c && eqDs b d
  | _=>false
def eqDs:List D->List D->Bool
 | [],[]=>true
 | x::xs,y::ys=>eqD x y && eqDs xs ys
 | _,_=>false
end
mutual
def deep:D->Nat
 | .tup xs=>deeps xs+1
 | .lst xs=>deeps xs+1
 | _=>0
def deeps:List D->Nat
 | []=>0
 | x::xs=>max (deep x) (deeps xs)
end
mutual
def okS:D->Bool
 | .str x=>x.cps.all (· < 0x110000)
 | .exc _ _=>false
 | .dic _ _=>false
 | .dct _ _=>false
 | .tup xs=>okSs xs
 | .lst xs=>okSs xs
 | _=>true
def okSs:List D->Bool
 | []=>true
 | x::xs=>okS x && okSs xs
end
def okD(d:D):Bool:=decide (deep d<=20) && okS d
def dEq(x y:D):Option D:=if okD x=true/\okD y=true then some (.bl (eqD x y))else none
def dNe(x y:D):Option D:=if okD x=true/\okD y=true then some (.bl (!eqD x y))else none
def zgG:D->D->Option D
 | x,.non=>some (.bl (match x with | .non=>true | _=>false))
 | _,_=>none
def zO(f:CO (Sk×List D)):CO D:=λγ=>(f γ).map λa=> .tup a.2
def Qz(f:CO (Sk×List D)):CO (List D):=λγ=>(f γ).map λa=>a.2
def Yq:List D->Option Int
 | []=>some 0
 | .int i::r=>(Yq r).map λs=>i+s
 | _::_=>none
def zcO(f:CO (Sk×List D)):CO D:=λγ=>(f γ).bind λa=>(Yq a.2).map D.int
def zgi:D->Option Bool
 | .non=>some false
 | .bl b=>some b
 | .int i=>some (i != 0)
 | _=>none
def yE:List D->Option (List Bool)
 | []=>some []
 | d::r=>(zgi d).bind λb=>(yE r).map λs=>b::s
def zah(f:CO (Sk×List D)):CO D:=λγ=>(f γ).bind λa=>(yE a.2).map λs=> .bl (s.all id)
def zbL(f:CO (Sk×List D)):CO D:=λγ=>(f γ).bind λa=>(yE a.2).map λs=> .bl (s.any id)
def Y1(f:CO D):CO D:=λγ=>(f γ).bind λd=>match d with
 | .int i=>some (.int i)
 | .bl b=>some (.int (if b then 1 else 0))
 | _=>none
def KJ(f g:CO D):CO D:=λγ=>((f γ).bind asI).bind λi=>((g γ).bind asI).map λj=> .int (if j>i then j else i)
def zac(f:CO (Sk×List D)):CO Bool:=λγ=>(f γ).map λa=> !a.2.isEmpty
def zgl(f:CO D):CO D:=λγ=>((f γ).bind asI).map λi=> .int (-i)
def Zd(F G:D->D->Option D)(fa fb fc:CO D):CO D:=λγ=>(fa γ).bind λx=>(fb γ).bind λy=>((F x y).bind asB).bind λb=>if b=true then (fc γ).bind λz=>G y z else some (.bl false)
def Qx(T:Tg)(f:CO D):CO Fl:=λγ=>(f γ).bind λd=>(qe T d γ).map .next
def zgB:D->Option Int
 | .tup (.int k::_)=>some k
 | _=>none
def wS:List D->Option (List Int)
 | []=>some []
 | d::r=>(zgB d).bind λk=>(wS r).map λl=>k::l
def zf9:List Int->Bool
 | a::b::r=>decide (a<b) && zf9 (b::r)
 | _=>true
def zhf(ks:List Int):Nat:=(ks.dropLast.filter λk=>decide (k<ks.getLast?.getD 0)).length
def zik(q:Nat)(ds:List D):List D:=ds.dropLast.take q++(ds.drop (ds.length - 1)++ds.dropLast.drop q)
def W8(ds:List D):Option (List D):=(wS ds).bind λks=>if (1<=ds.length/\ds.length<=8)/\zf9 ks.dropLast=true/\decide (ks.getLast?.getD 0∈ks.dropLast)=false then some (zik (zhf ks) ds)else none
def Qw(f:CO (Sk×List D)):CO (List D):=λγ=>(f γ).bind λa=>match a.1 with
 | .L=>W8 a.2
 | _=>none
end DL
namespace L2
open PySem PySem.Spec PyProof.Rows
def ItAt(k:Sk)(h:Heap)(i l:Addr)(n:Nat):Prop:=match k with
 | .L=>h.IsListIter i l n
 | .T=>h.IsTupleIter i l n
def SqAt(k:Sk)(h:Heap)(l:Addr)(xs:Array Value):Prop:=match k with
 | .L=>h.IsList l xs
 | .T=>h.IsTuple l xs
def itO(k:Sk)(l:Addr):Obj:=match k with
 | .L=>{cls:= .type "list_iterator",data:= .fields #[.ref l,.int 0 0]}
 | .T=>{cls:= .type "tuple_iterator",data:= .fields #[.ref l,.int 0 0]}
theorem ItAt.at{k:Sk}{h h':Heap}{i l:Addr}{n:Nat}(x:ItAt k h i l n)(e : ∀o,h.get? i=some o->h'.get? i=some o):ItAt k h' i l n:=by
 cases k<;>exact let ⟨o,z,r⟩:=x;⟨o,e _ z,r⟩
theorem SqAt.at{k:Sk}{h h':Heap}{l:Addr}{xs:Array Value}(x:SqAt k h l xs)(e : ∀o,h.get? l=some o->h'.get? l=some o):SqAt k h' l xs:=by
 cases k<;>exact let ⟨o,z,r⟩:=x;⟨o,e _ z,r⟩
theorem ItAt.obj{k:Sk}{h:Heap}{i l:Addr}{n:Nat}(x:ItAt k h i l n) : ∃o,h.get? i=some o/\∀v,o.data ≠ .cell v:=by
 cases k<;>exact let ⟨o,I,_,d⟩:=x;⟨o,I,λv z=>by rw [d]at z;cases z⟩
theorem SqAt.lt{k:Sk}{h:Heap}{l:Addr}{xs:Array Value}(x:SqAt k h l xs):l<h.objs.size:=by
 cases k<;>exact let ⟨o,z,_⟩:=x;zjq z
theorem y8(k:Sk)(h:Heap)(l:Addr):ItAt k (h.push (itO k l)) h.objs.size l 0:=by
 cases k<;>exact⟨_,zje _ rfl,rfl,rfl⟩
section
variable{prog:Program}{w:World}{A:Around}{E:Value->Shared->Prop}{s:Shared}
theorem y7{k:Sk}{l:Addr}{xs:Array Value}{Q:Value->Shared->Prop}(z:SqAt k s.heap l xs)(I:Q (.ref s.heap.objs.size) {s with heap:=s.heap.push (itO k l)}):wpAny (model prog w) A (pyIter (.ref l)) Q E s:=by
 cases k
 ·exact zm2 z I
 ·exact wpAny_pyIter_tuple z I
theorem qy{k:Sk}{it l:Addr}{i:Nat}{items:Array Value}{x:Value}{Q:Value->Shared->Prop}(O:ItAt k s.heap it l i)(S:SqAt k s.heap l items)(hx:items[i]? = some x)
 (U : ∀h',ItAt k h' it l (i+1)->zkE it s.heap h'->Q x {s with heap:=h'}):wpAny (model prog w) A (zjn (.ref it)) Q E s:=by
 cases k with
 | L=>exact wpAny_nextOf_list_item O S hx U
 | T=>
  have I:s.heap.IsTupleIter it l i:=O;obtain⟨o,z,Y,hd⟩:=id I;obtain⟨ol,Z,_,nl,a0⟩:=(show s.heap.IsTuple l items from S);unfold zjn;refine zi0 (zjS (name:=zjZ "__next__") I.typeIs zlW (zj2 zlW I.typeIs entry_tupleiter_next ?_ (args_tupleiter_next _)));refine zi0 (m:=field (.ref it) 0) (zj4 z hd (x:= .ref l) rfl ?_);show wpAny _ _ (if (zjy l==zkz)=true then _ else _) _ _ s;rw [if_neg (show ¬((zjy l==zkz)=true)from zjj)];refine zi0 (m:=field (.ref it) 1) (zj4 z hd (x:= .int i 0) rfl ?_);refine zi0 (m:=seqItems? (.ref l)) (zj3 Z a0 ?_);simp only [zjM,hx];refine zi0 (zmM z hd ⋯ (zi4 ⟨x,rfl,zi4 (U _ ?_ (zk6 ..))⟩));show Heap.IsTupleIter _ it l (i+1);exact⟨_,zlx _ z (zmo (zln hd _)),(zmS ..).trans Y,by rw [zln hd];simp [rawInt]⟩
theorem ym{k:Sk}{it l:Addr}{i:Nat}{items:Array Value}{Q:Value->Shared->Prop}(z:A.handled=none)(S:ItAt k s.heap it l i)(U:SqAt k s.heap l items)(hx:items[i]? = none)
 (Y : ∀h' e,Heap.ExtBut it s.heap h'->(∃o,h'.get? e=some o/\o.cls = .type "StopIteration")->E (.ref e) {s with heap:=h'}):wpAny (model prog w) A (zjn (.ref it)) Q E s:=by
 cases k with
 | L=>exact wpAny_nextOf_list_end z S U hx Y
 | T=>
  have I:s.heap.IsTupleIter it l i:=S;obtain⟨o,O,hc,hd⟩:=id I;obtain⟨ol,Z,_,nl,a0⟩:=(show s.heap.IsTuple l items from U);unfold zjn;refine zi0 (zjS (name:=zjZ "__next__") I.typeIs zlW (zj2 zlW I.typeIs entry_tupleiter_next ?_ (args_tupleiter_next _)));refine zi0 (m:=field (.ref it) 0) (zj4 O hd (x:= .ref l) rfl ?_);show wpAny _ _ (if (zjy l==zkz)=true then _ else _) _ _ s;rw [if_neg (show ¬((zjy l==zkz)=true)from zjj)];refine zi0 (m:=field (.ref it) 1) (zj4 O hd (x:= .int i 0) rfl ?_);refine zi0 (m:=seqItems? (.ref l)) (zj3 Z a0 ?_);simp only [zjM,hx];refine zi0 (zlz (zi0 (zmM O hd ⋯ ?_)));refine zi0 (m:=newExc (.type "StopIteration") []) ?_;simp only [newExc,newTuple];refine zi0 (zj1 ?_ (by size_fits));refine zi0 (m:=firstArgMember _ _) (zmQ (a:=zkz) (by first | rfl | (simp only [firstArgMember];rfl)) ?_);refine zj1 ?_ (by size_fits);simp only [raiseNew];refine zi0 (wpAny_handled ?_)
  first | rw [show A.in1.handled=none from z] | rw [z]
  exact zi0 (zi4 (wpAny_throw (Y _ _ (((zk6 ..).extBut.push _).push _) ⟨_,zje _ rfl,rfl⟩)))
theorem Yv{k1 k2:Sk}{z TI TO i1 i2 l1 l2:Addr}{n1 n2:Nat}{xs ys:Array Value}{x y a b:Value}{Q:Value->Shared->Prop}(D:ZipApart z TI TO i1 i2 l1 l2)
 (Z:IsZip s.heap z TI TO .none) (am:IsPair s.heap TI (.ref i1) (.ref i2)) (an:IsPair s.heap TO a b)
 (h1:ItAt k1 s.heap i1 l1 n1) (h2:ItAt k2 s.heap i2 l2 n2) (ao:SqAt k1 s.heap l1 xs) (ap:SqAt k2 s.heap l2 ys) (hx:xs[n1]? = some x) (hy:ys[n2]? = some y)
 (hQ : ∀h',IsZip h' z TI TO (rawInt s.heap.objs.size)->IsPair h' TO x y->ItAt k1 h' i1 l1 (n1+1)->ItAt k2 h' i2 l2 (n2+1)->IsPair h' s.heap.objs.size x y->h'.objs.size=s.heap.objs.size+1->
   (∀c o,c≠z->c≠TO->c≠i1->c≠i2->s.heap.get? c=some o->h'.get? c=some o)->Q (.ref s.heap.objs.size) {s with heap:=h'}) :
 wpAny (model prog w) A (Builtin.«zip.__next__» ⟨[.ref z],[]⟩) (λas s'=>∃v,as = .done (.ret v)/\Q v s') E s:=by
 refine zi0 (m:=field (.ref z) 2) (zj4 Z rfl (x:= .bool false) rfl ?_);refine zi0 (m:=field (.ref z) 3) (zj4 Z rfl (x:= .ref TI) rfl ?_);refine zi0 (zj3 am rfl ?_);refine zi0 (m:=zjE (.ref z)) ?_;unfold zjE;refine zi0 (zj4 Z rfl (x:= .none) rfl (zi4 ?_));simp only [if_true];refine zi0 (zlz (zi0 (zj4 Z rfl (x:= .ref TO) rfl ?_)));refine zi0 (zkm Z ⋯ λg1 aa O=>?_);replace aa:IsZip g1 z TI TO .ellipsis:=aa;refine zi0 ?_;simp only [zl9,zmi,zlE,zlR];refine zi0 (zi0 (zkQ ?_));refine zi0 (m:=zjn (.ref i1)) (qy (h1.at λo e=>O.extBut _ _ D.i1z e) (ao.at λo e=>O.extBut _ _ D.l1z e) hx λg2 av U=>zi4 ?_);have ag:IsPair g2 TO a b:=U.extBut _ _ D.TOi1 (O.extBut _ _ D.TOz an);refine zi0 (zj3 ag rfl (zi0 (zmH ag λg3 ab Y=>?_)));replace ab:IsPair g3 TO x b:=ab;refine zi0 (zlm (zi4 (zi0 (zi0 (zkQ ?_)))));refine zi0 (m:=zjn (.ref i2)) (qy (h2.at λo e=>Y.extBut _ _ D.TOi2.symm (U.extBut _ _ D.i12.symm (O.extBut _ _ D.i2z e))) (ap.at λo e=>Y.extBut _ _ D.l2TO (U.extBut _ _ D.l2i1 (O.extBut _ _ D.l2z e))) hy λg4 ay a0=>zi4 ?_);have ah:IsPair g4 TO x b:=a0.extBut _ _ D.TOi2 ab;refine zi0 (zj3 ah rfl (zi0 (zmH ah λI a6 a1=>?_)));replace a6:IsPair I TO x y:=a6;refine zi0 (zlm (zi4 (zi4 (zi0 (zj3 a6 rfl (zi0 (wpAny_newTuple ?_)))))));have hsz:I.objs.size=s.heap.objs.size:=by rw [a1.1,a0.1,Y.1,U.1,O.1]
 have ai:IsZip I z TI TO .ellipsis:=a1.extBut _ _ D.TOz.symm (a0.extBut _ _ D.i2z.symm (Y.extBut _ _ D.TOz.symm (U.extBut _ _ D.i1z.symm aa)));have az : ∀c o,c≠z->c≠TO->c≠i1->c≠i2->s.heap.get? c=some o->I.get? c=some o:=λc o S c2 c3 c4 e=>a1.extBut _ _ c2 (a0.extBut _ _ c4 (Y.extBut _ _ c2 (U.extBut _ _ c3 (O.extBut _ _ S e))));have b0:ItAt k1 I i1 l1 (n1+1):=av.at λo e=>a1.extBut _ _ D.TOi1.symm (a0.extBut _ _ D.i12 (Y.extBut _ _ D.TOi1.symm e));have b9:ItAt k2 I i2 l2 (n2+1):=ay.at λo e=>a1.extBut _ _ D.TOi2.symm e;have aj:z<I.objs.size:=zjq ai;refine zi0 (m:=zkv (.ref z) (.ref I.objs.size)) ?_;unfold zkv;have ba:IsZip (I.push {cls:= .type "tuple",data:= .seq #[x,y]}) z TI TO .ellipsis:=zi3 _ ai;refine zi0 (zkm ba ⋯ λg7 ad ae=>?_);replace ad:IsZip g7 z TI TO (rawInt I.objs.size):=ad;refine zkm ad ⋯ λg8 a8 af=>?_;replace a8:IsZip g8 z TI TO (rawInt I.objs.size):=a8;have up : ∀c o,c≠z->I.get? c=some o->g8.get? c=some o:=λc o S e=>af.extBut _ _ S (ae.extBut _ _ S (zi3 _ e));have ak:IsPair g8 I.objs.size x y:=af.extBut _ _ (zky aj) (ae.extBut _ _ (zky aj) (zje _ rfl));have al:g8.objs.size=I.objs.size+1:=by rw [af.1,ae.1,zjG]
 rw [hsz]at a8 ak al;refine zi4 ⟨_,rfl,?_⟩;show Q (.ref I.objs.size) _;rw [hsz];exact hQ g8 a8 (up _ _ D.TOz a6) (b0.at λo e=>up _ o D.i1z e) (b9.at λo e=>up _ o D.i2z e) ak al λc o S c2 c3 c4 e=>up c o S (az c o S c2 c3 c4 e)
theorem WU{k1 k2:Sk}{z TI TO i1 i2 l1 l2:Addr}{n1 n2:Nat}{xs ys:Array Value}{a b:Value}{Q:Fin->Shared->Prop}(hh:A.handled=none)(D:ZipApart z TI TO i1 i2 l1 l2)
 (hz:IsZip s.heap z TI TO .none) (af:IsPair s.heap TI (.ref i1) (.ref i2)) (ag:IsPair s.heap TO a b)
 (h1:ItAt k1 s.heap i1 l1 n1) (h2:ItAt k2 s.heap i2 l2 n2) (a9:SqAt k1 s.heap l1 xs) (ah:SqAt k2 s.heap l2 ys) (ai:xs[n1]? = none\/ys[n2]? = none)
 (hE : ∀h' e,(∀c o,c≠z->c≠TO->c≠i1->c≠i2->s.heap.get? c=some o->h'.get? c=some o)->(∃o,h'.get? e=some o/\o.cls = .type "StopIteration")->E (.ref e) {s with heap:=h'}) :
 wpAny (model prog w) A (Builtin.«zip.__next__» ⟨[.ref z],[]⟩) Q E s:=by
 refine zi0 (m:=field (.ref z) 2) (zj4 hz rfl (x:= .bool false) rfl ?_);refine zi0 (m:=field (.ref z) 3) (zj4 hz rfl (x:= .ref TI) rfl ?_);refine zi0 (zj3 af rfl ?_);refine zi0 (m:=zjE (.ref z)) ?_;unfold zjE;refine zi0 (zj4 hz rfl (x:= .none) rfl (zi4 ?_));simp only [if_true];refine zi0 (zlz (zi0 (zj4 hz rfl (x:= .ref TO) rfl ?_)));refine zi0 (zkm hz ⋯ λg1 a3 I=>?_);replace a3:IsZip g1 z TI TO .ellipsis:=a3;refine zi0 ?_;simp only [zl9,zmi,zlE,zlR];refine zi0 (zi0 (zkQ ?_));have aa : ∀{g e:_} {Y:Obj},IsZip g z TI TO .ellipsis->(∀c o,c≠z->c≠TO->c≠i1->c≠i2->s.heap.get? c=some o->g.get? c=some o)->g.get? e=some Y->Y.cls = .type "StopIteration"->
  wpAny (model prog w) A (setField (.ref z) 0 .none) (λ_ s'=>E (.ref e) s') E {s with heap:=g}:=λ{g e Y} ab hk S Z=>by
  have am:e≠z:=λq=>by subst q;rw [ab]at S;cases S;simp at Z
  exact zkm ab ⋯ λg3 _ U=>hE g3 e (λc o c1 c2 c3 c4 q=>U.extBut _ _ c1 (hk c o c1 c2 c3 c4 q)) ⟨Y,U.extBut _ _ am S,Z⟩
 cases hx:xs[n1]? with
 | none=>
  refine zi0 (m:=zjn (.ref i1)) (ym hh (h1.at λo e=>I.extBut _ _ D.i1z e) (a9.at λo e=>I.extBut _ _ D.l1z e) hx λg2 e O he=>?_);obtain⟨Y,S,Z⟩:=he;exact aa (O _ _ D.i1z.symm a3) (λc o c1 _ c3 _ q=>O _ _ c3 (I.extBut _ _ c1 q)) S Z
 | some x=>
  have hy:ys[n2]? = none:=by rcases ai with h | h;rw [hx]at h;cases h;exact h
  refine zi0 (m:=zjn (.ref i1)) (qy (h1.at λo e=>I.extBut _ _ D.i1z e) (a9.at λo e=>I.extBut _ _ D.l1z e) hx λg2 ao O=>zi4 ?_);have ad:IsPair g2 TO a b:=O.extBut _ _ D.TOi1 (I.extBut _ _ D.TOz ag);refine zi0 (zj3 ad rfl (zi0 (zmH ad λg3 ap U=>?_)));refine zi0 (zlm (zi4 (zi0 (zi0 (zkQ ?_)))));refine zi0 (m:=zjn (.ref i2)) (ym hh (h2.at λo e=>U.extBut _ _ D.TOi2.symm (O.extBut _ _ D.i12.symm (I.extBut _ _ D.i2z e))) (ah.at λo e=>U.extBut _ _ D.l2TO (O.extBut _ _ D.l2i1 (I.extBut _ _ D.l2z e))) hy λg4 e ae he=>?_);obtain⟨Y,S,Z⟩:=he;exact aa (ae _ _ D.i2z.symm (U.extBut _ _ D.TOz.symm (O.extBut _ _ D.i1z.symm a3))) (λc o c1 c2 c3 c4 q=>ae _ _ c4 (U.extBut _ _ c2 (O.extBut _ _ c3 (I.extBut _ _ c1 q)))) S Z
end
def yL(a b:Value):Obj:={cls:= .type "tuple",data:= .seq #[a,b]}
def zd7(TI TO:Addr):Obj:={cls:= .type "zip",data:= .fields #[.none,.bool false,.bool false,.ref TI,.ref TO]}
def wL(z I:Sk)(h:Heap)(l1 l2:Addr):Heap:=
 zjo (zjo (zjo (zjo (zjo h (itO z l1)) (itO I l2)) (yL (.ref h.objs.size) (.ref (h.objs.size+1)))) (yL .none .none)) (zd7 (h.objs.size+2) (h.objs.size+3))
theorem WT(z I:Sk)(l1 l2:Addr)(xs ys:Array Value) :
 Meets (Builtin.«zip.__new__» ⟨[.type "zip",.ref l1,.ref l2],[]⟩) (λ_ R s=>SqAt z s.heap l1 xs/\SqAt I s.heap l2 ys/\
  R (.ok (.ret (.ref (s.heap.objs.size+4)))) {s with heap:=wL z I s.heap l1 l2}):=
 .of_wp λprog w A R s h=>by
  obtain⟨O,g,d,tk,os⟩:=s;obtain⟨S,U,h⟩:=h;have a0:=sub_zip;have Y:SqAt z (zmt ⟨O,g,d,tk,os⟩) l1 xs:=S;have Z:SqAt I (zmt ⟨O.push (itO z l1),g,d,tk,os⟩) l2 ys:=U.at λo e=>zi3 _ e
  wp_walk using y7 Y,y7 Z
  refine⟨_,rfl,?_⟩;simp only [wL,yL,zd7,zjG]at h ⊢;exact h
section
variable{X:Cx}{pins:List (Addr×Obj)}{σ:St}{H:Hp}{s:Shared}{h':Heap}
theorem Inv.turnLaid{t':Nat}{fp:List Addr}{a:Addr}{o:HO}(I:Inv X pins σ H s)(k : ∀b u,b∉fp->s.heap.get? b=some u->h'.get? b=some u)(U : ∀b∈fp,FpOk X pins H b)
 (Y:s.heap.objs.size<=a) (new:ObjOk X.prog X.w (upd H a o) h' a o):Inv X pins σ (upd H a o) {s with heap:=h',toks:=t'}:=by
 have ha:H a=none:=I.hok.fresh Y;have Z : ∀b u,H b=some u->b∉fp:=λb u e z=>by rw [(U b z).1]at e;cases e
 have a0 : ∀b u,s.heap.get? b=some u->b≠a:=λb u e=>zjC (zjr (zjq e) Y);refine I.step (g':=s.gens) (d':=s.drawn) (ch:=fp) (λb O=>⟨(U b O).2.2.2.1,(U b O).2.1,(U b O).2.2.2.2.1,(U b O).2.2.2.2.2⟩) (λb u _ _ S e _=>k b u S e) (λb u _ _ S e _=>⟨u.slots,k b u S e⟩)
  (λb u _ e n=>by rw [zJ (a0 b u e)];exact n) (λb u S e=>⟨u,k b u S e⟩) (λb xs e=>by rw [zJ (jE e ha)];exact e) (λb ob xs e=>by rw [zJ (jE e ha)];exact e)
  (λb ps e=>⟨#[],by rw [zJ (jE e ha),e];simp⟩) (λm hm=>?_) (λb u e=>?_) I.bare
 ·obtain⟨ob,es,ep,ho,r⟩:=hm
  refine⟨ob,es,ep,k _ ob (λz=>(U _ z).2.1 rfl) ho,r⟩
 ·by_cases O:b=a
  ·subst O;rw [zH]at e;cases e;exact new
  ·rw [zJ O]at e
   refine(I.hok b u e).stay (λc v S q=>k c v ?_ q) (λc q=>by rw [zJ (jE q ha)];exact q) λc xs q=>by rw [zJ (jE q ha)];exact q
   rcases S with z | z
   ·rw [z];exact Z b u e
   ·exact Z c _ z
theorem Inv.turnedL{t':Nat}{fp:List Addr}(I:Inv X pins σ H s)(k : ∀b u,b∉fp->s.heap.get? b=some u->h'.get? b=some u)(S : ∀b∈fp,FpOk X pins H b):Inv X pins σ H {s with heap:=h',toks:=t'}:=by
 have Y : ∀b u,H b=some u->b∉fp:=λb u e z=>by rw [(S b z).1]at e;cases e
 refine I.step (g':=s.gens) (d':=s.drawn) (ch:=fp) (λb U=>⟨(S b U).2.2.2.1,(S b U).2.1,(S b U).2.2.2.2.1,(S b U).2.2.2.2.2⟩) (λb u _ _ O e _=>k b u O e) (λb u _ _ O e _=>⟨u.slots,k b u O e⟩)
  (λb u _ e n=>n) (λb u O e=>⟨u,k b u O e⟩) (λb xs e=>e) (λb ob xs e=>e)
  (λb ps e=>⟨#[],by rw [e];simp⟩) (λm hm=>?_) (λb u e=>?_) I.bare
 ·obtain⟨ob,es,ep,Z,r⟩:=hm
  refine⟨ob,es,ep,k _ ob (λz=>(S _ z).2.1 rfl) Z,r⟩
 ·refine(I.hok b u e).stay (λc v O q=>k c v ?_ q) (λc q=>q) λc xs q=>q
  rcases O with z | z
  ·rw [z];exact Y b u e
  ·exact Y c _ z
end
def SqK(k:Sk)(K:PySem.W.Frag)(H:Hp)(a:Addr)(xs:List V):Prop:=match k with
 | .L=>SqL K H a xs
 | .T=>SqT K H a xs
theorem Inv.sq{X:Cx}{pins:List (Addr×Obj)}{σ:St}{H:Hp}{s:Shared}{k:Sk}{a:Addr}{xs:List V}(I:Inv X pins σ H s)(h:SqK k X.K H a xs) :
 ∃O:List Value,Vals xs O/\SqAt k s.heap a O.toArray/\xs.length<=sizeLine:=by
 cases k with
 | L=>obtain⟨O,r,p,z⟩:=I.list h;exact⟨O,r,p.isList,z⟩
 | T=>obtain⟨O,r,p,z⟩:=I.tuple h;exact⟨O,r,p,z⟩
theorem Inv.sq_inj{X:Cx}{pins:List (Addr×Obj)}{σ:St}{H:Hp}{s:Shared}{k:Sk}{a:Addr}{xs ys:List V}(I:Inv X pins σ H s)(h:SqK k X.K H a xs)(h':SqK k X.K H a ys):xs=ys:=by
 cases k with
 | L=>exact I.list_inj h h'
 | T=>exact I.tuple_inj h h'
def Itz(z I:Sk)(K:PySem.W.Frag)(a b:Addr):It:=
 ⟨λi H=>∃xs ys,SqK z K H a xs/\SqK I K H b ys/\i<xs.length/\i<ys.length,
  λi H x H'=>∃p u v,x = .ref p/\H p=none/\H'=upd H p (.tup [u,v])/\(∀xs,SqK z K H a xs->xs[i]? = some u)/\(∀ys,SqK I K H b ys->ys[i]? = some v),
  λi H=>∃xs ys,SqK z K H a xs/\SqK I K H b ys/\(xs.length<=i\/ys.length<=i)⟩
theorem W1{P:Program}{w:World}{K:PySem.W.Frag}{elts:List Expr}{x1:Nat}{tpos:Pos}(k1 k2:Sk){z TI TO i1 i2 a b:Addr}(D:ZipApart z TI TO i1 i2 a b) :
 Turn P w K (.Tuple elts x1 tpos) (Itz k1 k2 K a b) [z,TI,TO,i1,i2] z (λi h=>IsZip h z TI TO .none/\IsPair h TI (.ref i1) (.ref i2)/\(∃c d,IsPair h TO c d)/\ItAt k1 h i1 a i/\ItAt k2 h i2 b i) where
 mem:=by simp
 obj:=λi h ⟨S,Y,⟨c,d,Z⟩,h1,h2⟩ y hy=>by
  simp only [zjm,zjF,or_false]at hy;rcases hy with rfl | rfl | rfl | rfl | rfl
  ·exact⟨_,S,λv q=>by cases q⟩
  ·exact⟨_,Y,λv q=>by cases q⟩
  ·exact⟨_,Z,λv q=>by cases q⟩
  ·exact h1.obj
  ·exact h2.obj
 keep:=λi h h' ⟨S,Y,⟨c,d,Z⟩,h1,h2⟩ k=>
  ⟨k z ⋯ _ S,k TI ⋯ _ Y,⟨c,d,k TO ⋯ _ Z⟩,h1.at λo e=>k i1 ⋯ o e,h2.at λo e=>k i2 ⋯ o e⟩
 item:=by
  rintro X hP hw hK hc i pins s σ H E I hf ⟨S,Y,⟨c,d,Z⟩,h1,h2⟩ ⟨xs,ys,ab,ac,an,ao⟩;subst hP hw hK;obtain⟨ap,af,p1,z1⟩:=I.sq ab;obtain⟨aq,ah,p2,z2⟩:=I.sq ac;have hx:xs[i]? = some xs[i]:=zi8 an;have hy:ys[i]? = some ys[i]:=zi8 ao;obtain⟨u1,ar,as⟩:=af.get hx;obtain⟨u2,au,av⟩:=ah.get hy;have hT:s.TypeIs (.ref z) "zip":=⟨_,S,rfl⟩;unfold pyNext;refine zi0 (zlb (zjS (name:=zjZ "__next__") hT zkX (zj2 zkX hT zmk
   (Yv D S Y Z h1 h2 p1 p2 (x:=u1) (y:=u2) (by simpa using ar) (by simpa using au) λg a1 a2 a3 a4 a5 a6 a7=>zi4 ⟨_,rfl,?_⟩) (zmc _))))
  refine wpAny_letOwnedTupleGo_zip a1 λg2 b9 a0=>?_;have lt : ∀{c o},s.heap.get? c=some o->s.heap.objs.size≠c:=λe=>zky (zjq e);have ba:IsPair g2 s.heap.objs.size u1 u2:=a0.extBut _ _ (lt S) a5;have kk : ∀U u,U ∉ [z,TI,TO,i1,i2]->s.heap.get? U=some u->g2.get? U=some u:=λU u O e=>by
   simp only [zjm,zjF,or_false,not_or]at O;exact a0.extBut _ _ O.1 (a7 U u O.1 O.2.2.1 O.2.2.2.1 O.2.2.2.2 e)
  have I1:Inv X pins σ (upd H s.heap.objs.size (.tup [xs[i],ys[i]])) {s with heap:=g2,toks:=s.toks}:=
   I.turnLaid (fp:=[z,TI,TO,i1,i2]) kk hf (zjb _) ⟨by show 2<=sizeLine;decide,[u1,u2],.cons as (.cons av .nil),⟨_,ba,rfl,_,rfl⟩⟩
  have bc:H s.heap.objs.size=none:=I.fresh;refine⟨.ref s.heap.objs.size,_,I1,rfl,⟨_,_,_,rfl,bc,rfl,λbi ai=>by rw [I.sq_inj ai ab];exact hx,λbj ai=>by rw [I.sq_inj ai ac];exact hy⟩,?_,λU O=>?_⟩
  ·exact⟨b9,a0.extBut _ _ D.TIz (a7 _ _ D.TIz D.TITO D.TIi1 D.TIi2 Y),⟨_,_,a0.extBut _ _ D.TOz a2⟩,a3.at λo e=>a0.extBut _ _ D.i1z e,a4.at λo e=>a0.extBut _ _ D.i2z e⟩
  ·have bd:U≠s.heap.objs.size:=by
    simp only [zjm,zjF,or_false]at O;rcases O with rfl | rfl | rfl | rfl | rfl
    ·exact(lt S).symm
    ·exact(lt Y).symm
    ·exact(lt Z).symm
    ·obtain⟨o,e,_⟩:=h1.obj;exact(lt e).symm
    ·obtain⟨o,e,_⟩:=h2.obj;exact(lt e).symm
   rw [zJ bd];exact(hf U O).1
 done:=by
  rintro X hP hw hK hc i pins s σ H E I hf ⟨S,Y,⟨c,d,Z⟩,h1,h2⟩ ⟨xs,ys,ab,ac,hi⟩;subst hP hw hK;obtain⟨ap,af,p1,z1⟩:=I.sq ab;obtain⟨aq,ah,p2,z2⟩:=I.sq ac;have hT:s.TypeIs (.ref z) "zip":=⟨_,S,rfl⟩;have l1:=af.length;have l2:=ah.length;unfold pyNext;refine zi0 (zlb (zjS (name:=zjZ "__next__") hT zkX (zj2 zkX hT zmk
   (WU (show X.A.handled=none from I.ok.hd hc) D S Y Z h1 h2 p1 p2 (by rcases hi with q | q;left;simp;omega;right;simp;omega) λg e hk he=>?_) (zmc _))))
  obtain⟨o,ho,bg⟩:=he;refine zi0 (zlH (T:="StopIteration") (b:=true) ⟨o,ho,bg⟩ isSubtype_stop (zi4 ⟨rfl,?_⟩));refine I.turnedL (t':=s.toks) (fp:=[z,TI,TO,i1,i2]) (λU u O e=>?_) hf;simp only [zjm,zjF,or_false,not_or]at O;exact hk U u O.1 O.2.2.1 O.2.2.2.1 O.2.2.2.2 e
 self:=λ_ _ _ _ _ st h=>zms st.1 h
def ziR(K:PySem.W.Frag)(ta:TA):TI:=λσ H R=>ta σ H λvs H1=>∃z I a b,vs=[.ref a,.ref b]/\(∃xs,SqK z K H1 a xs)/\(∃ys,SqK I K H1 b ys)/\R (Itz z I K a b) H1
theorem ze9{X:Cx}{e1 S:Expr}{ta:TA}{p pos:Pos}{elts:List Expr}{x1:Nat}{tpos:Pos}(hg:Gl X "zip")(hm:X.mg "zip" = none)(ha:PA X [e1,S] ta)
 (hv:bootBuiltins "zip" = some (.type "zip")) (hs:starEach [e1,S] X.env=[(false,eval e1 X.env),(false,eval S X.env)]:=by rfl) (a1:starEach [S] X.env=[(false,eval S X.env)]:=by rfl) :
 PI X (.Tuple elts x1 tpos) (.Call (.Name "zip" p) [e1,S] [] pos) (ziR X.K ta):=by
 intro pins s σ H R I h;refine Call_ (kW I hg hm hv (zkd (thn (ha pos pins s σ H _ I h) λus s1 hZ=>?_) (by rw [hs,a1]) (by rw [a1];rfl)));obtain⟨vs,H1,U,r1,q1⟩:=hZ;obtain⟨z,O,a,b,e,⟨xs,ae⟩,⟨ys,af⟩,q⟩:=q1;subst e;obtain⟨w1,w2,eu,ah,ai⟩:=zcz r1;subst eu;cases ah;cases ai;obtain⟨aj,ar,p1,z1⟩:=U.sq ae;obtain⟨ak,as,p2,z2⟩:=U.sq af;have la:=p1.lt;have lb:=p2.lt;refine callType_new F.called_zip ⋯ (F.typeCall_zip_2 _ _) (F.newCall_zip_2 _ _) (λobj=>F.args_object_init_3 obj _ _) F.entry_zip_new (WT z O a b aj.toArray ak.toArray) ⟨p1,p2,?_⟩;have keep : ∀c o,s1.heap.get? c=some o->(wL z O s1.heap a b).get? c=some o:=λc o e=>
  zi3 _ (zi3 _ (zi3 _ (zi3 _ (zi3 _ e))))
 have y1:(zjo s1.heap (itO z a)).objs.size=s1.heap.objs.size+1:=zjG ..;have y2:(zjo (zjo s1.heap (itO z a)) (itO O b)).objs.size=s1.heap.objs.size+2:=by rw [zjG,y1]
 have y3:(zjo (zjo (zjo s1.heap (itO z a)) (itO O b)) (yL (.ref s1.heap.objs.size) (.ref (s1.heap.objs.size+1)))).objs.size=s1.heap.objs.size+3:=by rw [zjG,y2]
 have y4:(zjo (zjo (zjo (zjo s1.heap (itO z a)) (itO O b)) (yL (.ref s1.heap.objs.size) (.ref (s1.heap.objs.size+1)))) (yL .none .none)).objs.size=s1.heap.objs.size+4:=by rw [zjG,y3]
 have g0:ItAt z (wL z O s1.heap a b) s1.heap.objs.size a 0:=(y8 z s1.heap a).at λo e=>zi3 _ (zi3 _ (zi3 _ (zi3 _ e)));have g1:ItAt O (wL z O s1.heap a b) (s1.heap.objs.size+1) b 0:=by
  have q:=y8 O (zjo s1.heap (itO z a)) b;rw [y1]at q;exact q.at λo e=>zi3 _ (zi3 _ (zi3 _ e))
 have g2:IsPair (wL z O s1.heap a b) (s1.heap.objs.size+2) (.ref s1.heap.objs.size) (.ref (s1.heap.objs.size+1)):=by
  have q:_=some (yL (.ref s1.heap.objs.size) (.ref (s1.heap.objs.size+1))):=zje (zjo (zjo s1.heap (itO z a)) (itO O b)) (o:=yL (.ref s1.heap.objs.size) (.ref (s1.heap.objs.size+1))) rfl;rw [y2]at q;exact zi3 _ (zi3 _ q)
 have g3:IsPair (wL z O s1.heap a b) (s1.heap.objs.size+3) .none .none:=by
  have q:_=some (yL .none .none):=zje (zjo (zjo (zjo s1.heap (itO z a)) (itO O b)) (yL (.ref s1.heap.objs.size) (.ref (s1.heap.objs.size+1)))) (o:=yL .none .none) rfl;rw [y3]at q;exact zi3 _ q
 have g4:IsZip (wL z O s1.heap a b) (s1.heap.objs.size+4) (s1.heap.objs.size+2) (s1.heap.objs.size+3) .none:=by
  have q:=zje (zjo (zjo (zjo (zjo s1.heap (itO z a)) (itO O b)) (yL (.ref s1.heap.objs.size) (.ref (s1.heap.objs.size+1)))) (yL .none .none)) (o:=zd7 (s1.heap.objs.size+2) (s1.heap.objs.size+3)) rfl;rw [y4]at q;exact q
 refine⟨⟨_,g4,rfl⟩,zms (s:={s1 with heap:=wL z O s1.heap a b}) g4 ?_⟩;have I2:Inv X pins σ H1 {s1 with heap:=wL z O s1.heap a b,toks:=s1.toks}:=U.kept keep;have nn : ∀m:Nat,s1.heap.objs.size≠s1.heap.objs.size+m+1:=λm=>by omega
 have Y : ∀m:Nat,a≠s1.heap.objs.size+m:=λm=>zjC (zjr la (zjB _ m));have Z : ∀m:Nat,b≠s1.heap.objs.size+m:=λm=>zjC (zjr lb (zjB _ m));have ne : ∀m n:Nat,m≠n->(s1.heap.objs.size+m:Nat)≠s1.heap.objs.size+n:=λm n h=>by omega
 have D:ZipApart (s1.heap.objs.size+4) (s1.heap.objs.size+2) (s1.heap.objs.size+3) s1.heap.objs.size (s1.heap.objs.size+1) a b:=
  ⟨ne 2 4 ⋯,ne 3 4 ⋯,ne 0 4 ⋯,ne 1 4 ⋯,ne 2 3 ⋯,ne 2 0 ⋯,ne 2 1 ⋯,ne 3 0 ⋯,ne 3 1 ⋯,ne 0 1 ⋯,
   Y 4,Y 3,Y 0,Y 1,Z 4,Z 3,Z 0,Z 1⟩
 refine⟨_,[s1.heap.objs.size+4,s1.heap.objs.size+2,s1.heap.objs.size+3,s1.heap.objs.size,s1.heap.objs.size+1],_,_,H1,rfl,I2,W1 z O D,⟨g4,g2,⟨_,_,g3⟩,g0,g1⟩,λc hc=>?_,q⟩;have a7:s1.heap.objs.size<=c:=by
  simp only [zjm,zjF,or_false]at hc;rcases hc with rfl | rfl | rfl | rfl | rfl
  ·exact zjB _ _
  ·exact zjB _ _
  ·exact zjB _ _
  ·exact zjb _
  ·exact zjB _ _
 exact U.fpOk a7 (U.hok.fresh a7)
def Itk(k:Sk)(K:PySem.W.Frag)(a:Addr):It:=match k with
 | .L=>Itl K a
 | .T=>Itt K a
def ziS(K:PySem.W.Frag)(tl:TE):TI:=λσ H R=>tl σ H λx H1=>∃a k,x = .ref a/\(∃xs,SqK k K H1 a xs)/\R (Itk k K a) H1
theorem zb3{X:Cx}{tg l:Expr}{tl:TE}(S:PE X l tl):PI X tg l (ziS X.K tl):=by
 intro pins s σ H R I h;refine thn (S pins s σ H _ I h) λv s1 U=>?_;obtain⟨x,H1,z,Y,Z⟩:=U;obtain⟨a,k,e,⟨xs,hq⟩,q⟩:=Z;subst e;cases Y;have O : ∀b ∈ [s1.heap.objs.size],FpOk X pins H1 b:=λb hb=>by
  have e:b=s1.heap.objs.size:=by simpa using hb
  subst e;exact z.fpOk (zjb _) (z.hok.fresh (zjb _))
 obtain⟨a2,rv,p,hz⟩:=z.sq hq;cases k with
 | L=>exact zm2 p ⟨s1.heap.objs.size,[s1.heap.objs.size],_,_,H1,rfl,z.kept (t':=s1.toks) λb o e=>zi3 _ e,YG a _,⟨_,zje _ rfl,rfl,rfl⟩,O,q⟩
 | T=>exact wpAny_pyIter_tuple p ⟨s1.heap.objs.size,[s1.heap.objs.size],_,_,H1,rfl,z.kept (t':=s1.toks) λb o e=>zi3 _ e,Ks a _,⟨_,zje _ rfl,rfl,rfl⟩,O,q⟩
section
variable{X:Cx}{pins:List (Addr×Obj)}{σ:St}{H:Hp}{s:Shared}{a:Addr}{y v:V}{u r:Value}{o:Option V}{A:Around}{E:Value->Shared->Prop}
theorem Inv.big(I:Inv X pins σ H s):sysModules<s.heap.objs.size:=by
 have h:mainGlobals<s.heap.objs.size:=(I.mod.glob.keeps I.bk).lt;exact Nat.lt_trans ⋯ h
end
def zh8(i:Expr):Prop:=∀z I,subscripted i false z I=operate [z,I] (getItem z I)
theorem YO{prog:Program}{w:World}{A:Around}{E:Value->Shared->Prop}{s:Shared}{env:Env}{value z:Expr}{pos:Pos}{T id:String}{Q:Value->Shared->Prop}
 (hl:typeLookup (.type T) "__getitem__" = pure (some (.builtin id))) (hs:zh8 z)
 (h:wpAny (model prog w) A (eval value env) (λo U=>wpAny (model prog w) A (eval z env) (λi I=>I.TypeIs o T/\wpAny (model prog w) A (getItem o i) Q E I) E U) E s) :
 wpAny (model prog w) A (eval (.Subscript value z pos) env) Q E s:=by
 refine Subscript_ (zk5 h (λo U h₁=>zk5 h₁ (λi I O=>?_) λ_ _ x=>x) λ_ _ x=>x);obtain⟨Y,O⟩:=O;unfold subscriptTail;refine zi0 ?_;rw [getitemInPython_of_ne Y.not_modules];refine zi0 (wpAny_specialOf Y hl ?_);have S:wpAny (model prog w) A (subscripted z false o i) (λr Z=>wpAny (model prog w) A (letTemporaryGo value o r >>= λ_=>pure r) Q E Z) E I:=by
  rw [hs o i];exact wpAny_operating (zk5 O (λr Z h₃=>zi0 (wpAny_letTemporaryGo (zi4 h₃))) λ_ _ x=>x)
 first
  | exact zi4 (zi0 S)
  | exact zi0 (zi4 (zi0 S))
  | exact zi0 S
end L2
namespace DL
open PySem PySem.Spec PyProof.Rows L2
def xNames:List Str:=["NoPrime","Nought","NoTable","NoWidths","NoRow","Unlike","TooMany","NoTurn","NoLine","Nothing","NoArrow","NoText","NoRoom"]
def xCls(K:PySem.W.Frag)(c:Str):Option Addr:=match zlo K mainGlobals c with
 | some (some (.ref C))=>some C
 | _=>none
def zct(K:PySem.W.Frag)(C:Addr):Bool:=
 ["int","bool","str","tuple","list"].all (λt=>zkC K (.ref C) (.type t)==some false) && zkC K (.ref C) (.type "ValueError")==some true &&
 PySem.W.findIn K (.ref C) "__getattribute__" == some (some (.builtin "BaseException.__getattribute__")) && PySem.W.findIn K (.ref C) "__getattr__" == some none &&
 PySem.W.findIn K (.ref C) "__class__" == some (some (.builtin "object.__class__")) && PySem.W.mroIn K C (.type "object")==some true && PySem.W.mroIn K C (.type "BaseException")==some true &&
 PySem.W.specialIn K (.builtin "object.__class__") "__get__" == some (some (.builtin "getset_descriptor.__get__")) && PySem.W.takesIn K (.builtin "object.__class__")==some true &&
 (PySem.W.clsIn K C).any (λz=> !z.hasDel) && zlI K (.ref C)==some (.type "type")
def xAll(K:PySem.W.Frag):Bool:=match xCls K "SplitError" with
 | some S=>xNames.all λc=>match xCls K c with
  | some C=>zct K C && zkC K (.ref C) (.ref S)==some true && xNames.all λz=>match xCls K z with
   | some I=>zkC K (.ref C) (.ref I)==some (c==z)
   | none=>false
  | none=>false
 | none=>false
def XObj(h:Heap)(a:Addr)(C:Addr):Prop:=∃o vs,h.get? a=some o/\o.cls = .ref C/\o.data = .fields vs
structure XRep(K:PySem.W.Frag)(H:Hp)(c:Str)(n:Option Int)(a:Addr):Prop where
 all:xAll K=true
 mem:c∈xNames
 ex : ∃C φ,xCls K c=some C/\H a=some (.ext φ)/\(∀h,φ h->XObj h a C)/\
  match n with
  | none=>True
  | some i=>∃d,(∀h,φ h->∃o,h.get? a=some o/\o.dict=some d)/\H d=some (.xd [(if c==("NoRoom" : Str)then "room" else "at",.int i)])
theorem XRep.mono{K:PySem.W.Frag}{H H':Hp}{c:Str}{n:Option Int}{a:Addr}(e : ∀b o,H b=some o->H' b=some o)(h:XRep K H c n a):XRep K H' c n a:=by
 obtain⟨h1,h2,C,φ,I,g2,O,z⟩:=h;refine⟨h1,h2,C,φ,I,e _ _ g2,O,?_⟩;cases n with
 | none=>exact z
 | some i=>obtain⟨d,S,U⟩:=z;exact⟨d,S,e _ _ U⟩
theorem zcs{K:PySem.W.Frag}{c:Str}{C:Addr}(h:xAll K=true)(O:c∈xNames)(e:xCls K c=some C) : ∃S,xCls K "SplitError" = some S/\zct K C=true/\zkC K (.ref C) (.ref S)=some true/\
 ∀z I,z∈xNames->xCls K z=some I->zkC K (.ref C) (.ref I)=some (c==z):=by
 unfold xAll at h;split at h
 ·rename_i S U
  have h1:=zkq.mp h c O;rw [e]at h1;simp only [Bool.and_eq_true,beq_iff_eq]at h1;refine⟨S,U,h1.1.1,h1.1.2,λz I Y Z=>?_⟩;have h2:=zkq.mp h1.2 z Y;rw [Z]at h2;exact beq_iff_eq.mp h2
 ·cases h
abbrev St:=L2.St
def zhr:D->Option Key
 | .int i=>some (.inl i)
 | .str x=>some (.inr x)
 | _=>none
def zcb:List D->Option (List Key)
 | []=>some []
 | d::ds=>(zhr d).bind λk=>(zcb ds).map λr=>k::r
def DRp(H:Hp)(a:Addr)(ks:List D)(xs:List V):Prop:=∃kk,zcb ks=some kk/\kk.length=xs.length/\H a=some (.dK (kk.zip xs))
def YK(k:List Int):Int:=reduceHash (Builtin.Tuple.tupleHashOf (k.map hashInt))
def DObj(o:Obj)(xs:List (List Int×Addr×Value)):Prop:=o.ExactDict/\∃es ep,o.data = .dict es ep/\es.toList=xs.map (λx=>⟨YK x.1,.ref x.2.1,x.2.2⟩)/\(xs.map (·.1)).Nodup
def atO(a:Addr)(o:Obj):HO:= .ext λh=>h.get? a=some o
def DRt(K:PySem.W.Frag)(H:Hp)(a:Addr)(ks:List (List Int))(ys:List V):Prop:=
 (a==sysModules)=false/\∃o xs,H a=some (atO a o)/\DObj o xs/\xs.map (·.1)=ks/\xs.length<=sizeLine/\(∀x∈xs,SqT K H x.2.1 (x.1.map V.int))/\Vals ys (xs.map (·.2.2))
mutual
def Rep(K:PySem.W.Frag)(H:Hp):D->V->Prop
 | .non,v=>v = .non
 | .bl b,v=>v = .bl b
 | .int i,v=>v = .int i
 | .str x,v=>v = .str x
 | .tup ds,v=>∃a xs,v = .ref a/\SqT K H a xs/\Reps K H ds xs
 | .lst ds,v=>∃a xs,v = .ref a/\SqL K H a xs/\Reps K H ds xs
 | .exc c n,v=>∃a,v = .ref a/\XRep K H c n a
 | .dic ks vs,v=>∃a xs,v = .ref a/\DRp H a ks xs/\Reps K H vs xs
 | .dct ks vs,v=>∃a xs,v = .ref a/\DRt K H a ks xs/\Reps K H vs xs
def Reps(K:PySem.W.Frag)(H:Hp):List D->List V->Prop
 | [],xs=>xs=[]
 | d::ds,xs=>∃x r,xs=x::r/\Rep K H d x/\Reps K H ds r
end
theorem sameT{K:PySem.W.Frag}{H H':Hp}{a:Addr}{xs:List V}(e:Same H H')(h:SqT K H a xs):SqT K H' a xs:=by
 rcases h with(h | ⟨o,h⟩) | h
 ·exact .inl (.inl (e _ _ h))
 ·exact .inl (.inr ⟨o,e _ _ h⟩)
 ·exact .inr h
theorem xt{k:Sk}{K:PySem.W.Frag}{H H':Hp}{a:Addr}{xs:List V}(e:Same H H')(h:SqK k K H a xs):SqK k K H' a xs:=by
 cases k
 ·exact e.seq h
 ·exact sameT e h
mutual
theorem Rep.mono{K:PySem.W.Frag}{H H':Hp}(e:Same H H') : ∀{d:D} {v:V},Rep K H d v->Rep K H' d v
 | .non,_,h=>h
 | .bl _,_,h=>h
 | .int _,_,h=>h
 | .str _,_,h=>h
 | .tup ds,v,h=>by
  obtain⟨a,xs,e1,h1,h2⟩:=(show ∃a xs,v = .ref a/\SqT K H a xs/\Reps K H ds xs from h);exact(show ∃a xs,v = .ref a/\SqT K H' a xs/\Reps K H' ds xs from⟨a,xs,e1,sameT e h1,Reps.mono e h2⟩)
 | .lst ds,v,h=>by
  obtain⟨a,xs,e1,h1,h2⟩:=(show ∃a xs,v = .ref a/\SqL K H a xs/\Reps K H ds xs from h);exact(show ∃a xs,v = .ref a/\SqL K H' a xs/\Reps K H' ds xs from⟨a,xs,e1,e.seq h1,Reps.mono e h2⟩)
 | .exc c n,v,h=>by
  obtain⟨a,e1,h1⟩:=(show ∃a,v = .ref a/\XRep K H c n a from h);exact(show ∃a,v = .ref a/\XRep K H' c n a from⟨a,e1,h1.mono e⟩)
 | .dic ks vs,v,h=>by
  obtain⟨a,xs,e1,⟨kk,z,g2,I⟩,h2⟩:=(show ∃a xs,v = .ref a/\DRp H a ks xs/\Reps K H vs xs from h);exact(show ∃a xs,v = .ref a/\DRp H' a ks xs/\Reps K H' vs xs from⟨a,xs,e1,⟨kk,z,g2,e _ _ I⟩,Reps.mono e h2⟩)
 | .dct ks vs,v,h=>by
  obtain⟨a,xs,e1,⟨z,o,zs,g2,I,O,S,g6,U⟩,h2⟩:=(show ∃a xs,v = .ref a/\DRt K H a ks xs/\Reps K H vs xs from h);exact(show ∃a xs,v = .ref a/\DRt K H' a ks xs/\Reps K H' vs xs from⟨a,xs,e1,⟨z,o,zs,e _ _ g2,I,O,S,λx hx=>sameT e (g6 x hx),U⟩,Reps.mono e h2⟩)
theorem Reps.mono{K:PySem.W.Frag}{H H':Hp}(e:Same H H') : ∀{ds:List D} {xs:List V},Reps K H ds xs->Reps K H' ds xs
 | [],_,h=>h
 | d::ds,xs,h=>by
  obtain⟨x,r,e1,h1,h2⟩:=(show ∃x r,xs=x::r/\Rep K H d x/\Reps K H ds r from h);exact(show ∃x r,xs=x::r/\Rep K H' d x/\Reps K H' ds r from⟨x,r,e1,Rep.mono e h1,Reps.mono e h2⟩)
end
section
variable{K:PySem.W.Frag}{H:Hp}
theorem Reps.nil:Reps K H [] []:=(show([]:List V)=[]from rfl)
theorem Reps.cons{d:D}{ds:List D}{x:V}{xs:List V}(h:Rep K H d x)(t:Reps K H ds xs):Reps K H (d::ds) (x::xs):=⟨x,xs,rfl,h,t⟩
theorem Reps.inv_nil{xs:List V}(h:Reps K H [] xs):xs=[]:=h
theorem Reps.inv_cons{d:D}{ds:List D}{xs:List V}(h:Reps K H (d::ds) xs) : ∃x r,xs=x::r/\Rep K H d x/\Reps K H ds r:=h
theorem Reps.length : ∀{ds:List D} {xs:List V},Reps K H ds xs->xs.length=ds.length
 | [],xs,h=>by rw [h.inv_nil];rfl
 | d::ds,xs,h=>by
  obtain⟨x,r,e,_,t⟩:=h.inv_cons;rw [e,zjv,zjv,Reps.length t]
theorem Reps.get : ∀{ds:List D} {xs:List V} {i:Nat} {d:D},Reps K H ds xs->ds[i]? = some d->∃x,xs[i]? = some x/\Rep K H d x
 | [],_,_,_,_,e=>by simp at e
 | c::ds,xs,0,d,h,e=>by
  obtain⟨x,r,e1,h1,_⟩:=h.inv_cons;simp at e;subst e;exact⟨x,by rw [e1];rfl,h1⟩
 | c::ds,xs,i+1,d,h,e=>by
  obtain⟨x,r,e1,_,t⟩:=h.inv_cons;obtain⟨y,z,g2⟩:=Reps.get (i:=i) (d:=d) t (by simpa using e);exact⟨y,by rw [e1];simpa using z,g2⟩
theorem Reps.getV{ds:List D}{xs:List V}{i:Nat}{x:V}(h:Reps K H ds xs)(e:xs[i]? = some x) : ∃d,ds[i]? = some d/\Rep K H d x:=by
 have hi:i<ds.length:=by rw [<- h.length];exact(zjp.mp e).1
 obtain⟨y,e1,r⟩:=h.get (zi8 hi);rw [e]at e1;cases e1;exact⟨_,zi8 hi,r⟩
theorem Reps.append : ∀{ds es:List D} {xs ys:List V},Reps K H ds xs->Reps K H es ys->Reps K H (ds++es) (xs++ys)
 | [],_,xs,_,h,g=>by rw [h.inv_nil];exact g
 | d::ds,es,xs,ys,h,g=>by
  obtain⟨x,r,e,h1,t⟩:=h.inv_cons;rw [e];exact Reps.cons h1 (Reps.append t g)
theorem Reps.drop : ∀{ds:List D} {xs:List V} (n:Nat),Reps K H ds xs->Reps K H (ds.drop n) (xs.drop n)
 | _,_,0,h=>h
 | [],xs,n+1,h=>by rw [h.inv_nil];exact Reps.nil
 | d::ds,xs,n+1,h=>by
  obtain⟨x,r,e,_,t⟩:=h.inv_cons;rw [e];exact Reps.drop n t
theorem Reps.take : ∀{ds:List D} {xs:List V} (n:Nat),Reps K H ds xs->Reps K H (ds.take n) (xs.take n)
 | _,_,0,h=>by simp;exact Reps.nil
 | [],xs,n+1,h=>by rw [h.inv_nil];exact Reps.nil
 | d::ds,xs,n+1,h=>by
  obtain⟨x,r,e,h1,t⟩:=h.inv_cons;rw [e];exact Reps.cons h1 (Reps.take n t)
end
structure Ext(H0 H H0' H':Hp):Prop where
 s0:Same H0 H0'
 s1:Same H H'
 sub:Same H0' H'
 new : ∀a,H0 a=none->H a≠none->H0' a=none
theorem Ext.refl{H0 H:Hp}(s:Same H0 H):Ext H0 H H0 H:=⟨Same.refl _,Same.refl _,s,λ_ h _=>h⟩
theorem Ext.trans{H0 H H1 z H2 I:Hp}(a:Ext H0 H H1 z)(b:Ext H1 z H2 I):Ext H0 H H2 I:=
 ⟨a.s0.trans b.s0,a.s1.trans b.s1,b.sub,λc h1 h2=>b.new c (a.new c h1 h2) (by
  cases q:H c with
  | none=>exact absurd q h2
  | some o=>rw [a.s1 c o q];simp)⟩
theorem z5{H:Hp}{p:Addr}(h:H p=none)(o:HO):Same H (upd H p o):=λb u q=>by rw [zJ (jE q h)];exact q
theorem jA{H0 H:Hp}(s:Same H0 H){p:Addr}(h:H p=none):H0 p=none:=s.free h
theorem YX{H0 H:Hp}{p:Addr}{o:HO}(s:Same H0 H):Same (upd H0 p o) (upd H p o):=λb u q=>by
 by_cases e:b=p
 ·subst e;rw [zH]at q ⊢;exact q
 ·rw [zJ e]at q ⊢;exact s b u q
theorem Ext.alloc{H0 H:Hp}{p:Addr}(s:Same H0 H)(h:H p=none)(o:HO):Ext H0 H (upd H0 p o) (upd H p o):=
 ⟨z5 (jA s h) o,z5 h o,YX s,λa h1 h2=>by rw [zJ (λe=>h2 (by rw [e];exact h))];exact h1⟩
theorem Ext.hide{H0 H:Hp}{p:Addr}(s:Same H0 H)(h:H p=none)(o:HO):Ext H0 H H0 (upd H p o):=
 ⟨Same.refl _,z5 h o,s.trans (z5 h o),λa h1 _=>h1⟩
theorem Ext.show{H0 H H0' H':Hp}{a:Addr}{o:HO}(e:Ext H0 H H0' H')(h1:H a=none)(h2:H0' a=none)(O:H' a=some o)(s:Same H0 H):Ext H0 H (upd H0' a o) H':=
 ⟨e.s0.trans (z5 h2 o),e.s1,λb u q=>by
  by_cases z:b=a
  ·subst z;rw [zH]at q;rw [O];exact q
  ·rw [zJ z]at q;exact e.sub b u q,λb S I=>by
  rw [zJ (λz=>I (by rw [z];exact h1))];exact e.new b S I⟩
structure Nest(K:PySem.W.Frag)(H0 H:Hp)(rows:List (List D))(a:Addr)(bs:List Addr):Prop where
 a0:H0 a=none
 ha:H a=some (.lst (bs.map V.ref))
 nd:(a::bs).Nodup
 len:bs.length=rows.length
 row : ∀(k:Nat) b row,bs[k]? = some b->rows[k]? = some row->H0 b=none/\∃xs,H b=some (.lst xs)/\Reps K H0 row xs
theorem Nest.at{K:PySem.W.Frag}{H0 H:Hp}{rows:List (List D)}{a:Addr}{bs:List Addr}(n:Nest K H0 H rows a bs){b:Addr}(z:b∈a::bs):H0 b=none/\∃xs,H b=some (.lst xs):=by
 rcases zjm.mp z with rfl | z
 ·exact⟨n.a0,_,n.ha⟩
 ·obtain⟨k,I⟩:=List.getElem?_of_mem z
  have O:=(zjp.mp I).1;rw [n.len]at O;obtain⟨h1,xs,h2,_⟩:=n.row k b _ I (zi8 O);exact⟨h1,xs,h2⟩
theorem Nest.move{K:PySem.W.Frag}{H0 H H0' H':Hp}{rows:List (List D)}{a:Addr}{bs:List Addr}(n:Nest K H0 H rows a bs)(s:Same H0 H0')(h0 : ∀b∈a::bs,H0' b=none)(h : ∀b∈a::bs,H' b=H b):Nest K H0' H' rows a bs:=
 ⟨h0 a zju,by rw [h a zju];exact n.ha,n.nd,n.len,λk b row z O=>by
  obtain⟨_,xs,h2,S⟩:=n.row k b row z O;have I:b∈a::bs:=zjk _ (zkD z);exact⟨h0 b I,xs,by rw [h b I];exact h2,S.mono s⟩⟩
def NestOk(K:PySem.W.Frag)(H0 H:Hp)(σ:St)(γ:Ctx):Prop:=
 (∀(i:Nat) rows,γ[i]? = some (.nest rows)->∃a bs,σ[i]? = some (some (.ref a))/\Nest K H0 H rows a bs/\∀(j:Nat) ds c,γ[j]? = some (.own ds)->σ[j]? = some (some (.ref c))->c∉a::bs)/\
 ∀(i j:Nat) z r2,γ[i]? = some (.nest z)->γ[j]? = some (.nest r2)->i=j
theorem NestOk.nil0{K:PySem.W.Frag}{H0 H:Hp}{σ:St}{γ:Ctx}(h : ∀(i:Nat) rows,γ[i]? ≠ some (.nest rows)):NestOk K H0 H σ γ:=⟨λi rows e=>absurd e (h i rows),λi j z r2 e=>absurd e (h i z)⟩
theorem NestOk.move{K:PySem.W.Frag}{H0 H H0' H':Hp}{σ:St}{γ:Ctx}(n:NestOk K H0 H σ γ)(s:Same H0 H0')(h : ∀(i:Nat) rows a bs,γ[i]? = some (.nest rows)->σ[i]? = some (some (.ref a))->Nest K H0 H rows a bs->(∀(j:Nat) ds c,γ[j]? = some (.own ds)->σ[j]? = some (some (.ref c))->c∉a::bs)->∀b∈a::bs,H0' b=none/\H' b=H b):NestOk K H0' H' σ γ:=
 ⟨λi rows e=>by
  obtain⟨a,bs,h1,h2,z⟩:=n.1 i rows e;exact⟨a,bs,h1,h2.move s (λb I=>(h i rows a bs e h1 h2 z b I).1) (λb I=>(h i rows a bs e h1 h2 z b I).2),z⟩,n.2⟩
theorem NestOk.ext{K:PySem.W.Frag}{H0 H H0' H':Hp}{σ:St}{γ:Ctx}(n:NestOk K H0 H σ γ)(e:Ext H0 H H0' H'):NestOk K H0' H' σ γ:=
 n.move e.s0 λi rows a bs _ _ h2 _ b z=>by
  obtain⟨I,xs,g2⟩:=h2.at z;exact⟨e.new b I (by rw [g2];simp),by rw [e.s1 b _ g2,g2]⟩
structure RC(K:PySem.W.Frag)(H0 H:Hp)(σ:St)(γ:Ctx):Prop where
 sub:Same H0 H
 len:σ.length=γ.length
 val : ∀(i:Nat) d,γ[i]? = some (.val d)->∃v,σ[i]? = some (some v)/\Rep K H0 d v
 own : ∀(i:Nat) ds,γ[i]? = some (.own ds)->∃a xs,σ[i]? = some (some (.ref a))/\H0 a=none/\H a=some (.lst xs)/\Reps K H0 ds xs
 ne : ∀(i j:Nat) a ds es,γ[i]? = some (.own ds)->γ[j]? = some (.own es)->σ[i]? = some (some (.ref a))->σ[j]? = some (some (.ref a))->i=j
 nst:NestOk K H0 H σ γ
theorem RC.ext{K:PySem.W.Frag}{H0 H H0' H':Hp}{σ:St}{γ:Ctx}(r:RC K H0 H σ γ)(e:Ext H0 H H0' H'):RC K H0' H' σ γ:=
 ⟨e.sub,r.len,λi d h=>let ⟨v,h1,h2⟩:=r.val i d h;⟨v,h1,h2.mono e.s0⟩,
  λi ds h=>let ⟨a,xs,h1,h2,z,I⟩:=r.own i ds h;⟨a,xs,h1,e.new a h2 (by rw [z];simp),e.s1 _ _ z,I.mono e.s0⟩,r.ne,r.nst.ext e⟩
def tV(K:PySem.W.Frag)(f:CO D):TE:=λσ H Q=>∃H0 γ d,RC K H0 H σ γ/\f γ=some d/\∀v H' H0',Ext H0 H H0' H'->Rep K H0' d v->Q v H'
def tQ(K:PySem.W.Frag)(f:CO (Sk×List D)):TE:=λσ H Q=>∃H0 γ k ds,RC K H0 H σ γ/\f γ=some (k,ds)/\∀a xs H' H0',Ext H0 H H0' H'->SqK k K H' a xs->(k = .T->SqT K H0' a xs)->Reps K H0' ds xs->Q (.ref a) H'
def tO(K:PySem.W.Frag)(f:CO (List D)):TE:=λσ H Q=>∃H0 γ ds,RC K H0 H σ γ/\f γ=some ds/\
 ∀a xs H' H0',Ext H0 H H0' H'->H a=none->H0' a=none->H' a=some (.lst xs)->Reps K H0' ds xs->Q (.ref a) H'
def tT(K:PySem.W.Frag)(f:CO Bool):TT:=λσ H Q=>∃H0 γ b,RC K H0 H σ γ/\f γ=some b/\∀H' H0',Ext H0 H H0' H'->Q b H'
def tA(K:PySem.W.Frag)(f:CO (List D)):TA:=λσ H Q=>∃H0 γ ds,RC K H0 H σ γ/\f γ=some ds/\∀vs H' H0',Ext H0 H H0' H'->Reps K H0' ds vs->Q vs H'
abbrev PV(X:Cx)(e:Expr)(f:CO D):Prop:=PE X e (tV X.K f)
abbrev PQ(X:Cx)(e:Expr)(f:CO (Sk×List D)):Prop:=PE X e (tQ X.K f)
abbrev PO(X:Cx)(e:Expr)(f:CO (List D)):Prop:=PE X e (tO X.K f)
abbrev PTD(X:Cx)(e:Expr)(f:CO Bool):Prop:=PT X e (tT X.K f)
abbrev PWD(X:Cx)(e:Expr)(f:CO Bool):Prop:=PW X e (tT X.K f)
abbrev PAD(X:Cx)(es:List Expr)(f:CO (List D)):Prop:=PA X es (tA X.K f)
theorem jY{X:Cx}{e:Expr}{t t':TE}(h:PE X e t)(i : ∀σ H Q,t' σ H Q->t σ H Q):PE X e t':=λpins s σ H Q I q=>h pins s σ H Q I (i σ H Q q)
theorem zat{X:Cx}{e:Expr}{t t':TT}(h:PT X e t)(i : ∀σ H Q,t' σ H Q->t σ H Q):PT X e t':=λpins s σ H Q I q=>h pins s σ H Q I (i σ H Q q)
theorem zeW{X:Cx}{e:Expr}{t t':TT}(h:PW X e t)(i : ∀σ H Q,t' σ H Q->t σ H Q):PW X e t':=λz pins s σ H Q I q=>h z pins s σ H Q I (i σ H Q q)
theorem zfl{X:Cx}{es:List Expr}{t t':TA}(h:PA X es t)(i : ∀σ H Q,t' σ H Q->t σ H Q):PA X es t':=λpos pins s σ H Q I q=>h pos pins s σ H Q I (i σ H Q q)
theorem qZ{X:Cx}{st:Stmt}{t t':TS}(h:PS X st t)(i : ∀D σ H,t' D σ H->t D σ H):PS X st t':=λpins s σ H D I q=>h pins s σ H D I (i D σ H q)
theorem zbY{X:Cx}{st:List Stmt}{t t':TS}(h:PSs X st t)(i : ∀D σ H,t' D σ H->t D σ H):PSs X st t':=λpins s σ H D I q=>h pins s σ H D I (i D σ H q)
theorem JQ{X:Cx}{tg e:Expr}{t t':TI}(h:PI X tg e t)(i : ∀σ H R,t' σ H R->t σ H R):PI X tg e t':=λpins s σ H R I q=>h pins s σ H R I (i σ H R q)
theorem k7{n:Nat}(h:n<=lim):n<=sizeLine:=zj9 h ⋯
section
variable{X:Cx}{e a b c:Expr}{pos:Pos}
theorem PV.q{f:CO D}(h:PV X e f):PQ X e (zC f):=jY h λσ H Q U=>by
 obtain⟨H0,γ,k,ds,rc,I,q⟩:=U;unfold zC at I;cases e1:f γ with
 | none=>rw [e1]at I;cases I
 | some d=>
  rw [e1]at I;refine⟨H0,γ,d,rc,e1,λv H' H0' ext r=>?_⟩;cases d with
  | tup es=>
   obtain⟨O,S⟩:k = .T/\ds=es:=by simp [je]at I;exact⟨I.1.symm,I.2.symm⟩
   subst O S;obtain⟨a,xs,rfl,h1,h2⟩:=(show ∃a xs,v = .ref a/\SqT X.K H0' a xs/\Reps X.K H0' ds xs from r);exact q a xs H' H0' ext (sameT ext.sub h1) (λ_=>h1) h2
  | lst es=>
   obtain⟨O,S⟩:k = .L/\ds=es:=by simp [je]at I;exact⟨I.1.symm,I.2.symm⟩
   subst O S;obtain⟨a,xs,rfl,h1,h2⟩:=(show ∃a xs,v = .ref a/\SqL X.K H0' a xs/\Reps X.K H0' ds xs from r);exact q a xs H' H0' ext (ext.sub.seq h1) (λz=>nomatch z) h2
  | _=>simp [je]at I
theorem PO.v{f:CO (List D)}(h:PO X e f):PV X e (jp f):=jY h λσ H Q S=>by
 obtain⟨H0,γ,d,rc,z,q⟩:=S;unfold jp at z;cases e1:f γ with
 | none=>rw [e1]at z;cases z
 | some ds=>
  rw [e1]at z;cases z;refine⟨H0,γ,ds,rc,e1,λa xs H' H0' ext h1 h2 U r=>?_⟩;exact q _ _ _ (ext.show h1 h2 U rc.sub) (show ∃I O,V.ref a = .ref I/\SqL X.K _ I O/\Reps X.K _ ds O from⟨a,xs,rfl,SqL.of zH,r.mono (z5 h2 _)⟩)
theorem PO.q{f:CO (List D)}(h:PO X e f):PQ X e (jy f):=jY h λσ H Q O=>by
 obtain⟨H0,γ,k,ds,rc,I,q⟩:=O;unfold jy at I;cases e1:f γ with
 | none=>rw [e1]at I;cases I
 | some es=>
  rw [e1]at I;cases I;exact⟨H0,γ,_,rc,e1,λa xs H' H0' ext h1 h2 S r=>q a xs H' H0' ext (SqL.of S) (λz=>nomatch z) r⟩
theorem ze(i:Nat)(h:PE X e (vP i)):PV X e (zc i):=jY h λσ H Q I=>by
 obtain⟨H0,γ,d,rc,z,q⟩:=I;unfold zc at z;cases e1:γ[i]? with
 | none=>rw [e1]at z;cases z
 | some c=>
  rw [e1]at z;cases c with
  | val d'=>
   cases z;obtain⟨v,h1,h2⟩:=rc.val i d e1;exact⟨v,h1,q v H H0 (Ext.refl rc.sub) h2⟩
  | no=>cases z
  | own ds=>cases z
  | nest rows=>cases z
theorem zy(i:Nat)(h:PE X e (vP i)):PQ X e (zf i):=jY h λσ H Q Y=>by
 obtain⟨H0,γ,k,ds,rc,I,q⟩:=Y;unfold zf at I;cases e1:γ[i]? with
 | none=>rw [e1]at I;cases I
 | some c=>
  rw [e1]at I;cases c with
  | no=>cases I
  | nest rows=>cases I
  | own es=>
   cases I;obtain⟨a,xs,h1,h2,Z,h4⟩:=rc.own i ds e1;exact⟨_,h1,q a xs H H0 (Ext.refl rc.sub) (SqL.of Z) (λz=>nomatch z) h4⟩
  | val d=>
   obtain⟨v,h1,h2⟩:=rc.val i d e1;refine⟨v,h1,?_⟩;cases d with
   | tup es=>
    obtain⟨S,U⟩:k = .T/\ds=es:=by simp [x9,je]at I;exact⟨I.1.symm,I.2.symm⟩
    subst S U;obtain⟨a,xs,rfl,O,g2⟩:=(show ∃a xs,v = .ref a/\SqT X.K H0 a xs/\Reps X.K H0 ds xs from h2);exact q a xs H H0 (Ext.refl rc.sub) (sameT rc.sub O) (λ_=>O) g2
   | lst es=>
    obtain⟨S,U⟩:k = .L/\ds=es:=by simp [x9,je]at I;exact⟨I.1.symm,I.2.symm⟩
    subst S U;obtain⟨a,xs,rfl,O,g2⟩:=(show ∃a xs,v = .ref a/\SqL X.K H0 a xs/\Reps X.K H0 ds xs from h2);exact q a xs H H0 (Ext.refl rc.sub) (rc.sub.seq O) (λz=>nomatch z) g2
   | _=>simp [x9,je]at I
theorem ZO{d:D}{v:V}(h:PE X e (tC v))(r : ∀H,Rep X.K H d v):PV X e (zh d):=jY h λσ H Q z=>by
 obtain⟨H0,γ,d',rc,I,q⟩:=z;cases I;exact q v H H0 (Ext.refl rc.sub) (r H0)
theorem zk{i:Int}{j:Nat}:PV X (.Constant (.int i) j pos) (zh (.int i)):=ZO zfh λ_=>(show V.int i = .int i from rfl)
theorem ze0{x:Bool}{j:Nat}:PV X (.Constant (.bool x) j pos) (zh (.bl x)):=ZO zhg λ_=>(show V.bl x = .bl x from rfl)
theorem XG{x:Str}{j:Nat}:PV X (.Constant (.str x) j pos) (zh (.str x)):=ZO zb4 λ_=>(show V.str x = .str x from rfl)
def Snd(K:PySem.W.Frag)(r:R2)(F:D->D->Option D):Prop:=∀H0 H x y dx z d Q,Same H0 H->Rep K H0 dx x->Rep K H0 z y->F dx z=some d->(∀v H' H0',Ext H0 H H0' H'->Rep K H0' d v->Q v H')->r x y H Q
theorem bind_some{α β:Type}{o:Option α}{f:α->Option β}{y:β}(h:o.bind f=some y) : ∃x,o=some x/\f x=some y:=by
 cases o with
 | none=>cases h
 | some x=>exact⟨x,rfl,h⟩
theorem QM{K:PySem.W.Frag}{r:R2}{F:D->D->Option D}{fa fb:CO D}(O:Snd K r F) : ∀σ H Q,tV K (zv F fa fb) σ H Q->tOp r (tV K fa) (tV K fb) σ H Q:=λσ H Q S=>by
 obtain⟨H0,γ,d,rc,z,q⟩:=S;obtain⟨x,e1,z⟩:=bind_some z;obtain⟨y,U,z⟩:=bind_some z;refine⟨H0,γ,x,rc,e1,λY H1 Z x1 r1=>⟨Z,γ,y,rc.ext x1,U,λv2 H2 a2 I r2=>?_⟩⟩;exact O a2 H2 Y v2 x y d Q I.sub (r1.mono I.s0) r2 z λv H' H0' x3 r3=>q v H' H0' (x1.trans (I.trans x3)) r3
theorem Ze{z:Operator}{r:R2}{F:D->D->Option D}{fa fb:CO D}(I:OpR X (binaryOp z) r)(O:Snd X.K r F)(ha:PV X a fa)(S:PV X b fb):PV X (.BinOp a z b pos) (zv F fa fb):=
 jY (zaB I ha S) (QM O)
theorem zbV{z:CmpOp}{r:R2}{F:D->D->Option D}{fa fb:CO D}(I:OpR X (compareOp z) r)(O:Snd X.K r F)(ha:PV X a fa)(S:PV X b fb)(hm:behindInMarks z b=false):PV X (.Compare a [z] [b] pos) (zv F fa fb):=
 jY (zde I ha S hm) (QM O)
theorem Ji{d:D}{b:Bool}(h:asB d=some b):d = .bl b:=by cases d<;>simp [asB]at h;rw [h]
theorem yJ{z:CmpOp}{r:R2}{F:D->D->Option D}{fa fb:CO D}(O:OpR X (compareOp z) r)(S:Snd X.K r F)(ha:PV X a fa)(U:PV X b fb)(hm:behindInMarks z b=false):PTD X (.Compare a [z] [b] pos) (sB (zv F fa fb)):=
 zat (Vf O ha U hm) λσ H Q Y=>by
  obtain⟨H0,γ,k,rc,I,q⟩:=Y;obtain⟨d,e1,I⟩:=bind_some I;refine QM S σ H _ ⟨H0,γ,d,rc,e1,λv H' H0' x r=>?_⟩;rw [Ji I]at r;exact⟨k,r,q H' H0' x⟩
theorem v6{f:CO D}(h:PV X e f)(he : ∀I,isTrue e X.env I=(do let v <- I;standAt e.pos;holding [v] (truthy v)):=by intro _;rfl):PTD X e (sB f):=
 zat (ze4 h he) λσ H Q O=>by
  obtain⟨H0,γ,k,rc,z,q⟩:=O;obtain⟨d,e1,z⟩:=bind_some z;refine⟨H0,γ,d,rc,e1,λv H' H0' x r=>?_⟩;rw [Ji z]at r;exact⟨k,r,q H' H0' x⟩
theorem zam{f:CO Bool}(h:PTD X a f):PWD X (.BoolOp .And [a] pos) f:=zcW h
theorem Y7{f:CO Bool}(h:PTD X a f):PWD X (.BoolOp .Or [a] pos) f:=zeU h
theorem zcV{f g:CO Bool}{rest:List Expr}(ha:PTD X a f)(I:PWD X (.BoolOp .And (b::rest) pos) g):PWD X (.BoolOp .And (a::b::rest) pos) (zcS f g):=
 zeW (zeV ha I) λσ H Q O=>by
  obtain⟨H0,γ,k,rc,z,q⟩:=O;obtain⟨c,e1,z⟩:=bind_some z;refine⟨H0,γ,c,rc,e1,λH' H0' x=>?_⟩;cases c with
  | true=>rw [if_pos rfl]at z ⊢;exact⟨H0',γ,k,rc.ext x,z,λH2 S U=>q H2 S (x.trans U)⟩
  | false=>rw [if_neg zjj]at z ⊢;cases z;exact q H' H0' x
theorem zbS{f g:CO Bool}{rest:List Expr}(ha:PTD X a f)(I:PWD X (.BoolOp .Or (b::rest) pos) g):PWD X (.BoolOp .Or (a::b::rest) pos) (zad f g):=
 zeW (zhb ha I) λσ H Q O=>by
  obtain⟨H0,γ,k,rc,z,q⟩:=O;obtain⟨c,e1,z⟩:=bind_some z;refine⟨H0,γ,c,rc,e1,λH' H0' x=>?_⟩;cases c with
  | true=>rw [if_pos rfl]at z ⊢;cases z;exact q H' H0' x
  | false=>rw [if_neg zjj]at z ⊢;exact⟨H0',γ,k,rc.ext x,z,λH2 S U=>q H2 S (x.trans U)⟩
theorem yI{f:CO Bool}(ha:PTD X a f):PTD X (.UnaryOp .Not a pos) (qk f):=
 zat (ze5 ha) λσ H Q I=>by
  obtain⟨H0,γ,k,rc,z,q⟩:=I;unfold qk at z;cases e1:f γ with
  | none=>rw [e1]at z;cases z
  | some c=>rw [e1]at z;cases z;exact⟨H0,γ,c,rc,e1,λH' H0' x=>q H' H0' x⟩
theorem zc2{f:CO Bool}(h:PWD X e f):PTD X e f:=h.pt
theorem Y9{z:BoolOp}{f:CO D}(h:PV X a f):PV X (.BoolOp z [a] pos) f:=zfd h
theorem Vd{f g:CO D}{rest:List Expr}(ha:PV X a f)(I:PV X (.BoolOp .And (b::rest) pos) g):PV X (.BoolOp .And (a::b::rest) pos) (zea f g):=
 jY (zfi ha I) λσ H Q O=>by
  obtain⟨H0,γ,d,rc,z,q⟩:=O;obtain⟨c,e1,z⟩:=bind_some z;obtain⟨S,U,e1⟩:=bind_some e1;refine⟨H0,γ,S,rc,U,λv H' H0' x r=>?_⟩;rw [Ji e1]at r;refine⟨c,r,?_⟩;cases c with
  | true=>rw [if_pos rfl]at z ⊢;exact⟨H0',γ,d,rc.ext x,z,λY H2 Z x2 r2=>q Y H2 Z (x.trans x2) r2⟩
  | false=>rw [if_neg zjj]at z ⊢;cases z;exact q _ H' H0' x (show V.bl false = .bl false from rfl)
theorem zeX{f:CO D}(ha:PV X a f):PV X (.UnaryOp .Not a pos) (zgk f):=
 jY (zfe ha) λσ H Q O=>by
  obtain⟨H0,γ,d,rc,z,q⟩:=O;unfold zgk at z;cases e1:f γ with
  | none=>rw [e1]at z;cases z
  | some I=>
   rw [e1]at z;refine⟨H0,γ,I,rc,e1,λv H' H0' x r=>?_⟩;cases I with
   | bl c=>cases z;exact⟨c,r,q _ H' H0' x (show V.bl (!c) = .bl (!c)from rfl)⟩
   | _=>cases z
theorem zao{k:CO Bool}{f g:CO D}(U:PTD X c k)(ha:PV X a f)(Y:PV X b g):PV X (.IfExp c a b pos) (JG k f g):=
 jY (pe_ifExp U ha Y) λσ H Q Z=>by
  obtain⟨H0,γ,d,rc,z,q⟩:=Z;obtain⟨t,e1,z⟩:=bind_some z;refine⟨H0,γ,t,rc,e1,λH' H0' x=>?_⟩;cases t with
  | true=>rw [if_pos rfl]at z ⊢;exact⟨H0',γ,d,rc.ext x,z,λI H2 O S r2=>q I H2 O (x.trans S) r2⟩
  | false=>rw [if_neg zjj]at z ⊢;exact⟨H0',γ,d,rc.ext x,z,λI H2 O S r2=>q I H2 O (x.trans S) r2⟩
theorem zdg:PAD X [] zu:=zfl jP λσ H Q z=>by
 obtain⟨H0,γ,ds,rc,I,q⟩:=z;cases I;exact q [] H H0 (Ext.refl rc.sub) Reps.nil
theorem zaF{es:List Expr}{f:CO D}{g:CO (List D)}(ha:PV X e f)(S:PAD X es g)(U:starEach (e::es) X.env=(false,eval e X.env)::starEach es X.env:=by rfl):PAD X (e::es) (za f g):=
 zfl (zS ha S U) λσ H Q Y=>by
  obtain⟨H0,γ,ds,rc,z,q⟩:=Y;obtain⟨x,e1,z⟩:=bind_some z;cases I:g γ with
  | none=>rw [I]at z;cases z
  | some r=>
   rw [I]at z;cases z;exact⟨H0,γ,x,rc,e1,λv H1 Z x1 r1=>⟨Z,γ,r,rc.ext x1,I,λvs H2 a1 O r2=>q (v::vs) H2 a1 (x1.trans O) (Reps.cons (r1.mono O.s0) r2)⟩⟩
theorem jC{es:List Expr}{x1:Nat}{f:CO (List D)}(h:PAD X es f):PV X (.Tuple es x1 pos) (jx f):=
 jY (zfc h) λσ H Q U=>by
  obtain⟨H0,γ,d,rc,z,q⟩:=U;obtain⟨ds,e1,z⟩:=bind_some z;by_cases I:ds.length<=lim
  ·rw [if_pos I]at z;cases z
   refine⟨H0,γ,ds,rc,e1,λvs H1 Y x1 O=>⟨k7 (by rw [O.length];exact I),λp S=>?_⟩⟩;exact q _ _ _ (x1.trans (Ext.alloc x1.sub S _)) (show ∃a xs,V.ref p = .ref a/\SqT X.K _ a xs/\Reps X.K _ ds xs from⟨p,vs,rfl,SqT.of zH,O.mono (z5 (jA x1.sub S) _)⟩)
  ·rw [if_neg I]at z;cases z
theorem v9{es:List Expr}{f:CO (List D)}(h:PAD X es f):PO X (.List es pos) (qB f):=
 jY (zff h) λσ H Q Y=>by
  obtain⟨H0,γ,d,rc,I,q⟩:=Y;obtain⟨ds,e1,I⟩:=bind_some I;by_cases S:ds.length<=lim
  ·rw [if_pos S]at I;cases I
   refine⟨H0,γ,_,rc,e1,λvs H1 Z x1 U=>⟨k7 (by rw [U.length];exact S),λp O=>?_⟩⟩;exact q p vs _ Z (x1.trans (Ext.hide x1.sub O _)) (by
    cases z:H p with
    | none=>rfl
    | some o=>rw [x1.s1 p o z]at O;cases O) (jA x1.sub O) zH U
  ·rw [if_neg S]at I;cases I
end
theorem xZ:entryFor table "dict.update.loop" = some Builtin.«dict.update.loop» :=entryFor_of_tree (by kernel_rfl)
theorem xR(args:Args):(Code.builtin "dict.update.loop" args).quiet=true:=Code.quiet_builtin _ ⋯
end DL
namespace L2
open PySem PySem.Spec PyProof.Rows
structure M2(X:Cx)(o:Expr)(m:Str)(apos:Pos)(e f:Expr)(cpos:Pos):Prop where
 base:attributeBase o m X.env (eval o X.env)=eval o X.env
 few:((backTo cpos (starEach [e,f] X.env)).all (λx=> !x.1) && (backToKw cpos (keywordEach [] X.env)).all (λx=>x.1.isSome)
  && decide (([e,f]:List Expr).length+([]:List Keyword).length+(if ([]:List Keyword).isEmpty then 0 else 1)<30))=true
 line:(apos.endLine==cpos.line)=true
 trees:backTo cpos (starEach [e,f] X.env)=[(false,eval e X.env),(false,eval f X.env)]
end L2
namespace DL
open PySem L2
def xo(ds:List D):List D:=(zi2 ds.length).map λ(i:Nat)=>D.tup [.int i,ds[i]?.getD .non]
def zae(f:CO D):CO (List D):=λγ=>(f γ).bind λd=>match d with
 | .tup ds=>some (xo ds)
 | _=>none
def VT:List D->Option (List Int)
 | []=>some []
 | .int i::r=>(VT r).map λl=>i::l
 | _::_=>none
def zd9(i:Nat)(F:CO Fl):CO Fl:=λγ=>(qW γ[i]?).bind λds=>F (γ.set i (.val (.lst ds)))
def wO:List D->Option (List Str)
 | []=>some []
 | .str x::r=>(wO r).map λl=>x::l
 | _::_=>none
def jf(x:Str):Bool:=decide (x.length<=1000)
def zcR(f:CO D)(g:CO (Sk×List D)):CO D:=λγ=>(f γ).bind λd=>(g γ).bind λa=>match d,a.1 with
 | .str sep,.L=>(wO a.2).bind λl=>if l.length<=lim/\l.all jf=true/\jf sep=true then some (.str (zmK sep l))else none
 | _,_=>none
def JE(f g:CO D):CO D:=λγ=>(f γ).bind λd=>((g γ).bind asI).bind λi=>match d with
 | .str z=>if jf z=true then (ixD z.cps.toList.length i).bind λk=>z.cps.toList[k]?.map λc=> .str ⟨#[c]⟩else none
 | _=>none
def JF(f:CO D):CO D:=λγ=>(f γ).bind λd=>match d with
 | .str z=>if jf z=true then some (.int z.length)else none
 | _=>none
def Qy(f g:CO D):CO D:=λγ=>((f γ).bind asI).bind λi=>((g γ).bind asI).map λj=> .int (if j<i then j else i)
abbrev Xn:=Str×Option Int
def xNo:CO Xn:=λ_=>none
def zcu(c:Str):CO Xn:=λ_=>some (c,none)
def zej(c:Str)(f:CO D):CO Xn:=λγ=>((f γ).bind asI).bind λi=>if inR i=true then some (c,some i)else none
def xIf(k:CO Bool)(G H:CO Xn):CO Xn:=λγ=>(k γ).bind λb=>if b=true then G γ else H γ
def zcr(G:CO Xn)(F:CO Fl)(H:CO Xn):CO Xn:=λγ=>match G γ with
 | some c=>some c
 | none=>(F γ).bind λz=>match z with
  | .next γ'=>H γ'
  | _=>none
def yc(G:List D->Option Xn)(g:CO (List D)):CO Xn:=λγ=>(g γ).bind G
def QC(n:Nat)(G:CO Xn)(ds:List D):Option Xn:=G (zP n ds)
def ziU(c:Str):Str:=if c==("NoRoom" : Str)then "room" else "at"
def ZN(f:CO D)(g:CO (Sk×List D)):CO D:=λγ=>(f γ).bind λd=>(g γ).bind λa=>(asI d).bind λi=>(VT a.2).map λl=> .bl (!decide (i∈l))
end DL
namespace DL
open PySem L2
open PySem.W (KasT kas_sort)
def qE(z:Str):List D:=z.cps.toList.map λc=>D.str ⟨#[c]⟩
def zbJ(f:CO D):CO (List D):=λγ=>(f γ).bind λd=>match d with
 | .str z=>if jf z=true then some (qE z)else none
 | _=>none
def yY(f:CO D):CO (List D):=λγ=>(f γ).bind λd=>match d with
 | .str z=>if jf z=true then some (xo (qE z))else none
 | _=>none
def Xz(f:CO D):CO (List D):=λγ=>(f γ).bind λd=>match d with
 | .lst ds=>some (xo ds)
 | _=>none
def zie(f:CO D)(g:CO (Sk×List D)):CO D:=λγ=>(f γ).bind λd=>(g γ).bind λa=>match d with
 | .str x=>(wO a.2).map λl=> .bl (l.any λy=>y==x)
 | _=>none
def zag(f g:CO D):CO D:=λγ=>(f γ).bind λd=>(g γ).bind λe=>match d,e with
 | .str x,.str y=>if jf x=true/\jf y=true then some (.str (x++y))else none
 | _,_=>none
def zhh:D->Option (Int×Int)
 | .tup [.int a,.int b]=>some (a,b)
 | _=>none
def zb5:List D->Option (List (Int×Int))
 | []=>some []
 | d::r=>(zhh d).bind λp=>(zb5 r).map λl=>p::l
def ziP(x y:Int×Int):Bool:=if x.1=y.1 then decide (x.2<y.2)else decide (x.1<y.1)
def zg6{α:Type}(lt:Nat->Nat->Bool):KasT α->α
 | .ret a=>a
 | .ask i j k=>zg6 lt (k (lt i j))
def QK(ps:List (Int×Int)):List Nat:=if ps.length<2 then zi2 ps.length else (zg6 (λi j=>ziP (ps.getD i (0,0)) (ps.getD j (0,0))) (kas_sort ps.length)).toList
def zeG(ds:List D):Option (List D):=(zb5 ds).bind λps=>if ds.length<64 then some ((QK ps).map λi=>ds.getD i .non)else none
def zbK(f:CO (Sk×List D)):CO (List D):=λγ=>(f γ).bind λa=>match a.1 with
 | .L=>zeG a.2
 | _=>none
end DL
namespace DL
open PySem L2
def QA(i:Nat)(f:CO (List D)):CO Fl:=λγ=>(qW γ[i]?).bind λds=>(f γ).bind λes=>if ds.length+es.length<=lim then some (.next (γ.set i (.own (ds++es))))else none
def XA(F G:List D->Option Res)(g:CO (List D)):CO (List D):=λγ=>(g γ).bind λl=>match l with
 | [p,.str z,t,b]=>((if z=("r" : Str)then F else G) [p,t,b]).bind zeb
 | _=>none
def yO:List D->Option (List Int)
 | []=>some []
 | .int i::r=>(yO r).map λl=>i::l
 | _::_=>none
def zbe(ds es:List D):Option D:=match yO ds with
 | some ns=>if ds.length=es.length/\ns.Nodup/\ds.length<=lim then some (.dic ds es)else none
 | none=>none
def zef:List D->List D->Int->Option D
 | k::ks,v::vs,i=>match k with
  | .int j=>if j=i then some v else zef ks vs i
  | _=>zef ks vs i
 | _,_,_=>none
open PySem.Spec PyProof.Rows
structure RS(K:PySem.W.Frag)(E0 E H0 H:Hp)(σ:St)(γ:Ctx):Prop where
 rc:RC K H0 H σ γ
 ext:Ext E0 E H0 H
 fresh : ∀(i:Nat) ds a,γ[i]? = some (.own ds)->σ[i]? = some (some (.ref a))->E a=none
 fr2 : ∀(i:Nat) rows a xs,γ[i]? = some (.nest rows)->σ[i]? = some (some (.ref a))->H a=some (.lst xs)->E a=none/\∀b,V.ref b∈xs->E b=none
def Sat(K:PySem.W.Frag)(E0 E:Hp)(D:Ends):Fl->Prop
 | .next γ=>∀σ H H0,RS K E0 E H0 H σ γ->D.nx σ H
 | .brk γ=>∀σ H H0,RS K E0 E H0 H σ γ->D.bk σ H
 | .cont γ=>∀σ H H0,RS K E0 E H0 H σ γ->D.ct σ H
 | .ret (.val d)=>∀v H H0,Ext E0 E H0 H->Rep K H0 d v->D.rt v H
 | .ret (.own es)=>∀a xs H H0,Ext E0 E H0 H->E a=none->H0 a=none->H a=some (.lst xs)->Reps K H0 es xs->D.rt (.ref a) H
def tS(K:PySem.W.Frag)(F:CO Fl):TS:=λD σ H=>∃E0 E H0 γ z,RS K E0 E H0 H σ γ/\F γ=some z/\Sat K E0 E D z
abbrev PSD(X:Cx)(st:Stmt)(F:CO Fl):Prop:=PS X st (tS X.K F)
abbrev Yu(X:Cx)(sts:List Stmt)(F:CO Fl):Prop:=PSs X sts (tS X.K F)
section
variable{K:PySem.W.Frag}{E0 E H0 H H0' H':Hp}{σ:St}{γ:Ctx}
theorem RS.step(r:RS K E0 E H0 H σ γ)(e:Ext H0 H H0' H'):RS K E0 E H0' H' σ γ:=⟨r.rc.ext e,r.ext.trans e,r.fresh,λi rows a xs h1 h2 I=>by
 obtain⟨O,bs,z,g2,_⟩:=r.rc.nst.1 i rows h1;rw [h2]at z;cases z;have:=e.s1 a _ g2.ha;rw [I]at this;cases this;exact r.fr2 i rows a _ h1 h2 g2.ha⟩
theorem zM{α:Type}{l:List α}{i j:Nat}{x y:α}(h:(l.set i x)[j]? = some y):(j=i/\y=x/\i<l.length)\/(j≠i/\l[j]? = some y):=by
 by_cases e:i=j
 ·subst e
  by_cases z:i<l.length
  ·rw [zjU z]at h;cases h;exact .inl ⟨rfl,rfl,z⟩
  ·rw [List.set_eq_of_length_le ⋯]at h
   exact absurd (zjp.mp h).1 z
 ·rw [zjc e]at h;exact .inr ⟨zj6 e,h⟩
theorem NestOk.setVal{i:Nat}{d:D}{v:V}(n:NestOk K H0 H σ γ):NestOk K H0 H (σ.set i (some v)) (γ.set i (.val d)):=
 ⟨λj rows e=>by
  rcases zM e with⟨_,z,_⟩ | ⟨O,z⟩
  ·cases z
  ·obtain⟨a,bs,h1,h2,S⟩:=n.1 j rows z
   refine⟨a,bs,by rw [zjc (zj6 O)];exact h1,h2,λk ds c e1 I=>?_⟩;rcases zM e1 with⟨_,z,_⟩ | ⟨U,z1⟩
   ·cases z
   ·rw [zjc (zj6 U)]at I;exact S k ds c z1 I,
 λj k Y r2 e1 I=>by
  rcases zM e1 with⟨_,z,_⟩ | ⟨_,z1⟩
  ·cases z
  ·rcases zM I with⟨_,z,_⟩ | ⟨_,z2⟩
   ·cases z
   ·exact n.2 j k Y r2 z1 z2⟩
theorem RC.setVal{i:Nat}{d:D}{v:V}(r:RC K H0 H σ γ)(h:Rep K H0 d v):RC K H0 H (σ.set i (some v)) (γ.set i (.val d)):=by
 refine⟨r.sub,by simp [r.len],λj d' e=>?_,λj ds e=>?_,λj k a ds es e1 Z S U=>?_,r.nst.setVal⟩
 ·rcases zM e with⟨rfl,z,Y⟩ | ⟨I,z⟩
  ·cases z;exact⟨v,zjU (by rw [r.len];exact Y),h⟩
  ·obtain⟨v',O,g2⟩:=r.val j d' z
   exact⟨v',by rw [zjc (zj6 I)];exact O,g2⟩
 ·rcases zM e with⟨rfl,z,Y⟩ | ⟨I,z⟩
  ·cases z
  ·obtain⟨a,xs,O,g2⟩:=r.own j ds z
   exact⟨a,xs,by rw [zjc (zj6 I)];exact O,g2⟩
 ·rcases zM e1 with⟨_,z,_⟩ | ⟨I,z1⟩
  ·cases z
  ·rcases zM Z with⟨_,z,_⟩ | ⟨hk,z2⟩
   ·cases z
   ·rw [zjc (zj6 I)]at S
    rw [zjc (zj6 hk)]at U;exact r.ne j k a ds es z1 z2 S U
theorem RS.setVal{i:Nat}{d:D}{v:V}(r:RS K E0 E H0 H σ γ)(h:Rep K H0 d v):RS K E0 E H0 H (σ.set i (some v)) (γ.set i (.val d)):=
 ⟨r.rc.setVal h,r.ext,λj ds a e1 I=>by
  rcases zM e1 with⟨_,z,_⟩ | ⟨O,z⟩
  ·cases z
  ·rw [zjc (zj6 O)]at I;exact r.fresh j ds a z I,
 λj rows a xs e1 I S=>by
  rcases zM e1 with⟨_,z,_⟩ | ⟨O,z⟩
  ·cases z
  ·rw [zjc (zj6 O)]at I;exact r.fr2 j rows a xs z I S⟩
theorem wj : ∀{z bs:List Addr},z.map V.ref=bs.map V.ref->z=bs
 | [],[],_=>rfl
 | [],_::_,h=>by cases h
 | _::_,[],h=>by cases h
 | a::z,b::bs,h=>by
  rw [zjw,zjw]at h;injection h with h1 h2;injection h1 with h1;rw [h1,wj h2]
theorem RS.setOwn{i:Nat}{es:List D}{a:Addr}{xs:List V}{G0 G:Hp}(r:RS K E0 E G0 G σ γ)(e:Ext G0 G H0 H)(h1:G a=none)(h2:H0 a=none)(h3:H a=some (.lst xs))(h4:Reps K H0 es xs) :
 RS K E0 E H0 H (σ.set i (some (.ref a))) (γ.set i (.own es)):=by
 have rc:=r.rc.ext e;have no : ∀(j:Nat) ds,γ[j]? = some (.own ds)->¬σ[j]? = some (some (.ref a)):=λj ds g z=>by
  obtain⟨b,ys,I,g2,g3,_⟩:=r.rc.own j ds g;rw [z]at I;cases I;rw [h1]at g3;cases g3
 refine⟨⟨rc.sub,by simp [rc.len],λj d' g=>?_,λj ds g=>?_,λj k b ds fs e1 U Y Z=>?_,⟨λj rows g=>?_,λj k r1 r2 I g2=>?_⟩⟩,r.ext.trans e,λj ds b I g2=>?_,λj rows b xs I g2 g3=>?_⟩
 ·rcases zM g with⟨_,z,_⟩ | ⟨O,z⟩
  ·cases z
  ·obtain⟨v',I,g2⟩:=rc.val j d' z
   exact⟨v',by rw [zjc (zj6 O)];exact I,g2⟩
 ·rcases zM g with⟨rfl,z,S⟩ | ⟨O,z⟩
  ·cases z;exact⟨a,xs,zjU (by rw [rc.len];exact S),h2,h3,h4⟩
  ·obtain⟨b,ys,I,g2⟩:=rc.own j ds z
   exact⟨b,ys,by rw [zjc (zj6 O)];exact I,g2⟩
 ·rcases zM e1 with⟨rfl,z,S⟩ | ⟨O,z1⟩
  ·rcases zM U with⟨rfl,_,_⟩ | ⟨hk,z2⟩
   ·rfl
   ·rw [zjU (by rw [rc.len];exact S)]at Y
    rw [zjc (zj6 hk)]at Z;cases Y;exact absurd Z (no k fs z2)
  ·rcases zM U with⟨rfl,z,S⟩ | ⟨hk,z2⟩
   ·rw [zjU (by rw [rc.len];exact S)]at Z
    rw [zjc (zj6 O)]at Y;cases Z;exact absurd Y (no j ds z1)
   ·rw [zjc (zj6 O)]at Y
    rw [zjc (zj6 hk)]at Z;exact rc.ne j k b ds fs z1 z2 Y Z
 ·rcases zM g with⟨_,z,_⟩ | ⟨O,z⟩
  ·cases z
  ·obtain⟨b,bs,I,g2,g3⟩:=r.rc.nst.1 j rows z
   obtain⟨b',a2,f1,f2,f3⟩:=rc.nst.1 j rows z;rw [I]at f1;cases f1;have eb:a2.map V.ref=bs.map V.ref:=by
    have:=e.s1 b _ g2.ha;rw [f2.ha]at this;injection this with this;injection this
   have ab:a2=bs:=wj eb;subst ab;refine⟨b,a2,by rw [zjc (zj6 O)];exact I,f2,λk ds c e1 U=>?_⟩;rcases zM e1 with⟨rfl,_,S⟩ | ⟨hk,z1⟩
   ·rw [zjU (by rw [rc.len];exact S)]at U;cases U
    intro hm;obtain⟨_,ad,q⟩:=g2.at hm;rw [h1]at q;cases q
   ·rw [zjc (zj6 hk)]at U;exact f3 k ds c z1 U
 ·rcases zM I with⟨_,z,_⟩ | ⟨_,z1⟩
  ·cases z
  ·rcases zM g2 with⟨_,z,_⟩ | ⟨_,z2⟩
   ·cases z
   ·exact rc.nst.2 j k r1 r2 z1 z2
 ·rcases zM I with⟨rfl,z,S⟩ | ⟨O,z⟩
  ·rw [zjU (by rw [rc.len];exact S)]at g2;cases g2
   cases q:E a with
   | none=>rfl
   | some o=>rw [r.ext.s1 a o q]at h1;cases h1
  ·rw [zjc (zj6 O)]at g2;exact r.fresh j ds b z g2
 ·rcases zM I with⟨_,z,_⟩ | ⟨O,z⟩
  ·cases z
  ·rw [zjc (zj6 O)]at g2;exact(r.step e).fr2 j rows b xs z g2 g3
theorem RS.rewrite{i:Nat}{ds es:List D}{a:Addr}{xs ys:List V}(r:RS K E0 E H0 H σ γ)(hi:γ[i]? = some (.own ds))(S:σ[i]? = some (some (.ref a)))(h4:Reps K H0 es ys) :
 RS K E0 E H0 (upd H a (.lst ys)) σ (γ.set i (.own es)):=by
 obtain⟨a',ab,g1,g2,g3,g4⟩:=r.rc.own i ds hi;rw [S]at g1;cases g1;have ae:i<γ.length:=(zjp.mp hi).1;refine⟨⟨λb o q=>?_,by simp [r.rc.len],λj d' g=>?_,λj fs g=>?_,λj k b fs gs e1 I Z e4=>?_,⟨λj rows g=>?_,λj k r1 r2 e1 I=>?_⟩⟩,⟨r.ext.s0,λb o q=>?_,λb o q=>?_,r.ext.new⟩,λj fs b e1 I=>?_,λj rows b zs e1 I Z=>?_⟩
 ·rw [zJ (λz=>by rw [z,g2]at q;cases q)];exact r.rc.sub b o q
 ·rcases zM g with⟨_,z,_⟩ | ⟨hj,z⟩
  ·cases z
  ·exact r.rc.val j d' z
 ·rcases zM g with⟨rfl,z,hl⟩ | ⟨hj,z⟩
  ·cases z;exact⟨a,ys,S,g2,zH,h4⟩
  ·obtain⟨b,zs,O,U,Y,f4⟩:=r.rc.own j fs z
   refine⟨b,zs,O,U,?_,f4⟩;rw [zJ (λq=>hj (r.rc.ne j i a fs ds z hi (by rw [O,q]) S))];exact Y
 ·have c1 : ∃fs',γ[j]? = some (.own fs'):=by
   rcases zM e1 with⟨q,_,_⟩ | ⟨_,z⟩
   ·exact⟨ds,by rw [q];exact hi⟩
   ·exact⟨fs,z⟩
  have c2 : ∃fs',γ[k]? = some (.own fs'):=by
   rcases zM I with⟨q,_,_⟩ | ⟨_,z⟩
   ·exact⟨ds,by rw [q];exact hi⟩
   ·exact⟨gs,z⟩
  obtain⟨O,z1⟩:=c1;obtain⟨U,z2⟩:=c2;exact r.rc.ne j k b O U z1 z2 Z e4
 ·rcases zM g with⟨_,z,_⟩ | ⟨hj,z⟩
  ·cases z
  ·obtain⟨b,bs,O,U,Y⟩:=r.rc.nst.1 j rows z
   have a3:=Y i ds a hi S;refine⟨b,bs,O,U.move (Same.refl _) (λc hc=>(U.at hc).1) (λc hc=>zJ λq=>a3 (q ▸ hc)),λk fs c e1 I=>?_⟩;rcases zM e1 with⟨q,_,_⟩ | ⟨_,z1⟩
   ·rw [q,S]at I;cases I;exact a3
   ·exact Y k fs c z1 I
 ·rcases zM e1 with⟨_,z,_⟩ | ⟨_,z1⟩
  ·cases z
  ·rcases zM I with⟨_,z,_⟩ | ⟨_,z2⟩
   ·cases z
   ·exact r.rc.nst.2 j k r1 r2 z1 z2
 ·rw [zJ (λz=>by rw [z,r.fresh i ds a hi S]at q;cases q)];exact r.ext.s1 b o q
 ·rw [zJ (λz=>by rw [z,g2]at q;cases q)];exact r.ext.sub b o q
 ·rcases zM e1 with⟨q,_,_⟩ | ⟨_,z⟩
  ·rw [q]at I;exact r.fresh i ds b hi I
  ·exact r.fresh j fs b z I
 ·rcases zM e1 with⟨_,z,_⟩ | ⟨hj,z⟩
  ·cases z
  ·obtain⟨b',bs,O,U,Y⟩:=r.rc.nst.1 j rows z
   rw [I]at O;cases O;rw [zJ (show b≠a from λq=>Y i ds a hi S (by rw [q];exact zju))]at Z;exact r.fr2 j rows b zs z I Z
end
section
variable{X:Cx}{e a b c:Expr}{pos:Pos}{st:Stmt}{rest:List Stmt}
theorem j6:Yu X [] j9:=zbY Vg λD σ H z=>by
 obtain⟨E0,E,H0,γ,S,rs,I,O⟩:=z;cases I;exact O σ H H0 rs
theorem zg{F G:CO Fl}(h1:PSD X st F)(h2:Yu X rest G):Yu X (st::rest) (zI F G):=zbY (yl h1 h2) λD σ H S=>by
 obtain⟨E0,E,H0,γ,U,rs,z,I⟩:=S;obtain⟨O,e1,z⟩:=bind_some z;refine⟨E0,E,H0,γ,O,rs,e1,?_⟩;cases O with
 | next γ'=>exact λσ' H' H0' Y=>⟨E0,E,H0',γ',U,Y,z,I⟩
 | brk γ'=>cases z;exact I
 | cont γ'=>cases z;exact I
 | ret r=>cases z;cases r<;>exact I
theorem zx{F:CO Fl}(h1:PSD X st F):Yu X [st] F:=yK h1
theorem zB{α β:Type}{o:Option α}{f:α->β}{y:β}(h:o.map f=some y) : ∃x,o=some x/\f x=y:=by
 cases o with
 | none=>cases h
 | some x=>exact⟨x,rfl,by simpa using h⟩
theorem jk{f:CO D}(h:PV X e f):PSD X (.Return (some e) pos) (j3 f):=qZ (Zh h) λD σ H I=>by
 obtain⟨E0,E,H0,γ,S,rs,z,O⟩:=I;obtain⟨d,e1,z⟩:=zB z;subst z;exact⟨H0,γ,d,rs.rc,e1,λv H' H0' x r=>O v H' H0' (rs.ext.trans x) r⟩
theorem ZR{f:CO (List D)}(h:PO X e f):PSD X (.Return (some e) pos) (xD f):=qZ (Zh h) λD σ H I=>by
 obtain⟨E0,E,H0,γ,U,rs,z,O⟩:=I;obtain⟨ds,e1,z⟩:=zB z;subst z;refine⟨H0,γ,ds,rs.rc,e1,λa xs H' H0' x h1 h2 S r=>O a xs H' H0' (rs.ext.trans x) ?_ h2 S r⟩;cases q:E a with
 | none=>rfl
 | some o=>rw [rs.ext.s1 a o q]at h1;cases h1
theorem qI(i:Nat)(h:PE X e (vP i)):PSD X (.Return (some e) pos) (k5 i):=qZ (Zh h) λD σ H O=>by
 obtain⟨E0,E,H0,γ,Y,rs,z,I⟩:=O;unfold k5 at z;cases e1:γ[i]? with
 | none=>rw [e1]at z;cases z
 | some c=>
  rw [e1]at z;cases c with
  | no=>cases z
  | val d=>
   cases z;obtain⟨v,h1,h2⟩:=rs.rc.val i d e1;exact⟨v,h1,I v H H0 rs.ext h2⟩
  | nest rows=>cases z
  | own ds=>
   cases z;obtain⟨a,xs,h1,h2,S,U⟩:=rs.rc.own i ds e1;exact⟨_,h1,I a xs H H0 rs.ext (rs.fresh i ds a e1 h1) h2 S U⟩
theorem JO:PSD X (.Continue pos) zaf:=qZ QI λD σ H ⟨E0,E,H0,γ,O,rs,z,I⟩=>by cases z;exact I σ H H0 rs
theorem xS:PSD X st kS:=qZ zav λD σ H ⟨E0,E,H0,γ,I,rs,z,O⟩=>by cases z
theorem xK{k:CO Bool}{F G:CO Fl}{x y:List Stmt}(S:PTD X c k)(ha:Yu X x F)(U:Yu X y G):PSD X (.If c x y pos) (sIf k F G):=qZ (ze7 S ha U) λD σ H Y=>by
 obtain⟨E0,E,H0,γ,I,rs,z,O⟩:=Y;obtain⟨t,e1,z⟩:=bind_some z;refine⟨H0,γ,t,rs.rc,e1,λH' H0' x=>?_⟩;cases t with
 | true=>rw [if_pos rfl]at z ⊢;exact⟨E0,E,H0',γ,I,rs.step x,z,O⟩
 | false=>rw [if_neg zjj]at z ⊢;exact⟨E0,E,H0',γ,I,rs.step x,z,O⟩
theorem zZ(i:Nat){f:CO D}(h:PS X st (Ky (tV X.K f) (xW i))):PSD X st (zU i f):=qZ h λD σ H I=>by
 obtain⟨E0,E,H0,γ,S,rs,z,O⟩:=I;obtain⟨d,e1,z⟩:=zB z;subst z;exact⟨H0,γ,d,rs.rc,e1,λv H' H0' x r=>O _ _ H0' ((rs.step x).setVal r)⟩
theorem xf(i:Nat){f:CO (List D)}(h:PS X st (Ky (tO X.K f) (xW i))):PSD X st (xm i f):=qZ h λD σ H I=>by
 obtain⟨E0,E,H0,γ,U,rs,z,O⟩:=I;obtain⟨ds,e1,z⟩:=zB z;subst z;exact⟨H0,γ,ds,rs.rc,e1,λa xs H' H0' x h1 h2 S r=>O _ _ H0' (rs.setOwn x h1 h2 S r)⟩
theorem kc{o:Option Cell}{ds:List D}(h:qW o=some ds):o=some (.own ds):=by
 cases o with
 | none=>cases h
 | some c=>cases c<;>simp [qW]at h;rw [h]
theorem KQ(i:Nat){f:CO D}(h:PE X e (tBM X.K "list" Y4 (vP i) (vQ (tV X.K f) zd8)))(U:swapsWith e none pos.line X.env=pure false:=by rfl):PSD X (.Expr e pos) (qR i f):=
 qZ (QH h U) λD σ H Y=>by
  obtain⟨E0,E,H0,γ,fl,rs,z,Z⟩:=Y;obtain⟨ds,e1,z⟩:=bind_some z;obtain⟨d,e2,z⟩:=bind_some z;have e1:=kc e1;by_cases I:ds.length<lim
  ·rw [if_pos I]at z;cases z
   obtain⟨a,xs,h1,h2,O,S⟩:=rs.rc.own i ds e1;refine⟨_,h1,.inl ⟨rfl,_,SqL.of O⟩,H0,γ,d,rs.rc,e2,λv H' H0' x r=>?_⟩;have a1:=rs.step x;have a2:=x.s1 _ _ O;refine⟨a,xs,v,rfl,rfl,a2,?_,?_⟩
   ·exact zjr (by rw [S.length];exact I) (k7 (zjb _))
   ·exact Z _ _ H0' (a1.rewrite (xs:=xs) e1 h1 ((S.mono x.s0).append (Reps.cons r Reps.nil)))
  ·rw [if_neg I]at z;cases z
end
def ziB(K:PySem.W.Frag)(H0 H:Hp)(Q:VK):Res->Prop
 | .val d=>∀v H' H0',Ext H0 H H0' H'->Rep K H0' d v->Q v H'
 | .own es=>∀a xs H' H0',Ext H0 H H0' H'->H a=none->H0' a=none->H' a=some (.lst xs)->Reps K H0' es xs->Q (.ref a) H'
def spF(K:PySem.W.Frag)(n:Nat)(F:List D->Option Res):Sp:=λvs H Q _=>∃H0 ds r,Same H0 H/\Reps K H0 ds vs/\ds.length=n/\F ds=some r/\ziB K H0 H Q r
theorem spF.len{K:PySem.W.Frag}{n:Nat}{F:List D->Option Res}{ps:List Str}(hn:ps.length=n) : ∀vs H Q E,spF K n F vs H Q E->vs.length=ps.length:=λvs H Q E h=>by
 obtain⟨H0,ds,r,_,h1,h2,_⟩:=h;rw [h1.length,h2,hn]
section
variable{P:Program}{w:World}{K:PySem.W.Frag}{mg:Str->Option Value}{base:Heap}
theorem zaj{H0 H:Hp}{N:List Str}{ds:List D}{vs:List V}(s:Same H0 H)(h:Reps K H0 ds vs)(hn:ds.length<=N.length):RS K H0 H H0 H (start N vs) (zP N.length ds):=by
 have z:=h.length;refine⟨⟨s,by simp [L2.start,zP,z],λi d e=>?_,λi es e=>?_,λi j a es fs e _ _ _=>?_,NestOk.nil0 λi rows e=>?_⟩,Ext.refl s,λi es a e _=>?_,λi rows a xs e _ _=>?_⟩
 all_goals unfold zP at e
 ·by_cases hi:i<ds.length
  ·rw [zkb (by simpa using hi),zjR]at e
   cases e1:ds[i]? with
   | none=>rw [e1]at e;cases e
   | some d'=>
    rw [e1]at e;cases e;obtain⟨x,I,g2⟩:=h.get e1;refine⟨x,?_,g2⟩;unfold L2.start;rw [zkb (by simp;omega),zjR,I];rfl
  ·rw [zjV (by simpa using hi),zli]at e
   split at e<;>cases e
 all_goals
  by_cases hi:i<ds.length
  ·rw [zkb (by simpa using hi),zjR]at e
   cases e1:ds[i]? with
   | none=>rw [e1]at e;cases e
   | some d'=>rw [e1]at e;cases e
  ·rw [zjV (by simpa using hi),zli]at e
   split at e<;>cases e
theorem zfV{x qual:Str}{st:Stmt}{f:Addr}{fd:FuncData}{N ps:List Str}{k:Nat}{F:CO Fl}(U:L2.Fun K x qual st f fd)(S:FnScope N ps (defScope st))
 (Y : ∀(cdv:Value) (A:Around) (outer:List Env) (s:Shared) (H:Hp) (E:XK),Room k (A.deeper (envOfC qual (defScope st) s.heap.objs.size f cdv))->Yu (zdM CX0 P w K mg base N qual (defScope st) f cdv A outer s H E).nox (defBody st) F) :
 FnOk P w K mg base CX0 (k+1) f fd ps (spF K ps.length (ja N.length F)):=by
 refine U.ok S (spF.len rfl) (λcdv A outer s H vs Q E Z h=>⟨_,Y cdv A outer s H E Z,?_⟩);obtain⟨H0,ds,r,s0,h1,h2,h3,I⟩:=h;obtain⟨O,e1,z⟩:=bind_some h3;have a1:ps.length<=N.length:=by have:=congrArg zmv S.pre;rw [zld]at this;omega
 refine⟨H0,H,H0,zP N.length ds,O,zaj s0 h1 ⋯,e1,?_⟩;cases O with
 | ret r'=>cases z;cases r<;>exact I
 | next γ=>cases z;exact λσ' H' H0' rs=>I .non H' H0' rs.ext (show V.non = .non from rfl)
 | brk γ=>cases z
 | cont γ=>cases z
end
section
variable{X:Cx}{es:List Expr}{pos p:Pos}{k:Nat}{f:Addr}{fd:FuncData}{ps:List Str}{x:Str}{F:List D->Option Res}{g:CO (List D)}
theorem zc1{A0:List Expr}(G:FnOk X.prog X.w X.K X.mg X.base CX0 k f fd ps (spF X.K ps.length F))(ha:PAD X es g)(U : ∀γ ds,g γ=some ds->ds.length=ps.length)
 (Y : ∀{t:TA},PA X es t->PE X (.Call (.Name x p) es [] pos) (W6 (spF X.K ps.length F) [] E0 t)):PV X (.Call (.Name x p) es [] pos) (zn F g):=
 jY (Y ha) λσ H Q Z=>by
  obtain⟨H0,γ,d,rc,z,q⟩:=Z;obtain⟨ds,e1,z⟩:=bind_some z;obtain⟨r,e2,z⟩:=zB z;refine⟨H0,γ,ds,rc,e1,λvs H1 a1 x1 r1=>⟨a1,ds,r,x1.sub,by simpa using r1,U γ ds e1,e2,?_⟩⟩;subst z;cases r with
  | val d=>exact λv H' H0' I r2=>q v H' H0' (x1.trans I) r2
  | own fs=>
   refine λa xs H' H0' I h1 h2 h3 r2=>q _ H' _ (x1.trans (I.show h1 h2 h3 x1.sub)) ?_;exact(show ∃O S,V.ref a = .ref O/\SqL X.K _ O S/\Reps X.K _ fs S from⟨a,xs,rfl,SqL.of zH,r2.mono (z5 h2 _)⟩)
theorem zc7(G:FnOk X.prog X.w X.K X.mg X.base CX0 k f fd ps (spF X.K ps.length F))(ha:PAD X es g)(O : ∀γ ds,g γ=some ds->ds.length=ps.length)
 (S : ∀{t:TA},PA X es t->PE X (.Call (.Name x p) es [] pos) (W6 (spF X.K ps.length F) [] E0 t)):PO X (.Call (.Name x p) es [] pos) (jg F g):=
 jY (S ha) λσ H Q U=>by
  obtain⟨H0,γ,fs,rc,I,q⟩:=U;obtain⟨ds,e1,I⟩:=bind_some I;obtain⟨r,Y,I⟩:=bind_some I;refine⟨H0,γ,ds,rc,e1,λvs H1 Z x1 r1=>⟨Z,ds,r,x1.sub,by simpa using r1,O γ ds e1,Y,?_⟩⟩;cases r with
  | val d=>cases I
  | own gs=>
   cases I;exact λa xs H' H0' x2 h1 h2 h3 r2=>q a xs H' H0' (x1.trans x2) (by
    cases z:H a with
    | none=>rfl
    | some o=>rw [x1.s1 a o z]at h1;cases h1) h2 h3 r2
end
structure Walk(K:PySem.W.Frag)(H0 Hs:Hp)(J:It)(ds:List D):Prop where
 go : ∀i H1,Same Hs H1->i<ds.length->J.go i H1
 stop : ∀H1,Same Hs H1->J.stop ds.length H1
 yld : ∀i H1 x H1',Same Hs H1->i<ds.length->J.yld i H1 x H1'->∃d,ds[i]? = some d/\∀G0,Same H0 G0->Same G0 H1->∃G0',Ext G0 H1 G0' H1'/\Rep K G0' d x
theorem Walk.weak{K:PySem.W.Frag}{H0 Hs z:Hp}{J:It}{ds:List D}(w:Walk K H0 Hs J ds)(s:Same Hs z):Walk K H0 z J ds:=
 ⟨λi H1 h=>w.go i H1 (s.trans h),λH1 h=>w.stop H1 (s.trans h),λi H1 x H1' h=>w.yld i H1 x H1' (s.trans h)⟩
theorem ZG{k:Sk}{K:PySem.W.Frag}{H0 Hs:Hp}{a:Addr}{xs:List V}{ds:List D}(h:SqK k K Hs a xs)(r:Reps K H0 ds xs):Walk K H0 Hs (Itk k K a) ds:=by
 have O:=r.length;refine⟨λi H1 s hi=>?_,λH1 s=>?_,λi H1 x H1' s hi y=>?_⟩
 ·have hx:i<xs.length:=by omega
  cases k with
  | L=>exact⟨xs,xs[i],s.seq h,zi8 hx⟩
  | T=>exact⟨xs,xs[i],sameT s h,zi8 hx⟩
 ·cases k with
  | L=>exact⟨xs,s.seq h,by omega⟩
  | T=>exact⟨xs,sameT s h,by omega⟩
 ·have e:H1'=H1/\xs[i]? = some x:=by
   cases k with
   | L=>exact⟨y.1,y.2 xs (s.seq h)⟩
   | T=>exact⟨y.1,y.2 xs (sameT s h)⟩
  obtain⟨e1,z⟩:=e;subst e1;obtain⟨d,hd,I⟩:=r.getV z;exact⟨d,hd,λG0 s1 s2=>⟨G0,Ext.refl s2,I.mono s1⟩⟩
theorem yH(lo:Int)(n:Nat):(qi lo n).length=n:=by simp [qi]
theorem wX{K:PySem.W.Frag}{H0 Hs:Hp}(lo:Int)(n:Nat):Walk K H0 Hs (Itr lo n) (qi lo n):=by
 refine⟨λi H1 s hi=>?_,λH1 s=>?_,λi H1 x H1' s hi y=>?_⟩
 ·rw [yH]at hi;exact hi
 ·rw [yH];exact zjb _
 ·rw [yH]at hi
  obtain⟨e1,z⟩:=y;subst e1 z;exact⟨.int (lo+i),by simp [qi,hi],λG0 s1 s2=>⟨G0,Ext.refl s2,(show V.int (lo+i) = .int (lo+i)from rfl)⟩⟩
theorem WX{I O:Sk}{K:PySem.W.Frag}{H0 Hs:Hp}{a b:Addr}{xs ys:List V}{ds es:List D}(h1:SqK I K Hs a xs)(S:Reps K H0 ds xs)(h2:SqK O K Hs b ys)(r2:Reps K H0 es ys) :
 Walk K H0 Hs (Itz I O K a b) (yC ds es):=by
 have l1:=S.length;have l2:=r2.length;have Z:(yC ds es).length=min ds.length es.length:=by simp [yC]
 refine⟨λi H1 s hi=>?_,λH1 s=>?_,λi H1 x H1' s hi y=>?_⟩
 ·exact⟨xs,ys,xt s h1,xt s h2,by omega,by omega⟩
 ·refine⟨xs,ys,xt s h1,xt s h2,?_⟩
  rw [Z];omega
 ·obtain⟨p,u,v,e1,z,e2,g1,g2⟩:=y
  obtain⟨d,hd,hr⟩:=S.getV (g1 xs (xt s h1));obtain⟨c,hc,a4⟩:=r2.getV (g2 ys (xt s h2));refine⟨.tup [d,c],?_,λG0 s1 s2=>⟨upd G0 p (.tup [u,v]),?_,?_⟩⟩
  ·have a5:(ds.zip es)[i]? = some (d,c):=zla.mpr ⟨hd,hc⟩
   simp [yC,a5]
  ·rw [e2];exact Ext.alloc s2 z _
  ·rw [e1]
   exact(show ∃U Y,V.ref p = .ref U/\SqT K _ U Y/\Reps K _ [d,c] Y from⟨p,[u,v],rfl,SqT.of zH,Reps.cons ((hr.mono s1).mono (z5 (jA s2 z) _)) (Reps.cons ((a4.mono s1).mono (z5 (jA s2 z) _)) Reps.nil)⟩)
def tIc(K:PySem.W.Frag)(src:CO (List D)):TI:=λσ H R=>∃H0 γ ds,RC K H0 H σ γ/\src γ=some ds/\∀J H' H0',Ext H0 H H0' H'->Walk K H0' H' J ds->R J H'
def tIf(K:PySem.W.Frag)(src:CO (List D)):TI:=λσ H R=>∃H0 γ ds,RC K H0 H σ γ/\src γ=some ds/\∀J H' H0',Ext H0 H H0' H'->Walk K H0' H0' J ds->R J H'
abbrev PIC(X:Cx)(tg e:Expr)(src:CO (List D)):Prop:=PI X tg e (tIc X.K src)
abbrev PIF(X:Cx)(tg e:Expr)(src:CO (List D)):Prop:=PI X tg e (tIf X.K src)
section
variable{X:Cx}{tg e a b:Expr}{pos p:Pos}
theorem PIF.c{src:CO (List D)}(h:PIF X tg e src):PIC X tg e src:=JQ h λσ H R ⟨H0,γ,ds,rc,z,q⟩=>⟨H0,γ,ds,rc,z,λJ H' H0' x w=>q J H' H0' x (w.weak x.sub)⟩
theorem jM{f:CO (Sk×List D)}(h:PQ X e f):PIC X tg e (zG f):=JQ (zb3 h) λσ H R z=>by
 obtain⟨H0,γ,ds,rc,I,q⟩:=z;obtain⟨⟨k,es⟩,e1,O⟩:=zB I;subst O;exact⟨H0,γ,k,es,rc,e1,λa xs H' H0' x h1 _ r=>⟨a,k,rfl,⟨xs,h1⟩,q _ H' H0' x (ZG h1 r)⟩⟩
theorem zda{f:CO D}(h:PV X e f):PIF X tg e (zG (zC f)):=JQ (zb3 h) λσ H R O=>by
 obtain⟨H0,γ,ds,rc,S,q⟩:=O;obtain⟨⟨k,es⟩,e1,z⟩:=zB S;subst z;obtain⟨d,U,e1⟩:=bind_some e1;refine⟨H0,γ,d,rc,U,λv H' H0' x r=>?_⟩;cases d with
 | tup fs=>
  obtain⟨z,I⟩:k = .T/\es=fs:=by simp [je]at e1;exact⟨e1.1.symm,e1.2.symm⟩
  subst z I;obtain⟨a,xs,rfl,h1,h2⟩:=(show ∃a xs,v = .ref a/\SqT X.K H0' a xs/\Reps X.K H0' es xs from r);exact⟨a,.T,rfl,⟨xs,sameT x.sub h1⟩,q _ H' H0' x (ZG (k:= .T) h1 h2)⟩
 | lst fs=>
  obtain⟨z,I⟩:k = .L/\es=fs:=by simp [je]at e1;exact⟨e1.1.symm,e1.2.symm⟩
  subst z I;obtain⟨a,xs,rfl,h1,h2⟩:=(show ∃a xs,v = .ref a/\SqL X.K H0' a xs/\Reps X.K H0' es xs from r);exact⟨a,.L,rfl,⟨xs,x.sub.seq h1⟩,q _ H' H0' x (ZG (k:= .L) h1 h2)⟩
 | _=>simp [je]at e1
theorem j8{d:D}{i:Int}(h:asI d=some i):d = .int i:=by cases d<;>simp [asI]at h;rw [h]
theorem Z3{i:Int}(h:inR i=true) : -(2 ^ 62)<=i/\i<2 ^ 62:=by
 unfold inR at h;have h:=of_decide_eq_true h;omega
theorem KU{f:CO D}(O:Gl X "range")(hm:X.mg "range" = none)(ha:PV X a f)(I:starEach [a] X.env=[(false,eval a X.env)]:=by rfl):PIF X tg (.Call (.Name "range" p) [a] [] pos) (zX f):=
 JQ (Vo O hm (zS ha jP I) I) λσ H R S=>by
  obtain⟨H0,γ,ds,rc,z,q⟩:=S;obtain⟨n,e1,z⟩:=bind_some z;obtain⟨d,U,e1⟩:=bind_some e1;by_cases hn:inR n=true
  ·rw [if_pos hn]at z;cases z
   refine⟨H0,γ,d,rc,U,λv H' H0' x r=>?_⟩;rw [j8 e1]at r;obtain⟨h1,h2⟩:=Z3 hn;exact⟨n,by rw [show v = .int n from r],h1,h2,q _ H' H0' x (wX 0 n.toNat)⟩
  ·rw [if_neg hn]at z;cases z
theorem KT{f g:CO D}(U:Gl X "range")(hm:X.mg "range" = none)(ha:PV X a f)(Y:PV X b g)(S:starEach [a,b] X.env=[(false,eval a X.env),(false,eval b X.env)]:=by rfl)(I:starEach [b] X.env=[(false,eval b X.env)]:=by rfl) :
 PIF X tg (.Call (.Name "range" p) [a,b] [] pos) (qQ f g):=
 JQ (Vn U hm (zS ha (zS Y jP I) (by rw [S,I])) S I) λσ H R Z=>by
  obtain⟨H0,γ,ds,rc,z,q⟩:=Z;obtain⟨m,e1,z⟩:=bind_some z;obtain⟨d,e0,e1⟩:=bind_some e1;obtain⟨n,O,z⟩:=bind_some z;obtain⟨c,e2,O⟩:=bind_some O;by_cases hn:inR m=true/\inR n=true
  ·rw [if_pos hn]at z;cases z
   refine⟨H0,γ,d,rc,e0,λv H' H0' x r=>⟨H0',γ,c,rc.ext x,e2,λv2 H2 a3 x2 r2=>?_⟩⟩;rw [j8 e1]at r;rw [j8 O]at r2;obtain⟨h1,h2⟩:=Z3 hn.1;obtain⟨h3,h4⟩:=Z3 hn.2;exact⟨m,n,by rw [show v = .int m from r,show v2 = .int n from r2],⟨h1,h2,h3,h4⟩,q _ H2 a3 (x.trans x2) (wX m (n - m).toNat)⟩
  ·rw [if_neg hn]at z;cases z
theorem vX{K:PySem.W.Frag}{H:Hp}{d:D}{v:V}{k:Sk}{ds:List D}(r:Rep K H d v)(e:je d=some (k,ds)) : ∃a xs,v = .ref a/\SqK k K H a xs/\Reps K H ds xs:=by
 cases d with
 | tup fs=>simp [je]at e;obtain⟨e1,z⟩:=e;subst e1 z;exact r
 | lst fs=>simp [je]at e;obtain⟨e1,z⟩:=e;subst e1 z;exact r
 | _=>simp [je]at e
theorem zc9{f g:CO D}{elts:List Expr}{x1:Nat}{tpos:Pos}(hg:Gl X "zip")(hm:X.mg "zip" = none)(ha:PV X a f)(hb:PV X b g)(U:starEach [a,b] X.env=[(false,eval a X.env),(false,eval b X.env)]:=by rfl)(O:starEach [b] X.env=[(false,eval b X.env)]:=by rfl) :
 PIF X (.Tuple elts x1 tpos) (.Call (.Name "zip" p) [a,b] [] pos) (wK f g):=
 JQ (ze9 hg hm (zS ha (zS hb jP O) (by rw [U,O])) PyProof.Rows.boot_zip U O) λσ H R hZ=>by
  obtain⟨H0,γ,ds,rc,z,q⟩:=hZ;obtain⟨⟨k1,m⟩,e1,z⟩:=bind_some z;obtain⟨d,e0,e1⟩:=bind_some e1;obtain⟨⟨k2,n⟩,S,z⟩:=zB z;obtain⟨c,e2,S⟩:=bind_some S;subst z;refine⟨H0,γ,d,rc,e0,λv H' H0' x r=>⟨H0',γ,c,rc.ext x,e2,λv2 H2 a9 I r2=>?_⟩⟩;obtain⟨a1,xs,rfl,Y,g2⟩:=vX (r.mono I.s0) e1;obtain⟨a2,ys,rfl,Z,g4⟩:=vX r2 S;exact⟨k1,k2,a1,a2,rfl,⟨xs,xt I.sub Y⟩,⟨ys,xt I.sub Z⟩,q _ H2 a9 (x.trans I) (WX Y g2 Z g4)⟩
end
def setAll:List Nat->List V->St->St
 | i::is,v::vs,σ=>setAll is vs (σ.set i (some v))
 | _,_,σ=>σ
def gs:List Nat->TGs
 | []=>zim
 | i::is=>zfU (xW i) (gs is)
def gOf(K:PySem.W.Frag):Tg->TG
 | .nm i=>xW i
 | .tp is=>zil K is.length (gs is)
theorem QY : ∀{is:List Nat} {vs:List V} {σ:St} {H:Hp} {Q:St->Hp->Prop},vs.length=is.length->Q (setAll is vs σ) H->gs is vs σ H Q
 | [],[],_,_,_,_,q=>⟨rfl,q⟩
 | i::is,v::vs,σ,H,Q,hl,q=>⟨v,vs,rfl,QY (by simpa using hl) q⟩
 | [],_::_,_,_,_,hl,_=>by simp at hl
 | _::_,[],_,_,_,hl,_=>by simp at hl
theorem RS.setAll{K:PySem.W.Frag}{E0 E H0 H:Hp} : ∀{is:List Nat} {ds:List D} {vs:List V} {σ:St} {γ:Ctx},RS K E0 E H0 H σ γ->Reps K H0 ds vs->RS K E0 E H0 H (setAll is vs σ) (qg is ds γ)
 | [],ds,vs,σ,γ,r,h=>by cases ds<;>cases vs<;>exact r
 | i::is,[],vs,σ,γ,r,h=>by rw [h.inv_nil];exact r
 | i::is,d::ds,vs,σ,γ,r,h=>by
  obtain⟨x,t,e,h1,h2⟩:=h.inv_cons;subst e;show RS K E0 E H0 H (DL.setAll is t (σ.set i (some x))) (qg is ds (γ.set i (.val d)));exact RS.setAll (r.setVal h1) h2
theorem RC.setAll{K:PySem.W.Frag}{H0 H:Hp} : ∀{is:List Nat} {ds:List D} {vs:List V} {σ:St} {γ:Ctx},RC K H0 H σ γ->Reps K H0 ds vs->RC K H0 H (setAll is vs σ) (qg is ds γ)
 | [],ds,vs,σ,γ,r,h=>by cases ds<;>cases vs<;>exact r
 | i::is,[],vs,σ,γ,r,h=>by rw [h.inv_nil];exact r
 | i::is,d::ds,vs,σ,γ,r,h=>by
  obtain⟨x,t,e,h1,h2⟩:=h.inv_cons;subst e;show RC K H0 H (DL.setAll is t (σ.set i (some x))) (qg is ds (γ.set i (.val d)));exact RC.setAll (r.setVal h1) h2
theorem wy{K:PySem.W.Frag}{H0 H:Hp}{T:Tg}{d:D}{v:V}{σ:St}{γ γ1:Ctx}{Q:St->Hp->Prop}(s:Same H0 H)(h:Rep K H0 d v)(e:qe T d γ=some γ1)
 (q : ∀z,(RC K H0 H σ γ->RC K H0 H z γ1)->(∀E0 E,RS K E0 E H0 H σ γ->RS K E0 E H0 H z γ1)->Q z H):gOf K T v σ H Q:=by
 cases T with
 | nm i=>cases e;exact q _ (λr=>r.setVal h) λE0 E r=>r.setVal h
 | tp is=>
  cases d with
  | tup ds=>
   simp only [qe]at e;by_cases I:ds.length=is.length
   ·rw [if_pos I]at e;cases e
    obtain⟨a,xs,rfl,h1,h2⟩:=(show ∃a xs,v = .ref a/\SqT K H0 a xs/\Reps K H0 ds xs from h);have hx:xs.length=is.length:=by rw [h2.length,I]
    exact⟨a,xs,rfl,sameT s h1,hx,QY hx (q _ (λr=>r.setAll h2) λE0 E r=>r.setAll h2)⟩
   ·rw [if_neg I]at e;cases e
  | _=>simp [qe]at e
theorem Ext.rebase{E0 E z H0 H B:Hp}(e:Ext E0 E z B)(x:Ext z E H0 H):Ext E0 E H0 H:=
 ⟨e.s0.trans x.s0,x.s1,x.sub,λa h1 h2=>x.new a (e.new a h1 h2) h2⟩
theorem Ext.base{E0 E z B:Hp}(e:Ext E0 E z B):Ext z E z B:=⟨Same.refl _,e.s1,e.sub,λa h _=>h⟩
theorem Sat.rebase{K:PySem.W.Frag}{E0 E I B:Hp}{D:Ends}{z:Fl}(e:Ext E0 E I B)(h:Sat K E0 E D z):Sat K I E D z:=by
 cases z with
 | next γ=>exact λσ H H0 r=>h σ H H0 ⟨r.rc,e.rebase r.ext,r.fresh,r.fr2⟩
 | brk γ=>exact λσ H H0 r=>h σ H H0 ⟨r.rc,e.rebase r.ext,r.fresh,r.fr2⟩
 | cont γ=>exact λσ H H0 r=>h σ H H0 ⟨r.rc,e.rebase r.ext,r.fresh,r.fr2⟩
 | ret r=>
  cases r with
  | val d=>exact λv H H0 x q=>h v H H0 (e.rebase x) q
  | own es=>exact λa xs H H0 x h1 h2 O q=>h a xs H H0 (e.rebase x) h1 h2 O q
section
variable{X:Cx}{tg iter:Expr}{body:List Stmt}{pos:Pos}
theorem xE{src:CO (List D)}{T:Tg}{F:CO Fl}(hp:PassesOwn (model X.prog X.w) X.A X.env X.xe)(hc:X.calm=true)(hi:PIF X tg iter src)(hg:PG X tg (gOf X.K T))(hb:Yu X body F)
 (hs : ∀x,foldedSetIterable iter X.env x=pure x:=by intro _;rfl):PSD X (.For tg iter body [] pos) (yX src T F):=
 qZ (zbZ hp hc hi hg hb hs) λD σ H hZ=>by
  obtain⟨E0,E,H0,γ,I,rs,z,S⟩:=hZ;obtain⟨ds,e1,z⟩:=bind_some z;refine⟨H0,γ,ds,rs.rc,e1,λJ H1 O x1 wk=>?_⟩;have Y:=rs.step x1;have ex:=Y.ext;refine⟨λi m σ H=>m=ds.length - i/\i<=ds.length/\∃H0 γ I,RS X.K O E H0 H σ γ/\qo T F (ds.drop i) γ=some I/\Sat X.K O E D I,⟨_,rfl,zkK _,O,γ,I,⟨Y.rc,ex.base,Y.fresh,Y.fr2⟩,z,S.rebase ex⟩,?_⟩;rintro i m σ H ⟨rfl,hi,H0,γ,I,rs,z,S⟩;have a1:Same O H:=rs.ext.s0.trans rs.ext.sub;by_cases U:i<ds.length
  ·refine .inr ⟨wk.go i H a1 U,λσ H=>i+1<=ds.length/\∃H0 γ I,RS X.K O E H0 H σ γ/\qo T F (ds.drop (i+1)) γ=some I/\Sat X.K O E D I,λσ' H' n=>⟨ds.length - (i+1),by omega,rfl,n.1,n.2⟩,λx H' y=>?_⟩
   obtain⟨d,hd,hx⟩:=wk.yld i H x H' a1 U y;obtain⟨G0,xg,rg⟩:=hx H0 rs.ext.s0 rs.rc.sub;have ac:ds.drop i=d::ds.drop (i+1):=by
    have ad:d=ds[i]:=by rw [zi8 U]at hd;exact(zj7 hd).symm
    rw [ad];exact zlS U
   rw [ac]at z;simp only [qo]at z;obtain⟨γ1,eb,z⟩:=bind_some z;obtain⟨f1,eF,z⟩:=bind_some z;refine wy xg.sub rg eb λσ1 _ ag=>⟨O,E,G0,γ1,f1,ag O E (rs.step xg),eF,?_⟩;cases f1 with
   | next Z=>exact λσ2 H2 a2 r2=>⟨U,a2,Z,I,r2,z,S⟩
   | cont Z=>exact λσ2 H2 a2 r2=>⟨U,a2,Z,I,r2,z,S⟩
   | brk Z=>cases z;exact S
   | ret r=>cases z;cases r<;>exact S
  ·have e:i=ds.length:=by omega
   subst e;rw [zmW]at z;cases z;exact .inl ⟨wk.stop H a1,S σ H H0 rs⟩
end
theorem qT{n:Nat}{fr:List Nat}{γ:Ctx}{i:Nat}{c:Cell}(h:(jd n fr γ)[i]? = some c):c = .no\/(∃d j,c = .val d/\n<=i/\fr[i - n]? = some j/\γ[j]? = some (.val d)):=by
 unfold jd at h;by_cases hi:i<n
 ·rw [zkb (by simpa using hi),zli,if_pos hi]at h
  exact .inl (zj7 h).symm
 ·rw [zjV (by simpa using hi),zjR,List.length_replicate]at h
  cases e:fr[i - n]? with
  | none=>rw [e]at h;cases h
  | some j=>
   rw [e]at h;have h':qx (γ[j]?.getD .no)=c:=by simpa using h
   cases e2:γ[j]? with
   | none=>rw [e2]at h';exact .inl h'.symm
   | some z=>
    rw [e2]at h';cases z with
    | no=>exact .inl h'.symm
    | own ds=>exact .inl h'.symm
    | nest rows=>exact .inl h'.symm
    | val d=>exact .inr ⟨d,j,h'.symm,by omega,rfl,e2⟩
theorem RC.pull{K:PySem.W.Frag}{H0 H:Hp}{σ:St}{γ:Ctx}{own:List Str}{fr:List (Str×Nat)}(r:RC K H0 H σ γ):RC K H0 H (L2.pull own fr σ) (jd own.length (fr.map (·.2)) γ):=by
 refine⟨r.sub,by simp [L2.pull,jd],λi d h=>?_,λi ds h=>?_,λi j a ds es h _ _ _=>?_,NestOk.nil0 λi rows h=>?_⟩
 ·rcases qT h with z | ⟨d',j,z,hi,I,O⟩
  ·cases z
  ·cases z
   obtain⟨v,h1,h2⟩:=r.val j d O;refine⟨v,?_,h2⟩;rw [zjR]at I;cases q:fr[i - own.length]? with
   | none=>rw [q]at I;cases I
   | some p=>
    rw [q]at I;have S:p.2=j:=by simpa using I
    unfold L2.pull;rw [zjV (by simpa using hi),zjR,zjh,q];simp [S,h1]
 ·rcases qT h with z | ⟨d',j,z,_⟩<;>cases z
 ·rcases qT h with z | ⟨d',j,z,_⟩<;>cases z
 ·rcases qT h with z | ⟨d',j,z,_⟩<;>cases z
theorem RC.weak{K:PySem.W.Frag}{H0 H:Hp}{σ:St}{γ γ':Ctx}(r:RC K H0 H σ γ)(I:γ'.length=γ.length)(O : ∀(i:Nat) d,γ'[i]? = some (.val d)->γ[i]? = some (.val d))(z : ∀(i:Nat) ds,γ'[i]? ≠ some (.own ds))(S : ∀(i:Nat) rows,γ'[i]? ≠ some (.nest rows)):RC K H0 H σ γ':=
 ⟨r.sub,by rw [I];exact r.len,λi d h=>r.val i d (O i d h),λi ds h=>absurd h (z i ds),λi j a ds es h _ _ _=>absurd h (z i ds),NestOk.nil0 S⟩
theorem RC.upd{K:PySem.W.Frag}{H0 H:Hp}{σ:St}{γ:Ctx}{D:Addr}{o:HO}(r:RC K H0 H σ γ)(h0:H0 D=none)(I : ∀(i:Nat) ds,γ[i]? ≠ some (.own ds))(O : ∀(i:Nat) rows,γ[i]? ≠ some (.nest rows)):RC K H0 (upd H D o) σ γ:=
 ⟨λb u q=>by rw [zJ (λz=>by rw [z,h0]at q;cases q)];exact r.sub b u q,r.len,r.val,λi ds h=>absurd h (I i ds),λi j a ds es h _ _ _=>absurd h (I i ds),NestOk.nil0 O⟩
theorem vV : ∀{is:List Nat} {ds:List D} {γ:Ctx},(qg is ds γ).length=γ.length
 | [],ds,γ=>by cases ds<;>rfl
 | i::is,[],γ=>rfl
 | i::is,d::ds,γ=>by show(qg is ds (γ.set i (.val d))).length=_;rw [vV];simp
theorem vW : ∀{is:List Nat} {ds:List D} {γ:Ctx} {i:Nat},i∉is->(qg is ds γ)[i]? = γ[i]?
 | [],ds,γ,i,_=>by cases ds<;>rfl
 | j::is,[],γ,i,_=>rfl
 | j::is,d::ds,γ,i,h=>by
  show(qg is ds (γ.set j (.val d)))[i]? = _;rw [vW (λz=>h (zjk _ z)),zjc (λz=>h (by rw [<- z];exact zju))]
theorem Ww{T:Tg}{d:D}{γ γ1:Ctx}(h:qe T d γ=some γ1):γ1.length=γ.length/\∀i,i∉T.idx->γ1[i]? = γ[i]? :=by
 cases T with
 | nm j=>cases h;exact⟨by simp,λi hi=>zjc (λz=>hi (by simp [Tg.idx,z]))⟩
 | tp is=>
  cases d with
  | tup ds=>
   simp only [qe]at h;by_cases I:ds.length=is.length
   ·rw [if_pos I]at h;cases h;exact⟨vV,λi hi=>vW hi⟩
   ·rw [if_neg I]at h;cases h
  | _=>simp [qe]at h
section
variable{K:PySem.W.Frag}{own:List Str}{fr:List (Str×Nat)}{src:CO (List D)}{T:Tg}{k:CO Bool}{f:CO D}
theorem yq(hT : ∀i∈T.idx,i<own.length){tt:TT}(au : ∀σ H Q,tT K k σ H Q->tt σ H Q) : ∀σ H Q,tO K (zD src T own.length (fr.map (·.2)) k f) σ H Q->W5 (tIc K src) own fr (gOf K T) tt (tV K f) σ H Q:=λσ H Q hZ=>by
 obtain⟨H0,γ,ds,rc,S,q⟩:=hZ;obtain⟨items,e1,S⟩:=bind_some S;by_cases hl:items.length<=lim
 ·rw [if_pos hl]at S
  refine⟨H0,γ,items,rc,e1,λJ H1 a5 x1 wk D Z=>?_⟩;have a7 : ∀(i:Nat) es,(jd own.length (fr.map (·.2)) γ)[i]? ≠ some (.own es):=λi es h=>by rcases qT h with z | ⟨d',j,z,_⟩<;>cases z
  have a8 : ∀(i:Nat) rows,(jd own.length (fr.map (·.2)) γ)[i]? ≠ some (.nest rows):=λi es h=>by rcases qT h with z | ⟨d',j,z,_⟩<;>cases z
  have ag:a5 D=none:=jA x1.sub Z;have aw:H D=none:=by
   cases z:H D with
   | none=>rfl
   | some o=>rw [x1.s1 D o z]at Z;cases Z
  refine⟨λi m ys σ' H'=>m=items.length - i/\i<=items.length/\ys.length<=i/\H' D=some (.lst ys)/\∃H0' a0 a2,RC K H0' H' σ' (jd own.length (fr.map (·.2)) γ)/\H0' D=none/\Ext a5 H1 H0' H'/\Reps K H0' a0 ys/\zL T k f (jd own.length (fr.map (·.2)) γ) (items.drop i)=some a2/\ds=a0++a2,
   ⟨_,rfl,zkK _,zjb _,zH,a5,[],ds,((rc.ext x1).pull).upd ag a7 a8,ag,Ext.hide x1.sub Z _,Reps.nil,S,rfl⟩,?_⟩
  rintro i m ys σ' H' ⟨rfl,hi,hy,a3,H0',a0,a2,a9,ah,U,r',I,rfl⟩;refine⟨a3,?_⟩;by_cases Y:i<items.length
  ·refine .inr ⟨wk.go i H' U.s1 Y,?_,λx aa y=>?_⟩
   ·have:=k7 (zjb lim);omega
   obtain⟨d,hd,hx⟩:=wk.yld i H' x aa U.s1 Y y;obtain⟨G0,O,rg⟩:=hx H0' U.s0 a9.sub;have ay:items.drop i=d::items.drop (i+1):=by
    have az:d=items[i]:=by rw [zi8 Y]at hd;exact(zj7 hd).symm
    rw [az];exact zlS Y
   rw [ay]at I;simp only [zL]at I;obtain⟨γ1,eb,I⟩:=bind_some I;obtain⟨b,ek,I⟩:=bind_some I;have b9:G0 D=none:=O.new D ah (by rw [a3];simp);have aj:aa D=some (.lst ys):=O.s1 _ _ a3;obtain⟨bl,bg⟩:=Ww eb;have ak : ∀{σ2:St} {G2 H2:Hp},RC K G2 H2 σ2 γ1->RC K G2 H2 σ2 (jd own.length (fr.map (·.2)) γ):=λr=>r.weak bl.symm (λj d' hj=>by
    by_cases hm:j∈T.idx
    ·rcases qT hj with z | ⟨d2,j2,_,hn,_⟩
     ·cases z
     ·exact absurd (hT j hm) ⋯
    ·rw [bg j hm];exact hj) a7 a8
   refine wy O.sub rg eb λσ1 ao _=>au σ1 aa _ ⟨G0,γ1,b,ao (a9.ext O),ek,λH3 ab x3=>?_⟩;have ac:=(ao (a9.ext O)).ext x3;have xa:=U.trans (O.trans x3);have aq:ab D=none:=x3.new D b9 (by rw [aj];simp);have ad:H3 D=some (.lst ys):=x3.s1 _ _ aj;cases b with
   | true=>
    dsimp only;rw [if_pos rfl]at I ⊢;obtain⟨e,ee,I⟩:=bind_some I;obtain⟨rest,er,I⟩:=zB I;refine⟨ab,γ1,e,ac,ee,λv H4 ar x4 r4=>?_⟩;have ae:ar D=none:=x4.new D aq (by rw [ad];simp);have bi:H4 D=some (.lst ys):=x4.s1 _ _ ad;have xb:=xa.trans x4;refine⟨bi,items.length - (i+1),by omega,rfl,Y,by rw [zjY,zlw];omega,zH,ar,a0++[e],rest,(ak (ac.ext x4)).upd ae a7 a8,ae,?_,(r'.mono ((O.trans (x3.trans x4)).s0)).append (Reps.cons r4 Reps.nil),er,?_⟩
    ·exact⟨xb.s0,λc o z=>by rw [zJ (λw=>by rw [w,Z]at z;cases z)];exact xb.s1 c o z,λc o z=>by rw [zJ (λw=>by rw [w,ae]at z;cases z)];exact xb.sub c o z,xb.new⟩
    ·rw [<- I];simp
   | false=>
    dsimp only;rw [if_neg zjj]at I ⊢;exact⟨items.length - (i+1),by omega,rfl,Y,by omega,ad,ab,a0,a2,ak ac,aq,xa,r'.mono ((O.trans x3).s0),I,rfl⟩
  ·have e:i=items.length:=by omega
   subst e;rw [zmW]at I;cases I;rw [zlG]at q;exact .inl ⟨wk.stop H' U.s1,q D ys H' H0' (x1.trans U) aw ah a3 r'⟩
 ·rw [if_neg hl]at S;cases S
end
section
variable{X:Cx}{scope:Scope}{own:List Str}{fr:List (Str×Nat)}{elt tg iter c:Expr}{pos:Pos}{src:CO (List D)}{T:Tg}{k:CO Bool}{f:CO D}
theorem jL(z:X.calm=true)(ok:CompOk X scope fr)(I : ∀i∈T.idx,i<own.length)(hi:PIC X tg iter src)(O : ∀fp s2 H2,PG (jq X scope (own++fr.map (·.1)) fp s2 H2) tg (gOf X.K T))
 (he : ∀fp s2 H2,PV (jq X scope (own++fr.map (·.1)) fp s2 H2) elt f) (S : ∀x,foldedSetIterable iter X.env x=pure x:=by intro _;rfl) :
 PO X (.ListComp elt [⟨tg,iter,[],0⟩] scope pos) (zD src T own.length (fr.map (·.2)) jb f):=
 jY (QL z ok hi O (λ_ _ _=>XM) he S) (yq I λσ H Q ⟨H0,γ,b,rc,U,q⟩=>by cases U;exact q H H0 (Ext.refl rc.sub))
theorem Vk(z:X.calm=true)(ok:CompOk X scope fr)(I : ∀i∈T.idx,i<own.length)(hi:PIC X tg iter src)(O : ∀fp s2 H2,PG (jq X scope (own++fr.map (·.1)) fp s2 H2) tg (gOf X.K T))
 (S : ∀fp s2 H2,PTD (jq X scope (own++fr.map (·.1)) fp s2 H2) c k) (he : ∀fp s2 H2,PV (jq X scope (own++fr.map (·.1)) fp s2 H2) elt f) (U : ∀x,foldedSetIterable iter X.env x=pure x:=by intro _;rfl) :
 PO X (.ListComp elt [⟨tg,iter,[c],0⟩] scope pos) (zD src T own.length (fr.map (·.2)) k f):=
 jY (QL z ok hi O (λfp s2 H2=>XL (S fp s2 H2)) he U) (yq I λσ H Q h=>h)
theorem zaw{y:Str}{z I:Pos}{i:Nat}(O:X.N.Nodup)(S:X.N[i]? = some y)(U:Loc X.env.scope y)(Y:X.fn y=true\/X.env.scope.names.lookup y=some .local)
 (Z:X.calm=true) (ok:CompOk X scope fr) (hT : ∀i∈T.idx,i<own.length) (hi:PIC X tg iter src) (hg : ∀fp s2 H2,PG (jq X scope (own++fr.map (·.1)) fp s2 H2) tg (gOf X.K T))
 (he : ∀fp s2 H2,PV (jq X scope (own++fr.map (·.1)) fp s2 H2) elt f) (hs : ∀x,foldedSetIterable iter X.env x=pure x:=by intro _;rfl) :
 PS X (.Assign [.Name y z] (.ListComp elt [⟨tg,iter,[],0⟩] scope pos) I) (Ky (tO X.K (zD src T own.length (fr.map (·.2)) jb f)) (xW i)):=
 qZ (Zg O S U Y Z ok hi hg (λ_ _ _=>XM) he hs) λD σ H h=>yq hT (λσ H Q hZ=>by obtain⟨H0,γ,b,rc,ef,q⟩:=hZ;cases ef;exact q H H0 (Ext.refl rc.sub)) σ H _ h
theorem KR{y:Str}{z I:Pos}{i:Nat}(O:X.N.Nodup)(S:X.N[i]? = some y)(U:Loc X.env.scope y)(Y:X.fn y=true\/X.env.scope.names.lookup y=some .local)
 (Z:X.calm=true) (ok:CompOk X scope fr) (hT : ∀i∈T.idx,i<own.length) (hi:PIC X tg iter src) (hg : ∀fp s2 H2,PG (jq X scope (own++fr.map (·.1)) fp s2 H2) tg (gOf X.K T))
 (hk : ∀fp s2 H2,PTD (jq X scope (own++fr.map (·.1)) fp s2 H2) c k) (he : ∀fp s2 H2,PV (jq X scope (own++fr.map (·.1)) fp s2 H2) elt f) (hs : ∀x,foldedSetIterable iter X.env x=pure x:=by intro _;rfl) :
 PS X (.Assign [.Name y z] (.ListComp elt [⟨tg,iter,[c],0⟩] scope pos) I) (Ky (tO X.K (zD src T own.length (fr.map (·.2)) k f)) (xW i)):=
 qZ (Zg O S U Y Z ok hi hg (λfp s2 H2=>XL (hk fp s2 H2)) he hs) λD σ H h=>yq hT (λσ H Q h=>h) σ H _ h
end
theorem jz{K:PySem.W.Frag}{H:Hp}{i:Int}{v:V}(h:Rep K H (.int i) v):v = .int i:=h
theorem zaa{K:PySem.W.Frag}{g:Int->Int->D}{z:Int->Int->V}(O : ∀H i j,Rep K H (g i j) (z i j)):Snd K (rI0 z) (dI g):=λH0 H x y dx S d Q s U Y I q=>by
 cases dx<;>cases S<;>simp [dI]at I;subst I;exact⟨_,_,jz U,jz Y,q _ H H0 (Ext.refl s) (O H0 _ _)⟩
theorem YT{K:PySem.W.Frag}{C:Int->Int->Prop}{c:Int->Int->Bool}{g:Int->Int->D}{z:Int->Int->V}(O : ∀i j,c i j=true->C i j)(S : ∀H i j,Rep K H (g i j) (z i j)):Snd K (rI C z) (dIc c g):=λH0 H x y dx U d Q s Y Z I q=>by
 cases dx<;>cases U<;>simp [dIc]at I;obtain⟨e1,e2⟩:=I;subst e2;exact⟨_,_,jz Y,jz Z,O _ _ e1,q _ H H0 (Ext.refl s) (S H0 _ _)⟩
theorem zcE{K:PySem.W.Frag}:Snd K (rI0 λi j=> .int (i - j)) xC:=zaa λ_ _ _=>rfl
theorem zbl{i j:Int}(h:Zu i j=true):CMul i j:=by
 unfold Zu at h;rw [zkl,decide_eq_true_eq,decide_eq_true_eq]at h;unfold CMul;omega
theorem zcK{K:PySem.W.Frag}:Snd K (rI ziD λi j=> .int (i/j)) Qb:=YT (λi j h=>by
 unfold zf4 at h;rw [Bool.and_eq_true,decide_eq_true_eq,decide_eq_true_eq]at h;exact⟨h.1,by omega⟩) λ_ _ _=>rfl
theorem zcJ{K:PySem.W.Frag}:Snd K (rI (λ_ j=>0<j) λi j=> .int (i%j)) qL:=YT (λi j h=>by
 unfold zgH at h;exact of_decide_eq_true h) λ_ _ _=>rfl
theorem zcF{K:PySem.W.Frag}:Snd K (rI ziC λi j=> .int (i ^ j.toNat)) zdL:=YT (λi j h=>by
 unfold zf3 at h;rw [Bool.and_eq_true,Bool.and_eq_true,decide_eq_true_eq,decide_eq_true_eq,decide_eq_true_eq]at h;exact⟨h.1.1,by omega,h.2⟩) λ_ _ _=>rfl
theorem zbG{K:PySem.W.Frag}:Snd K (rI0 λi j=> .bl (decide (i<j))) dLt:=zaa λ_ _ _=>rfl
theorem zbH{K:PySem.W.Frag}:Snd K (rI0 λi j=> .bl (decide (i<=j))) dLe:=zaa λ_ _ _=>rfl
theorem zbI{K:PySem.W.Frag}:Snd K (rI0 λi j=> .bl (decide (j<i))) dGt:=zaa λ_ _ _=>rfl
section
variable{X:Cx}
def zbP(K:PySem.W.Frag):R2:=λx y H Q=>∃a b xs ys,x = .ref a/\y = .ref b/\SqT K H a xs/\SqT K H b ys/\xs.length+ys.length<=sizeLine/\
 (xs=[]->Q (.ref b) H)/\(ys=[]->Q (.ref a) H)/\∀p,H p=none->Q (.ref p) (upd H p (.tup (xs++ys)))
theorem zaG:OpR X (binaryOp .Add) (zbP X.K):=by
 intro pins s σ H x y v u Q I rx ry h;obtain⟨a,b,xs,ys,rfl,rfl,ha,hb,S,q0,q1,q2⟩:=h;cases rx;cases ry;obtain⟨O,r,U,z1⟩:=I.tuple ha;obtain⟨aa,r2,Y,z2⟩:=I.tuple hb;by_cases he:xs=[]
 ·have e1:O=[]:=(r.nil_iff).mpr he
  obtain⟨⟨cls,dd,data,sl⟩,Z,hc,n,hd⟩:=id U;obtain⟨⟨af,ac,data2,ad⟩,a1,a2,n2,a3⟩:=id Y;simp only at hc hd a2 a3;subst hc hd a2 a3;exact zm4 ⟨_,Z,rfl⟩ ⟨_,a1,rfl⟩ zm5 seq_tuple_add zl4 zl0 (zlM _ _)
   (tuple_addW0 a b O.toArray aa.toArray n n2 dd ac sl ad (by simp [e1])) ⟨Z,a1,⟨.ref b,H,I,rfl,q0 he⟩⟩
 ·have e1:O ≠ []:=λz=>he ((r.nil_iff).mp z)
  refine HT.cat_tup U Y e1 (λz=>⟨.ref a,H,I,rfl,q1 ((r2.nil_iff).mp z)⟩) (λ_=>?_) (by rw [<- r.length,<- r2.length];exact S);refine⟨.ref s.heap.objs.size,_,I.laid (t':=s.toks) (o:= .tup (xs++ys)) (λc ob q=>zi3 _ q) (zjb _) ?_,rfl,q2 _ (I.hok.fresh (zjb _))⟩;exact⟨by rw [zjY];exact S,_,r.append r2,IsTupD.new _ _⟩
def zeP(K:PySem.W.Frag):R2:=λx y H Q=>∃l b xs zs,x = .ref l/\y = .ref b/\SqL K H l xs/\SqL K H b zs/\xs.length+zs.length<=sizeLine/\∀p,H p=none->Q (.ref p) (upd H p (.lst (xs++zs)))
theorem zaH:OpR X (binaryOp .Add) (zeP X.K):=by
 intro pins s σ H x y v u Q I rx ry h;obtain⟨l,b,xs,zs,rfl,rfl,hH,hB,hz,q⟩:=h;cases rx;cases ry;obtain⟨z,r,⟨o,n,e,S,U,Y⟩,z1⟩:=I.list hH;obtain⟨O,r2,⟨o2,n2,Z,d1,d2,d3⟩,z2⟩:=I.list hB;have l1:=r.length;have l2:=r2.length;obtain⟨cls,dct,dt,sl⟩:=o;obtain⟨ae,af,ag,a9⟩:=o2;simp only at S U Y d1 d2 d3;subst S U Y d1 d2 d3;have aa:EP X pins σ Q (.ref s.heap.objs.size) {s with heap:=s.heap.push {cls:= .type "list",data:= .seq (z++O).toArray}}:=
  ⟨.ref _,_,I.lnew (t':=s.toks) (r.append r2) (by rw [zjY];omega),rfl,q _ I.fresh⟩
 have ea:z.toArray++O.toArray=(z++O).toArray:=by simp
 refine zm4 ⟨_,e,rfl⟩ ⟨_,Z,rfl⟩ noFill_list_add seq_list_add PySem.F.slot_list_add PySem.F.entry_list_add (PySem.F.args_list_add_2 _ _)
  (list_addW l b z.toArray O.toArray n n2 none none sl a9 (by rw [zji,zji];omega)) ⟨e,Z,?_⟩
 rw [ea];exact aa
end
def yk(scope sc:Scope):Scope:={scope with names:=scope.names.map λp=>if p.2==NameKind.free && sc.kind == .function && sc.names.lookup p.1==some .cell then (p.1,zkT)else (p.1,p.2)}
theorem KN(scope:Scope)(env:Env):relabel scope env=yk scope env.scope:=by
 unfold relabel yk;rfl
structure SX(X:Cx)(sc:Scope)(N T:List Str)(k:Nat):Prop where
 esc:X.env.scope=sc
 eN:X.N=N
 nd:N.Nodup
 calm:X.calm=true
 room:Room k X.A
 fn : ∀x∈T,X.fn x=true\/sc.names.lookup x=some .local
def WY(sc:Scope)(N:List Str)(i:Nat)(x:Str):Bool:=
 decide (N[i]? = some x) && (decide (sc.names.lookup x=some .local) || decide (sc.names.lookup x=some .cell) || decide (sc.names.lookup x=some .free)) && !(x==("__debug__" : Str)) && !(x==("__classdict__" : Str))
def Kx(sc:Scope)(N T:List Str)(i:Nat)(x:Str):Bool:=decide (x∈T) && decide (N[i]? = some x) && (decide (sc.names.lookup x=some .local) || decide (sc.names.lookup x=some .cell))
def yD(sc:Scope)(x:Str):Bool:=decide (sc.names.lookup x=some .globalImplicit) && !(x==("__name__" : Str)) && !(x==("__debug__" : Str))
section
variable{X:Cx}{sc:Scope}{N T:List Str}{k:Nat}{i:Nat}{x:Str}{pos:Pos}
theorem SX.var(h:SX X sc N T k)(c:WY sc N i x=true):PE X (.Name x pos) (vP i):=by
 unfold WY at c;simp only [Bool.and_eq_true,zkl,decide_eq_true_eq,zkW]at c;obtain⟨⟨⟨h1,h2⟩,z⟩,I⟩:=c;refine zfb (by rw [h.eN];exact h1) ?_ z I;unfold Vis;rw [h.esc];rcases h2 with(h2 | h2) | h2
 ·exact .inl h2
 ·exact .inr (.inl h2)
 ·exact .inr (.inr h2)
theorem SX.loc(h:SX X sc N T k)(c:Kx sc N T i x=true):X.N[i]? = some x/\L2.Loc X.env.scope x/\(X.fn x=true\/X.env.scope.names.lookup x=some .local):=by
 unfold Kx at c;simp only [Bool.and_eq_true,zkl,decide_eq_true_eq]at c;refine⟨by rw [h.eN];exact c.1.2,?_,?_⟩
 ·unfold L2.Loc;rw [h.esc];exact c.2
 ·rw [h.esc];exact h.fn x c.1.1
theorem SX.ndX(h:SX X sc N T k):X.N.Nodup:=by rw [h.eN];exact h.nd
theorem SX.tgt(h:SX X sc N T k)(i:Nat)(c:Kx sc N T i x=true):PG X (.Name x pos) (xW i):=by
 obtain⟨h1,h2,z⟩:=h.loc c;exact Vp h.ndX h1 h2 z
theorem SX.tgts(h:SX X sc N T k){es:List Expr}{is:List Nat}{j:Nat}(g:PGs X es (gs is))(hn:(assignEach es X.env).length=is.length:=by rfl)(z:(assignEach es X.env).findIdx? (·.1)=none:=by rfl):PG X (.Tuple es j pos) (gOf X.K (.tp is)):=
 zfa h.calm g hn z
theorem SX.set(h:SX X sc N T k)(i:Nat){e:Expr}{te:TE}{pos':Pos}(c:Kx sc N T i x=true)(he:PE X e te)(z:swapsWith e (some (.Name x pos')) pos.line X.env=pure false:=by rfl):PS X (.Assign [.Name x pos'] e pos) (Ky te (xW i)):=by
 obtain⟨h1,h2,I⟩:=h.loc c;exact ze6 h.ndX h1 h2 he z I
theorem SX.gl(h:SX X sc N T k)(c:yD sc x=true):Gl X x/\x ≠ "__name__"/\(x==("__debug__" : Str))=false:=by
 unfold yD at c;simp only [Bool.and_eq_true,decide_eq_true_eq,zkW]at c;refine⟨?_,?_,c.2⟩
 ·show X.env.scope.names.lookup x=_
  rw [h.esc];exact c.1.1
 ·intro e;rw [e]at c;simp at c
def Wg(sc scope:Scope)(N:List Str)(fr:List (Str×Nat)):Bool:=
 decide (scope.kind = .function) && decide ((scope.names.map (·.1)).Nodup) && scope.names.all (λp=> !(p.2==NameKind.free) || decide (sc.names.lookup p.1=some .cell) || decide (sc.names.lookup p.1=some .free)) &&
 fr.all λp=>decide (scope.names.lookup p.1=some .free) && decide (N[p.2]? = some p.1)
def zid(own:List Str)(scope:Scope)(fr:List (Str×Nat)):Bool:=decide ((own++fr.map (·.1)).Nodup) && own.all (λx=>decide (scope.names.lookup x=some .local) || decide (scope.names.lookup x=some .cell))
theorem SX.compOk(h:SX X sc N T k){scope:Scope}{fr:List (Str×Nat)}(c:Wg sc scope N fr=true):CompOk X scope fr:=by
 unfold Wg at c;simp only [Bool.and_eq_true,decide_eq_true_eq,zkq,zkl,zkW]at c;obtain⟨⟨⟨I,O⟩,S⟩,c4⟩:=c;refine⟨I,O,λp z U=>?_,λp z=>⟨(c4 p z).1,by rw [h.eN];exact(c4 p z).2⟩⟩;have e:X.env.kindOf p.1=sc.names.lookup p.1:=by show X.env.scope.names.lookup p.1=_;rw [h.esc]
 rw [e];rcases S p z with(q | q) | q
 ·rw [U]at q;exact absurd q ⋯
 ·exact .inl q
 ·exact .inr q
theorem wl(scope sc:Scope)(x:Str):(yk scope sc).names.lookup x=(scope.names.lookup x).map λk=>if (k==NameKind.free && sc.kind == .function && sc.names.lookup x==some .cell)then zkT else k:=by
 unfold yk;dsimp only;generalize scope.names=l
 induction l with
 | nil=>rfl
 | cons p r I=>
  obtain⟨n,O⟩:=p;rw [zjw];cases hx:x==n with
  | true=>
   have e:x=n:=by simpa using hx
   subst e;dsimp only;split
   ·rename_i z;rw [zj5,zj5,beq_self_eq_true];dsimp only [zmF];rw [if_pos z]
   ·rename_i z;rw [zj5,zj5,beq_self_eq_true];dsimp only [zmF];rw [if_neg z]
  | false=>
   dsimp only;split
   ·rw [zj5,zj5,hx];exact I
   ·rw [zj5,zj5,hx];exact I
theorem SX.comp(h:SX X sc N T k){scope:Scope}{own:List Str}{fr:List (Str×Nat)}{fp:List Addr}{s2:Shared}{H2:Hp}(c:zid own scope fr=true) :
 SX (jq X scope (own++fr.map (·.1)) fp s2 H2) (yk scope sc) (own++fr.map (·.1)) own k:=by
 unfold zid at c;simp only [Bool.and_eq_true,decide_eq_true_eq,zkq,zkl]at c;refine⟨?_,rfl,c.1,h.calm,h.room,λx hx=>?_⟩
 ·show relabel scope X.env=_
  rw [KN,h.esc]
 ·rcases c.2 x hx with q | q
  ·right;rw [wl,q];rfl
  ·left
   show(scope.names.lookup x==some .cell)=true;rw [q];rfl
theorem SX.cq(h:SX X sc N T k){scope:Scope}(own:List Str)(fr:List (Str×Nat))(fp:List Addr)(s2:Shared)(H2:Hp)(c:zid own scope fr=true) :
 SX (jq X scope (own++fr.map (·.1)) fp s2 H2) (yk scope sc) (own++fr.map (·.1)) own k:=h.comp c
end
mutual
def toP:D->PyData
 | .non=> .none
 | .bl b=> .bool b
 | .int i=> .int i
 | .str x=> .str x
 | .tup ds=> .tuple (toPs ds)
 | .lst ds=> .list (toPs ds)
 | .exc _ _=> .none
 | .dic _ _=> .none
 | .dct _ _=> .none
def toPs:List D->List PyData
 | []=>[]
 | d::ds=>toP d::toPs ds
end
theorem okS_exc{c:Str}{n:Option Int}(h:okS (.exc c n)=true):False:=by simp [okS]at h
theorem okS_dic{ks vs:List D}(h:okS (.dic ks vs)=true):False:=by simp [okS]at h
theorem okS_dct{ks:List (List Int)}{vs:List D}(h:okS (.dct ks vs)=true):False:=by simp [okS]at h
mutual
theorem eqv_toP : ∀x y:D,okS x=true->okS y=true->PyData.eqv (toP x) (toP y)=eqD x y
 | .non,y,_,h=>by cases y<;>first | exact(okS_exc h).elim | exact(okS_dic h).elim | exact(okS_dct h).elim | simp [toP,PyData.eqv,eqD]
 | .bl a,y,_,h=>by cases y<;>first | exact(okS_exc h).elim | exact(okS_dic h).elim | exact(okS_dct h).elim | simp [toP,PyData.eqv,eqD]
 | .int a,y,_,h=>by cases y<;>first | exact(okS_exc h).elim | exact(okS_dic h).elim | exact(okS_dct h).elim | simp [toP,PyData.eqv,eqD]
 | .str a,y,_,h=>by cases y<;>first | exact(okS_exc h).elim | exact(okS_dic h).elim | exact(okS_dct h).elim | simp [toP,PyData.eqv,eqD]
 | .exc c n,y,h,_=>(okS_exc h).elim
 | .dic c n,y,h,_=>(okS_dic h).elim
 | .dct c n,y,h,_=>(okS_dct h).elim
 | .tup xs,y,h1,h2=>by
  cases y with
  | tup ys=>simp only [okS]at h1 h2;simp only [toP,PyData.eqv,eqD];exact eqvs_toP xs ys h1 h2
  | exc c n=>exact(okS_exc h2).elim
  | dic c n=>exact(okS_dic h2).elim
  | dct c n=>exact(okS_dct h2).elim
  | _=>simp [toP,PyData.eqv,eqD]
 | .lst xs,y,h1,h2=>by
  cases y with
  | lst ys=>simp only [okS]at h1 h2;simp only [toP,PyData.eqv,eqD];exact eqvs_toP xs ys h1 h2
  | exc c n=>exact(okS_exc h2).elim
  | dic c n=>exact(okS_dic h2).elim
  | dct c n=>exact(okS_dct h2).elim
  | _=>simp [toP,PyData.eqv,eqD]
theorem eqvs_toP : ∀xs ys:List D,okSs xs=true->okSs ys=true->PyData.eqvAll (toPs xs) (toPs ys)=eqDs xs ys
 | [],ys,_,_=>by cases ys<;>simp [toPs,PyData.eqvAll,eqDs]
 | x::xs,ys,h1,h2=>by
  cases ys with
  | nil=>simp [toPs,PyData.eqvAll,eqDs]
  | cons y ys=>
   simp only [okSs,Bool.and_eq_true]at h1 h2;simp only [toPs,PyData.eqvAll,eqDs];rw [eqv_toP x y h1.1 h2.1,eqvs_toP xs ys h1.2 h2.2]
end
mutual
theorem lay_toP : ∀x:D,okS x=true->(toP x).canLay0=true
 | .non,_=>by simp [toP,PyData.canLay0]
 | .bl a,_=>by simp [toP,PyData.canLay0]
 | .int a,_=>by simp [toP,PyData.canLay0]
 | .str a,h=>by simpa [toP,PyData.canLay0,okS,PyData.strOk]using h
 | .tup xs,h=>by simp only [okS]at h;simp only [toP,PyData.canLay0];exact lays_toP xs h
 | .lst xs,h=>by simp only [okS]at h;simp only [toP,PyData.canLay0];exact lays_toP xs h
 | .exc c n,h=>(okS_exc h).elim
 | .dic c n,h=>(okS_dic h).elim
 | .dct c n,h=>(okS_dct h).elim
theorem lays_toP : ∀xs:List D,okSs xs=true->PyData.canLayAll0 (toPs xs)=true
 | [],_=>by simp [toPs,PyData.canLayAll0]
 | x::xs,h=>by
  simp only [okSs,Bool.and_eq_true]at h;simp only [toPs,PyData.canLayAll0];rw [lay_toP x h.1,lays_toP xs h.2];rfl
end
mutual
theorem depth_toP : ∀x:D,(toP x).depth=deep x
 | .non=>by simp [toP,PyData.depth,deep]
 | .bl a=>by simp [toP,PyData.depth,deep]
 | .int a=>by simp [toP,PyData.depth,deep]
 | .str a=>by simp [toP,PyData.depth,deep]
 | .exc c n=>by simp [toP,PyData.depth,deep]
 | .dic c n=>by simp [toP,PyData.depth,deep]
 | .dct c n=>by simp [toP,PyData.depth,deep]
 | .tup xs=>by simp only [toP,PyData.depth,deep];rw [depths_toP xs]
 | .lst xs=>by simp only [toP,PyData.depth,deep];rw [depths_toP xs]
theorem depths_toP : ∀xs:List D,PyData.depthAll (toPs xs)=deeps xs
 | []=>by simp [toPs,PyData.depthAll,deeps]
 | x::xs=>by simp only [toPs,PyData.depthAll,deeps];rw [depth_toP x,depths_toP xs]
end
theorem xU{d:D}(h:okD d=true):okS d=true:=by
 unfold okD at h;rw [Bool.and_eq_true]at h;exact h.2
theorem yh{d:D}(h:okD d=true):SeqAt.shaped (toP d)=true:=by
 unfold okD at h;rw [Bool.and_eq_true,decide_eq_true_eq]at h;unfold SeqAt.shaped;rw [lay_toP d h.2,zmG,depth_toP];exact decide_eq_true ⋯
section
variable{X:Cx}{pins:List (Addr×Obj)}{σ:St}{H0 H:Hp}{s:Shared}
mutual
theorem reads_of(I:Inv X pins σ H s)(sub:Same H0 H) : ∀{d:D} {v:V} {u:Value},okS d=true->Rep X.K H0 d v->RelV v u->∃z,Reads s.heap u (toP d) z
 | .non,v,u,_,h,r=>by cases (show v = .non from h);cases r;exact⟨_,.none⟩
 | .bl b,v,u,_,h,r=>by cases (show v = .bl b from h);cases r;exact⟨_,.bool b⟩
 | .int i,v,u,_,h,r=>by cases (show v = .int i from h);obtain⟨t,rfl⟩:=r;exact⟨_,.int i t⟩
 | .str x,v,u,_,h,r=>by cases (show v = .str x from h);obtain⟨t,rfl⟩:=r;exact⟨_,.str x t⟩
 | .exc c n,v,u,o,_,_=>(okS_exc o).elim
 | .dic c n,v,u,o,_,_=>(okS_dic o).elim
 | .dct c n,v,u,o,_,_=>(okS_dct o).elim
 | .tup ds,v,u,o,h,r=>by
  obtain⟨a,xs,rfl,h1,h2⟩:=(show ∃a xs,v = .ref a/\SqT X.K H0 a xs/\Reps X.K H0 ds xs from h);cases r;simp only [okS]at o;obtain⟨Z,O,⟨ob,S,U,n,hd⟩,hz⟩:=I.tuple (sameT sub h1);obtain⟨z,Y⟩:=readsAll_of I sub o h2 O;exact⟨z,.tuple S U hd (by simpa using Y)⟩
 | .lst ds,v,u,o,h,r=>by
  obtain⟨a,xs,rfl,h1,h2⟩:=(show ∃a xs,v = .ref a/\SqL X.K H0 a xs/\Reps X.K H0 ds xs from h);cases r;simp only [okS]at o;obtain⟨Z,O,p,hz⟩:=I.list (sub.seq h1);obtain⟨ob,S,U,n,hd⟩:=p.isList;obtain⟨z,Y⟩:=readsAll_of I sub o h2 O;exact⟨_,.list S U hd (by simpa using Y)⟩
theorem readsAll_of(I:Inv X pins σ H s)(sub:Same H0 H) : ∀{ds:List D} {xs:List V} {us:List Value},okSs ds=true->Reps X.K H0 ds xs->Vals xs us->∃z,ReadsAll s.heap us (toPs ds) z
 | [],xs,us,_,h,r=>by rw [h.inv_nil]at r;cases r;exact⟨_,.nil⟩
 | d::ds,xs,us,o,h,r=>by
  obtain⟨x,t,e,h1,h2⟩:=h.inv_cons;subst e;simp only [okSs,Bool.and_eq_true]at o;cases r with
  | cons O r2=>
   obtain⟨z,S⟩:=reads_of I sub o.1 h1 O;obtain⟨bs,U⟩:=readsAll_of I sub o.2 h2 r2;exact⟨_,.cons S U⟩
end
end
def zih(K:PySem.W.Frag):R2:=λx y H Q=>∃H0 dx z,Same H0 H/\Rep K H0 dx x/\Rep K H0 z y/\okD dx=true/\okD z=true/\Q (.bl (eqD dx z)) H
def zig(K:PySem.W.Frag):R2:=λx y H Q=>∃H0 dx z,Same H0 H/\Rep K H0 dx x/\Rep K H0 z y/\okD dx=true/\okD z=true/\Q (.bl (!eqD dx z)) H
theorem zb6{X:Cx}(S:X.A.units+64<cLine):OpR X (compareOp .Eq) (zih X.K):=by
 intro pins s σ H x y v u Q I U Y h;obtain⟨H0,dx,dy,sub,Z,r2,z,O,q⟩:=h;obtain⟨as,ra⟩:=reads_of I sub (xU z) Z U;obtain⟨bs,rb⟩:=reads_of I sub (xU O) r2 Y;exact eq_dataH ra rb (yh z) (yh O) S ⟨.bl _,H,I,by rw [eqv_toP _ _ (xU z) (xU O)];rfl,q⟩
theorem zfp{X:Cx}(S:X.A.units+64<cLine):OpR X (compareOp .NotEq) (zig X.K):=by
 intro pins s σ H x y v u Q I U Y h;obtain⟨H0,dx,dy,sub,Z,r2,z,O,q⟩:=h;obtain⟨as,ra⟩:=reads_of I sub (xU z) Z U;obtain⟨bs,rb⟩:=reads_of I sub (xU O) r2 Y;exact ne_dataH ra rb (yh z) (yh O) S ⟨.bl _,H,I,by rw [eqv_toP _ _ (xU z) (xU O)];rfl,q⟩
theorem YU{K:PySem.W.Frag}:Snd K (zih K) dEq:=λH0 H x y dx I d Q s O S z q=>by
 unfold dEq at z;split at z
 ·rename_i h;cases z;exact⟨H0,dx,I,s,O,S,h.1,h.2,q _ H H0 (Ext.refl s) rfl⟩
 ·cases z
theorem zcH{K:PySem.W.Frag}:Snd K (zig K) dNe:=λH0 H x y dx I d Q s O S z q=>by
 unfold dNe at z;split at z
 ·rename_i h;cases z;exact⟨H0,dx,I,s,O,S,h.1,h.2,q _ H H0 (Ext.refl s) rfl⟩
 ·cases z
theorem SX.u64{X:Cx}{sc:Scope}{N T:List Str}{k:Nat}(h:SX X sc N T k):X.A.units+64<cLine:=by have:=h.room.un;omega
section
variable{X:Cx}{sc:Scope}{N T:List Str}{k:Nat}{a b c:Expr}{pos p:Pos}{fa fb fc:CO D}
theorem qS(ha:PV X a fa)(z:PV X b fb):PV X (.BinOp a .Sub b pos) (zv xC fa fb):=Ze zfm zcE ha z
theorem v0(ha:PV X a fa)(z:PV X b fb):PV X (.BinOp a .FloorDiv b pos) (zv Qb fa fb):=Ze zdi zcK ha z
theorem qw(ha:PV X a fa)(z:PV X b fb):PV X (.BinOp a .Mod b pos) (zv qL fa fb):=Ze zfq zcJ ha z
theorem Y8(ha:PV X a fa)(z:PV X b fb):PV X (.BinOp a .Pow b pos) (zv zdL fa fb):=Ze zfn zcF ha z
theorem zhc(ha:PV X a fa)(z:PV X b fb):PV X (.Compare a [.Gt] [b] pos) (zv dGt fa fb):=zbV zft zbI ha z (yZ b)
theorem zap(h:SX X sc N T k)(ha:PV X a fa)(z:PV X b fb):PV X (.Compare a [.Eq] [b] pos) (zv dEq fa fb):=zbV (zb6 h.u64) YU ha z (yZ b)
theorem ze2(ha:PV X a fa)(z:PV X b fb):PTD X (.Compare a [.Lt] [b] pos) (sB (zv dLt fa fb)):=yJ zfr zbG ha z (yZ b)
theorem ze3(ha:PV X a fa)(z:PV X b fb):PTD X (.Compare a [.LtE] [b] pos) (sB (zv dLe fa fb)):=yJ zfs zbH ha z (yZ b)
theorem Ve(ha:PV X a fa)(z:PV X b fb):PTD X (.Compare a [.Gt] [b] pos) (sB (zv dGt fa fb)):=yJ zft zbI ha z (yZ b)
theorem JN(h:SX X sc N T k)(ha:PV X a fa)(z:PV X b fb):PTD X (.Compare a [.Eq] [b] pos) (sB (zv dEq fa fb)):=yJ (zb6 h.u64) YU ha z (yZ b)
theorem zbX(h:SX X sc N T k)(ha:PV X a fa)(z:PV X b fb):PTD X (.Compare a [.NotEq] [b] pos) (sB (zv dNe fa fb)):=yJ (zfp h.u64) zcH ha z (yZ b)
theorem k4{K:PySem.W.Frag}{H:Hp}{ds:List D}{v:V}(h:Rep K H (.tup ds) v) : ∃a xs,v = .ref a/\SqT K H a xs/\Reps K H ds xs:=h
theorem zdq{K:PySem.W.Frag}{H:Hp}{ds:List D}{v:V}(h:Rep K H (.lst ds) v) : ∃a xs,v = .ref a/\SqL K H a xs/\Reps K H ds xs:=h
theorem qC{K:PySem.W.Frag}{H:Hp}{ds:List D}{a:Addr}{xs:List V}(h1:SqT K H a xs)(h2:Reps K H ds xs):Rep K H (.tup ds) (.ref a):=⟨a,xs,rfl,h1,h2⟩
theorem QE{K:PySem.W.Frag}{H:Hp}{ds:List D}{a:Addr}{xs:List V}(h1:SqL K H a xs)(h2:Reps K H ds xs):Rep K H (.lst ds) (.ref a):=⟨a,xs,rfl,h1,h2⟩
theorem zcL{K:PySem.W.Frag}:Snd K (λx y H Q=>rI0 (λi j=> .int (i+j)) x y H Q\/zbP K x y H Q) jj:=λH0 H x y dx dy d Q s S U I q=>by
 cases dx<;>cases dy<;>simp [jj]at I
 ·subst I;exact .inl ⟨_,_,jz S,jz U,q _ H H0 (Ext.refl s) rfl⟩
 ·rename_i ds es
  obtain⟨hl,rfl⟩:=I;obtain⟨a,xs,rfl,h1,h2⟩:=k4 S;obtain⟨b,ys,rfl,Y,z⟩:=k4 U;refine .inr ⟨a,b,xs,ys,rfl,rfl,sameT s h1,sameT s Y,k7 (by rw [h2.length,z.length];exact hl),λe=>?_,λe=>?_,λp Z=>?_⟩
  ·have O:ds=[]:=by
    have:=h2.length;rw [e]at this;exact zjN this.symm
   subst O;exact q _ H H0 (Ext.refl s) (qC Y z)
  ·have O:es=[]:=by
    have:=z.length;rw [e]at this;exact zjN this.symm
   subst O;exact q _ H H0 (Ext.refl s) (by rw [zlG];exact qC h1 h2)
  ·exact q _ _ _ (Ext.alloc s Z _) (qC (SqT.of zH) ((h2.append z).mono (z5 (jA s Z) _)))
theorem jo(ha:PV X a fa)(z:PV X b fb):PV X (.BinOp a .Add b pos) (zv jj fa fb):=Ze (op_add.or zaG) zcL ha z
end
theorem ZF{P:Program}{w:World}{A:Around}(O:A.handled=none)(k:Sk)(I z:Addr)(S:z≠I)(items:Array Value) :
 Walks P w A I [I,z] [I] items.size (λi v=>items[i]? = some v) (λi h=>ItAt k h I z i/\SqAt k h z items):=by
 cases k
 ·exact Walks.list O I z S items
 ·exact Walks.tuple O I z S items
theorem v7(zs:List Int) : ∀n,preSum (λi=>zs.getD i 0) n=(zs.take n).sum
 | 0=>by simp [preSum]
 | n+1=>by
  have z:=v7 zs n;simp only [preSum,z];by_cases h:n<zs.length
  ·rw [List.take_succ_eq_append_getElem h,List.sum_append]
   simp [h]
  ·rw [zkt ⋯,zkt ⋯]
   simp [h]
section
variable{X:Cx}{pins:List (Addr×Obj)}{σ:St}{H:Hp}{s:Shared}
theorem Wn(hc:X.calm=true):vn X (.builtin "sum") (λxs H Q=>∃p k ys zs,xs=[.ref p]/\SqK k X.K H p ys/\ys=(zs:List Int).map V.int/\Q (.int zs.sum) H):=by
 intro pins s σ H vs us Q I rv h;obtain⟨p,k,ys,zs,rfl,hq,rfl,q⟩:=h;obtain⟨u,rfl,O⟩:=vg rv;cases O;obtain⟨z,r,S,hz⟩:=I.sq hq;have lt:=S.lt;have U:=r.length;rw [zjh]at U;refine call_sum_walkG (y7 S ⟨_,[_,p],[_],z.toArray.size,_,_,λi=>zs.getD i 0,rfl,ZF (A:=X.A.in1) (I.ok.hd hc) k _ p (zjC lt) z.toArray,⟨y8 k _ p,S.at λo e=>zi3 _ e⟩,?_,?_,?_⟩)
 ·intro b Y
  rw [zjG];simp only [zjm,zjF,or_false]at Y;rcases Y with rfl | rfl
  ·exact zkr _
  ·exact zkc lt
 ·intro i v hv
  have Z:z[i]? = some v:=by simpa using hv
  have hi:i<zs.length:=by rw [U];exact(zjp.mp Z).1
  obtain⟨u,e1,O⟩:=r.get (i:=i) (x:= .int zs[i]) (by simp [hi]);rw [Z]at e1;cases e1;obtain⟨t,rfl⟩:=O;exact⟨t,by simp [hi]⟩
 ·intro h' tk t' hk
  have e:preSum (λi=>zs.getD i 0) z.toArray.size=zs.sum:=by
   rw [v7,zkt (by rw [zji,U];exact zjb _)]
  refine⟨.int zs.sum,H,I.kept (t':=tk) (λb u e=>hk b u ?_ (zi3 _ e)),⟨t',by rw [e]⟩,q⟩;simp only [zjm,zjF,or_false];exact zjC (zjq e)
def zex:V->Option Bool
 | .non=>some false
 | .bl b=>some b
 | .int i=>some (i != 0)
 | _=>none
theorem Xt{P:Program}{w:World}{A:Around}{E:Value->Shared->Prop}{s:Shared}{Q:Bool->Shared->Prop}{x:V}{u:Value}{b:Bool}(r:RelV x u)(e:zex x=some b)(q:Q b s):wpAny (model P w) A (truthy u) Q E s:=by
 cases x with
 | non=>cases r;cases e;exact λ_ _ _=>q
 | bl c=>cases r;cases e;exact zkZ q
 | int i=>obtain⟨t,rfl⟩:=r;cases e;exact PyProof.Rows.truthy_int q
 | _=>cases e
def Kv:List V->Option (List Bool)
 | []=>some []
 | x::r=>(zex x).bind λb=>(Kv r).map λl=>b::l
theorem vN : ∀{xs:List V} {bs:List Bool},Kv xs=some bs->bs.length=xs.length/\∀(i:Nat) x,xs[i]? = some x->zex x=some (bs.getD i false)
 | [],bs,h=>by cases h;exact⟨rfl,λi x e=>by simp at e⟩
 | y::xs,bs,h=>by
  obtain⟨b,e1,h⟩:=bind_some h;obtain⟨l,z,h⟩:=zB h;subst h;obtain⟨h1,h2⟩:=vN z;refine⟨by simp [h1],λi x e=>?_⟩;cases i with
  | zero=>simp at e;subst e;simpa using e1
  | succ i=>simpa using h2 i x (by simpa using e)
theorem WJ(bs:List Bool):(zi2 bs.length).all (λi=>bs.getD i false)=bs.all id:=by
 rw [zkI];simp only [zkq,zi6,id_eq];constructor
 ·intro h b z
  obtain⟨i,hi,e⟩:=List.mem_iff_getElem.mp z;have:=h i hi;rw [zjd,zi8 hi]at this;rw [<- e];exact this
 ·intro h i hi
  rw [zjd,zi8 hi];exact h _ (zkN hi)
theorem WI(bs:List Bool):(zi2 bs.length).any (λi=>bs.getD i false)=bs.any id:=by
 rw [zkI];simp only [List.any_eq_true,zi6,id_eq];constructor
 ·rintro⟨i,hi,h⟩
  rw [zjd,zi8 hi]at h;exact⟨_,zkN hi,h⟩
 ·rintro⟨b,z,h⟩
  obtain⟨i,hi,e⟩:=List.mem_iff_getElem.mp z;refine⟨i,hi,?_⟩;rw [zjd,zi8 hi,zmO,e];exact h
theorem Ws(Z:X.calm=true):vn X (.builtin "all") (λxs H Q=>∃p k ys bs,xs=[.ref p]/\SqK k X.K H p ys/\Kv ys=some bs/\Q (.bl (bs.all id)) H):=by
 intro pins s σ H vs us Q I rv h;obtain⟨p,k,ys,bs,rfl,hq,ht,q⟩:=h;obtain⟨u,rfl,O⟩:=vg rv;cases O;obtain⟨z,r,S,hz⟩:=I.sq hq;have lt:=S.lt;have U:=r.length;obtain⟨a3,a4⟩:=vN ht;refine call_all_walk (y7 S ⟨_,[_,p],[_],z.toArray.size,_,_,λi=>bs.getD i false,rfl,ZF (A:=X.A.in1) (I.ok.hd Z) k _ p (zjC lt) z.toArray,⟨y8 k _ p,S.at λo e=>zi3 _ e⟩,?_,?_⟩)
 ·intro i v s' Q' E' hv hQ
  have Y:z[i]? = some v:=by simpa using hv
  have hi:i<ys.length:=by rw [U];exact(zjp.mp Y).1
  obtain⟨u,e1,O⟩:=r.get (i:=i) (x:=ys[i]) (by simp [hi]);rw [Y]at e1;cases e1;exact Xt O (a4 i ys[i] (by simp [hi])) hQ
 ·intro h' tk hk
  have e:(zi2 z.toArray.size).all (λi=>bs.getD i false)=bs.all id:=by
   rw [zji,<- U,<- a3];exact WJ bs
  refine⟨.bl (bs.all id),H,I.kept (t':=tk) (λb u e=>hk b u ?_ (zi3 _ e)),by rw [e];rfl,q⟩;simp only [zjm,zjF,or_false];exact zjC (zjq e)
theorem Wr(Z:X.calm=true):vn X (.builtin "any") (λxs H Q=>∃p k ys bs,xs=[.ref p]/\SqK k X.K H p ys/\Kv ys=some bs/\Q (.bl (bs.any id)) H):=by
 intro pins s σ H vs us Q I rv h;obtain⟨p,k,ys,bs,rfl,hq,ht,q⟩:=h;obtain⟨u,rfl,O⟩:=vg rv;cases O;obtain⟨z,r,S,hz⟩:=I.sq hq;have lt:=S.lt;have U:=r.length;obtain⟨a3,a4⟩:=vN ht;refine call_any_walk (y7 S ⟨_,[_,p],[_],z.toArray.size,_,_,λi=>bs.getD i false,rfl,ZF (A:=X.A.in1) (I.ok.hd Z) k _ p (zjC lt) z.toArray,⟨y8 k _ p,S.at λo e=>zi3 _ e⟩,?_,?_⟩)
 ·intro i v s' Q' E' hv hQ
  have Y:z[i]? = some v:=by simpa using hv
  have hi:i<ys.length:=by rw [U];exact(zjp.mp Y).1
  obtain⟨u,e1,O⟩:=r.get (i:=i) (x:=ys[i]) (by simp [hi]);rw [Y]at e1;cases e1;exact Xt O (a4 i ys[i] (by simp [hi])) hQ
 ·intro h' tk hk
  have e:(zi2 z.toArray.size).any (λi=>bs.getD i false)=bs.any id:=by
   rw [zji,<- U,<- a3];exact WI bs
  refine⟨.bl (bs.any id),H,I.kept (t':=tk) (λb u e=>hk b u ?_ (zi3 _ e)),by rw [e];rfl,q⟩;simp only [zjm,zjF,or_false];exact zjC (zjq e)
end
section
variable{X:Cx}{sc:Scope}{N T:List Str}{k:Nat}{e a b c:Expr}{pos p p2:Pos}{f g:CO D}{fq:CO (Sk×List D)}
theorem zg3{K:PySem.W.Frag}{H:Hp}{k:Sk}{a:Addr}{xs:List V}(h:SqK k K H a xs):SqL K H a xs\/SqT K H a xs:=by
 cases k
 ·exact .inl h
 ·exact .inr h
theorem kT(h:SX X sc N T k)(c:yD sc "len" = true)(z:X.mg "len" = none)(O:PQ X e fq)(I:starEach [e] X.env=[(false,eval e X.env)]:=by rfl):PV X (.Call (.Name "len" p) [e] [] pos) (ya fq):=
 jY (xh Qf (h.gl c).1 z PySem.boot_len (zS O jP I) ⋯ ⋯ I rfl) λσ H Q S=>by
  obtain⟨H0,γ,d,rc,U,q⟩:=S;obtain⟨⟨kk,ds⟩,e1,Y⟩:=zB U;subst Y;refine⟨H0,γ,kk,ds,rc,e1,λa xs H' H0' ext h1 h2 r=>⟨a,xs,rfl,zg3 h1,?_⟩⟩;exact q _ H' H0' ext (show V.int xs.length = .int ds.length by rw [r.length])
theorem j5(h:SX X sc N T k)(c:yD sc "tuple" = true)(z:X.mg "tuple" = none)(S:PQ X e fq)(I:starEach [e] X.env=[(false,eval e X.env)]:=by rfl):PV X (.Call (.Name "tuple" p) [e] [] pos) (zO fq):=
 jY (JR Je (h.gl c).1 z PyProof.Rows.boot_tuple (zS S jP I) ⋯ ⋯ I rfl) λσ H Q U=>by
  obtain⟨H0,γ,d,rc,Y,q⟩:=U;obtain⟨⟨kk,ds⟩,e1,Z⟩:=zB Y;subst Z;refine⟨H0,γ,kk,ds,rc,e1,λa xs H' H0' ext h1 h2 r=>⟨a,xs,rfl,?_⟩⟩;cases kk with
  | L=>exact .inl ⟨h1,λl O=>q _ _ _ (ext.trans (Ext.alloc ext.sub O _)) (qC (SqT.of zH) (r.mono (z5 (jA ext.sub O) _)))⟩
  | T=>exact .inr ⟨h1,q _ H' H0' ext (qC (h2 rfl) r)⟩
theorem wb{H H':Hp}(s:Same H H'){a:Addr}(h:H' a=none):H a=none:=by
 cases z:H a with
 | none=>rfl
 | some o=>rw [s a o z]at h;cases h
theorem JA : ∀{ds:List D} {n:Int},Yq ds=some n->∃zs:List Int,ds=zs.map D.int/\n=zs.sum
 | [],n,h=>by cases h;exact⟨[],rfl,rfl⟩
 | d::ds,n,h=>by
  cases d with
  | int i=>
   obtain⟨s,e,h⟩:=zB h;obtain⟨zs,rfl,rfl⟩:=JA e;exact⟨i::zs,rfl,by rw [<- h];simp⟩
  | _=>cases h
theorem JJ{K:PySem.W.Frag}{H:Hp} : ∀{zs:List Int} {xs:List V},Reps K H (zs.map D.int) xs->xs=zs.map V.int
 | [],xs,h=>h.inv_nil
 | z::zs,xs,h=>by
  obtain⟨x,r,e,h1,h2⟩:=Reps.inv_cons h;rw [e,jz h1,JJ h2];rfl
theorem zbT(h:SX X sc N T k)(c:yD sc "sum" = true)(z:X.mg "sum" = none)(U:PQ X e fq)(S:starEach [e] X.env=[(false,eval e X.env)]:=by rfl):PV X (.Call (.Name "sum" p) [e] [] pos) (zcO fq):=
 jY (xh (Wn h.calm) (h.gl c).1 z PyProof.Rows.boot_sum (zS U jP S) ⋯ ⋯ S rfl) λσ H Q Y=>by
  obtain⟨H0,γ,d,rc,I,q⟩:=Y;obtain⟨⟨kk,ds⟩,e1,I⟩:=bind_some I;obtain⟨n,Z,e3⟩:=zB I;subst e3;obtain⟨zs,O,rfl⟩:=JA Z;have O:ds=zs.map D.int:=O;subst O;exact⟨H0,γ,kk,_,rc,e1,λa xs H' H0' ext h1 h2 r=>⟨a,kk,xs,zs,rfl,h1,JJ r,q _ H' H0' ext rfl⟩⟩
theorem zcA{K:PySem.W.Frag}{H:Hp}{d:D}{x:V}{b:Bool}(h:Rep K H d x)(e:zgi d=some b):zex x=some b:=by
 cases d with
 | non=>cases (show x = .non from h);exact e
 | bl c=>cases (show x = .bl c from h);exact e
 | int i=>cases (show x = .int i from h);exact e
 | _=>cases e
theorem ZK{K:PySem.W.Frag}{H:Hp} : ∀{ds:List D} {xs:List V} {bs:List Bool},Reps K H ds xs->yE ds=some bs->Kv xs=some bs
 | [],xs,bs,h,e=>by rw [h.inv_nil];exact e
 | d::ds,xs,bs,h,e=>by
  obtain⟨x,r,z,h1,h2⟩:=h.inv_cons;obtain⟨b,e1,e⟩:=bind_some e;obtain⟨l,I,e⟩:=zB e;subst z e;show(zex x).bind _=_;rw [zcA h1 e1];show((Kv r).map λl=>b::l)=_;rw [ZK h2 I];rfl
theorem zbW(h:SX X sc N T k)(c:yD sc "all" = true)(z:X.mg "all" = none)(S:PQ X e fq)(O:starEach [e] X.env=[(false,eval e X.env)]:=by rfl):PV X (.Call (.Name "all" p) [e] [] pos) (zah fq):=
 jY (xh (Ws h.calm) (h.gl c).1 z PyProof.Rows.boot_all (zS S jP O) ⋯ ⋯ O rfl) λσ H Q U=>by
  obtain⟨H0,γ,d,rc,I,q⟩:=U;obtain⟨⟨kk,ds⟩,e1,I⟩:=bind_some I;obtain⟨bs,Y,Z⟩:=zB I;subst Z;exact⟨H0,γ,kk,_,rc,e1,λa xs H' H0' ext h1 h2 r=>⟨a,kk,xs,bs,rfl,h1,ZK r Y,q _ H' H0' ext rfl⟩⟩
theorem ze1(h:SX X sc N T k)(c:yD sc "any" = true)(z:X.mg "any" = none)(S:PQ X e fq)(O:starEach [e] X.env=[(false,eval e X.env)]:=by rfl):PV X (.Call (.Name "any" p) [e] [] pos) (zbL fq):=
 jY (xh (Wr h.calm) (h.gl c).1 z PyProof.Rows.boot_any (zS S jP O) ⋯ ⋯ O rfl) λσ H Q U=>by
  obtain⟨H0,γ,d,rc,I,q⟩:=U;obtain⟨⟨kk,ds⟩,e1,I⟩:=bind_some I;obtain⟨bs,Y,Z⟩:=zB I;subst Z;exact⟨H0,γ,kk,_,rc,e1,λa xs H' H0' ext h1 h2 r=>⟨a,kk,xs,bs,rfl,h1,ZK r Y,q _ H' H0' ext rfl⟩⟩
theorem zcZ(h:SX X sc N T k)(c:yD sc "int" = true)(z:X.mg "int" = none)(U:PV X e f)(O:starEach [e] X.env=[(false,eval e X.env)]:=by rfl):PV X (.Call (.Name "int" p) [e] [] pos) (Y1 f):=
 jY (JR Wq (h.gl c).1 z PyProof.Rows.boot_int (zS U jP O) ⋯ ⋯ O rfl) λσ H Q Y=>by
  obtain⟨H0,γ,d,rc,I,q⟩:=Y;obtain⟨S,e1,I⟩:=bind_some I;refine⟨H0,γ,S,rc,e1,λv H' H0' ext r=>?_⟩;cases S with
  | int i=>cases I;exact .inl ⟨i,by rw [jz r],q _ H' H0' ext rfl⟩
  | bl b=>cases I;exact .inr ⟨b,by rw [show v = .bl b from r],q _ H' H0' ext rfl⟩
  | _=>cases I
theorem zeY(h:SX X sc N T k)(c:yD sc "max" = true)(z:X.mg "max" = none)(ha:PV X a f)(Y:PV X b g)(U:starEach [a,b] X.env=[(false,eval a X.env),(false,eval b X.env)]:=by rfl)(O:starEach [b] X.env=[(false,eval b X.env)]:=by rfl) :
 PV X (.Call (.Name "max" p) [a,b] [] pos) (KJ f g):=
 jY (xh (Wp h.calm) (h.gl c).1 z PyProof.Rows.boot_max (zS ha (zS Y jP O) (by rw [U,O])) ⋯ ⋯ (by rw [U,O]) (by rw [O];rfl)) λσ H Q Z=>by
  obtain⟨H0,γ,d,rc,I,q⟩:=Z;obtain⟨i,e1,I⟩:=bind_some I;obtain⟨d1,e0,e1⟩:=bind_some e1;obtain⟨j,S,I⟩:=zB I;obtain⟨d2,e2,S⟩:=bind_some S;subst I;refine⟨H0,γ,d1,rc,e0,λv H' H0' x r=>⟨H0',γ,d2,rc.ext x,e2,λv2 H2 a4 x2 r2=>⟨i,j,?_,q _ H2 a4 (x.trans x2) rfl⟩⟩⟩;rw [j8 e1]at r;rw [j8 S]at r2;rw [jz r,jz r2]
end
end DL
namespace DL
open PySem PySem.Spec PySem.Calls PyProof.Rows PySem.W PySem.Builtin PySem.Builtin.ObjectAttr PySem.Builtin.Getset_descriptor
section
variable{prog:Program}{w:World}{A:Around}{E:Value->Shared->Prop}{s:Shared}{K:Frag}{x C:Addr}
theorem vy{M:Model}{h:Heap}{a C:Addr}(x:XObj h a C):Looks M h (typeOf (.ref a)) (.ref C):=by
 obtain⟨o,vs,z,I,hd⟩:=x;exact I ▸ (Looks.ld z).andThen .now
structure XGet(K:Frag)(C:Addr):Prop where
 ga:findIn K (.ref C) "__getattribute__" = some (some (.builtin "BaseException.__getattribute__"))
 gn:findIn K (.ref C) "__getattr__" = some none
 ca:findIn K (.ref C) "__class__" = some (some (.builtin "object.__class__"))
 gt:specialIn K (.builtin "object.__class__") "__get__" = some (some (.builtin "getset_descriptor.__get__"))
 tk:takesIn K (.builtin "object.__class__")=some true
 mo:mroIn K C (.type "object")=some true
 mb:mroIn K C (.type "BaseException")=some true
theorem za8{M:Model}{h:Heap}(X:K.In h)(G:XGet K C):Looks M h (find (.ref x) (.ref C) "__class__") (.bind (.builtin "getset_descriptor.__get__") (.builtin "object.__class__")):=by
 have z:=looks_findIn (M:=M) X G.ca;have I:Looks M h (getOf (some (.builtin "object.__class__"))) (some (.builtin "getset_descriptor.__get__")):=looks_specialIn X G.gt;have O:=looks_takesIn (M:=M) X G.tk;have S:Looks M h (dataDescriptor? (some (.builtin "object.__class__")) (some (.builtin "getset_descriptor.__get__"))) (some (.builtin "getset_descriptor.__get__",.builtin "object.__class__")):=O.andThen .now;exact z.andThen (I.andThen (S.andThen (Looks.tag .now)))
theorem za9{tp:Value}{R:Result->Shared->Prop}(X:K.In s.heap)(I:XObj s.heap x C)(G:XGet K C)(h:R (.ok (.ret (.ref C))) s) :
 codeAny (model prog w) A (.call (.builtin "getset_descriptor.__get__") ⟨[.builtin "object.__class__",.ref x,tp],[]⟩) R s:=by
 obtain⟨h0,g0,z,O,S⟩:=s;have U:=vy (M:=model prog w) I;have Y:=looks_mroIn (M:=model prog w) X G.mo;refine zmI KF.slot_gs.plain KF.entry_gs (KF.slot_gs.check _ _ _ _ _ _ _ _ KF.type_class (KF.args_gs _ _ _) ?_);unfold Builtin.«getset_descriptor.__get__» descrGet;rw [dga_obj];refine zi0 (zi4 ?_);unfold descrGetter descrCheckInstance descrNameAndClass isInstance;simp only [KF.owner_class]
 repeat lk
 refine And.intro (Code.quiet_builtin _ ⋯) (codeAny_builtin KF.entry_class ?_);unfold Builtin.«object.__class__» shownTypeOf
 repeat lk
 exact h
theorem V5{z:Value}{Q:Unit->Shared->Prop}{M:Model}(X:K.In s.heap)(I:XObj s.heap x C)(G:XGet K C)(O:Q () s):wpAny M A (checkBuiltinCall "BaseException.__getattribute__" ⟨[.ref x,z],[]⟩) Q E s:=by
 obtain⟨h0,g0,d0,t0,o0⟩:=s;have S:=vy (M:=M) I;have U:=looks_mroIn (M:=M) X G.mb;have Y:builtinKind "BaseException.__getattribute__" = some .slot:=by decide +kernel
 have Z:splitId "BaseException.__getattribute__" = some ("BaseException","__getattribute__"):=by decide +kernel
 have ha:=PySem.F.args_bexc_ga (.ref x) z;simp only [checkBuiltinCall,Y,Z];refine zi0 (show wpAny _ _ (isInstance (.ref x) (.type "BaseException")) _ _ _ from ?_);refine(S.andThen U).at ?_;rw [if_neg ⋯];unfold argsOk at ha;cases hs:Manifest.signature? "BaseException.__getattribute__" with
 | none=>exact zi4 O
 | some a3=>
  rw [hs]at ha;exact zmQ ha O
theorem V4{Q:Option Value->Shared->Prop}(X:K.In s.heap)(I:XObj s.heap x C)(G:XGet K C)(h:Q (some (.ref C)) {s with toks:=s.toks+1}):wpAny (model prog w) A (getAttr? (.ref x) "__class__") Q E s:=by
 obtain⟨h0,g0,z,O,S⟩:=s;have U:=vy (M:=model prog w) I;have Y:=looks_findIn (M:=model prog w) X G.ga;have L2:=looks_findIn (M:=model prog w) X G.gn;have Z:=za8 (M:=model prog w) (x:=x) X G;have B:=PySem.F.attr_ValueError.ga.bind (.ref x);unfold getAttr? getAttrBy? getAttrBy;refine zi0 (wpAny_mkText (zi0 (zlb (zkJ (zi0 (U.at (zi0 (Y.at ?_))))))));show wpAny _ _ (getAttrByItsOwn _ _ _ _ _ _) _ _ _;unfold getAttrByItsOwn;refine zi0 (L2.at ?_);refine zi0 (zlb (zkJ ?_));show wpAny _ _ (boundAndCalled (.builtin "BaseException.__getattribute__") (.ref x) _) _ _ _;unfold boundAndCalled;refine zi0 (zmQ B ?_);refine wpAny_call (zmI PySem.F.attr_ValueError.ga.plain PySem.F.entry_bexc_ga (V5 (s:=⟨h0,g0,z,O+1,S⟩) X I G ?_));refine zi0 (zi4 ?_);refine zi0 (zi4 ?_);refine zi0 (U.at (zi0 (Z.at ?_)));show wpAny _ _ (bindTo _ _ _ _) _ _ _;unfold bindTo;refine zi0 (zkJ (wpAny_call (za9 (s:=⟨h0,g0,z,O+1,S⟩) X I G ?_)));refine zi4 ?_;exact zi4 (zi4 h)
theorem zcp(h:zct K C=true):XGet K C:=by
 unfold zct at h;simp only [Bool.and_eq_true,beq_iff_eq]at h;exact⟨h.1.1.1.1.1.1.1.1.2,h.1.1.1.1.1.1.1.2,h.1.1.1.1.1.1.2,h.1.1.1.2,h.1.1.2,h.1.1.1.1.1.2,h.1.1.1.1.2⟩
theorem zaV(G:XGet K C)(U:(clsIn K C).isSome=true):KitX K (.ref x) (.ref C) (λh=>XObj h x C) where
 ty:=λ_ _ _ I=>vy I
 it:=λ_ _ X _=>by
  obtain⟨Y,O⟩:=zke.mp U;unfold clsIn at O;split at O
  ·rename_i Z d' a0 a1 S
   intro A' Q' E' s' k q;unfold isType loadHead;exact zi0 (wpAny_loadPart (k _ _ (X _ _ S)) (zi4 q))
  ·cases O
 ne:=λh tp dd a6 n sl X a2=>by
  obtain⟨Y,O⟩:=zke.mp U;refine zmP.mpr λq=>?_;have e:C=tp:=zjy.inj (beq_iff_eq.mp q);subst e;unfold clsIn at O;split at O
  ·rename_i Z d' a0 a1 S
   have z:=(X _ _ S).symm.trans a2;cases z
  ·cases O
 ca:=λX I k=>V4 X I G k
theorem zcq(h:zct K C=true):(clsIn K C).isSome=true:=by
 unfold zct at h;simp only [Bool.and_eq_true]at h;have:=h.1.2;cases q:clsIn K C with
 | none=>rw [q]at this;cases this
 | some z=>rfl
end
end DL
namespace DL
open PySem PySem.Spec PyProof.Rows L2
section
variable{X:Cx}{sc:Scope}{N T:List Str}{k:Nat}{e a b c:Expr}{pos p p2:Pos}{f g:CO D}{fq:CO (Sk×List D)}
theorem zcd{n:Nat}{i:Int}{j:Nat}(h:ixD n i=some j):ixN n i=some j:=by
 unfold ixD at h;unfold ixN;split at h
 ·rename_i h1;rw [if_pos h1.1,if_pos h1.2];exact h
 ·split at h
  ·rename_i h1 h2;rw [if_neg ⋯,if_pos ⋯];exact h
  ·cases h
theorem zV(ha:PQ X a fq)(Y:PV X b g)(Z:Xl b:=by intro _ _;rfl):PV X (.Subscript a b pos) (sIx fq g):=
 jY (zfg (ix_list.or zfL) ha Y Z) λσ H Q hZ=>by
  obtain⟨H0,γ,d,rc,z,q⟩:=hZ;obtain⟨⟨kk,ds⟩,e1,z⟩:=bind_some z;obtain⟨i,O,z⟩:=bind_some z;obtain⟨di,e3,O⟩:=bind_some O;obtain⟨j,e4,z⟩:=bind_some z;refine⟨H0,γ,kk,ds,rc,e1,λp xs H' H0' ext h1 h2 r=>⟨H0',γ,di,rc.ext ext,e3,λv2 H2 a4 I r2=>?_⟩⟩;rw [j8 O]at r2;obtain⟨x,hx,rx⟩:=r.get z;have S:atI xs i=some x:=by
   unfold atI;rw [r.length,zcd e4];exact hx
  have U:=q x H2 a4 (ext.trans I) (rx.mono I.s0);cases kk with
  | L=>exact .inl ⟨p,xs,i,x,rfl,jz r2,I.s1.seq h1,S,U⟩
  | T=>exact .inr ⟨p,xs,i,x,rfl,jz r2,sameT I.s1 h1,S,U⟩
theorem yS{P:Program}{w:World}{A:Around}{E:Value->Shared->Prop}{s:Shared}{t sl:Addr}{items:Array Value}{I O:Value}{lo hi:Option Int}{Q:Value->Shared->Prop}(z:IsTup s.heap t items)(S:s.heap.IsSliceOf sl I O .none)(pl:IsPart I lo)(U:IsPart O hi)
 (hw:HT.sIx items.size 0 lo=0/\HT.sIx items.size items.size hi=items.size) (h:Q (.ref t) s):wpAny (model P w) A (getItem (.ref t) (.ref sl)) Q E s:=by
 obtain⟨os,Y,Z,a2⟩:=id S;have a0:s.TypeIs (.ref sl) "slice":=⟨os,Y,Z⟩;unfold getItem
 try with_reducible refine zkJ ?_
 first | refine zi0 (zi4 ?_) | skip
 refine zi0 (wpAny_sequenceKey z.typeIs ⋯ ?_);refine zi0 (zjS (name:=zjZ "__getitem__") z.typeIs zkf
  (zj2 zkf z.typeIs entry_tuple_getitem ?_ (args_tuple_getitem _ _)))
 show wpAny _ _ (Builtin.Tuple.tupleItemsOf (.ref t) >>= _) _ _ s;refine zi0 (zml z ?_);refine zi0 (zl6 a0 ?_);rw [if_pos ⋯];refine zi0 (HT.sliceApplied_gen S pl U ?_);have a1:(((HT.sIx items.size 0 lo:Nat):Int)==0 && (1:Int)==1 && (HT.sIx items.size items.size hi - HT.sIx items.size 0 lo)==items.size)=true:=by
  rw [hw.1,hw.2];simp
 show wpAny _ _ (if (((HT.sIx items.size 0 lo:Nat):Int)==0 && (1:Int)==1 && (HT.sIx items.size items.size hi - HT.sIx items.size 0 lo)==items.size)=true then _ else _) _ _ s;rw [if_pos a1];refine zi0 (m:=zk1 _) ?_;unfold zk1;refine zi0 (zl6 z.typeIs (zi4 ?_));rw [if_pos ⋯];exact zi0 (zlz (zi4 ⟨_,rfl,zi4 h⟩))
def zg7(K:PySem.W.Frag):V->Option Int->Option Int->Hp->VK->Prop:=λx lo hi H Q=>∃a xs,x = .ref a/\SqT K H a xs/\(HT.sIx xs.length 0 lo=0/\HT.sIx xs.length xs.length hi=xs.length->Q (.ref a) H)/\∀p,H p=none->Q (.ref p) (upd H p (.tup (zdO xs lo hi)))
theorem zcM:SlR X (zg7 X.K):=by
 intro pins s σ H x v Y Z lo hi sl Q I z O pl S h;obtain⟨a,xs,rfl,hx,q1,q2⟩:=h;by_cases hw:HT.sIx xs.length 0 lo=0/\HT.sIx xs.length xs.length hi=xs.length
 ·cases z
  obtain⟨a2,r,U,hz⟩:=I.tuple hx;have a3:a2.toArray.size=xs.length:=by rw [zji];exact r.length.symm
  refine⟨"tuple",_,zkf.lookup,U.typeIs,?_⟩;exact yS U O pl S (by rw [a3];exact hw) ⟨.ref a,H,I,rfl,q1 hw⟩
 ·exact zeH pins s σ H (.ref a) v Y Z lo hi sl Q I z O pl S ⟨a,xs,rfl,hx,hw,q2⟩
theorem vB(n d:Nat)(o:Option Int):Q9 n d o=HT.sIx n d o:=by cases o<;>rfl
theorem zak{K:PySem.W.Frag}{H:Hp}{ds:List D}{xs:List V}(r:Reps K H ds xs)(lo hi:Option Int):Reps K H (Q8 ds lo hi) (zdO xs lo hi):=by
 unfold Q8 zdO;rw [<- vB,<- vB,r.length];exact(r.drop _).take _
theorem Wf{ds:List D}{lo hi:Option Int}(h:HT.sIx ds.length 0 lo=0/\HT.sIx ds.length ds.length hi=ds.length):Q8 ds lo hi=ds:=by
 unfold Q8;rw [vB,vB,h.1,h.2];simp
def tB(K:PySem.W.Frag)(f:CO (Option Int)):TO:=λσ H Q=>∃H0 γ o,RC K H0 H σ γ/\f γ=some o/\∀H' H0',Ext H0 H H0' H'->Q o H'
theorem ZV:L2.PO X none (tB X.K Yr):=λpins s σ H Q I ⟨H0,γ,o,rc,z,q⟩=>zc6 pins s σ H Q I (by cases z;exact q H H0 (Ext.refl rc.sub))
theorem xn(h:PV X e f):L2.PO X (some e) (tB X.K (sBd f)):=λpins s σ H Q I ⟨H0,γ,o,rc,z,q⟩=>zc5 h pins s σ H Q I (by
 obtain⟨i,e1,O⟩:=zB z;obtain⟨d,S,e1⟩:=bind_some e1;subst O;refine⟨H0,γ,d,rc,S,λv H' H0' x r=>?_⟩;rw [j8 e1]at r;exact⟨i,jz r,q H' H0' x⟩)
theorem vY{lo hi:Option Expr}{O S:CO (Option Int)}(ha:PV X a f)(hl:L2.PO X lo (tB X.K O))(hh:L2.PO X hi (tB X.K S)):PV X (.Subscript a (.Slice lo hi none p2) pos) (Qs f O S):=
 jY (zaA zcM ha hl hh) λσ H Q hZ=>by
  obtain⟨H0,γ,d,rc,z,q⟩:=hZ;obtain⟨U,e1,z⟩:=bind_some z;obtain⟨l,e2,z⟩:=bind_some z;obtain⟨u,e3,z⟩:=bind_some z;refine⟨H0,γ,U,rc,e1,λv H' H0' x r=>⟨H0',γ,l,rc.ext x,e2,λH2 a6 I=>⟨a6,γ,u,(rc.ext x).ext I,e3,λH3 a8 x3=>?_⟩⟩⟩;have Y:=x.trans (I.trans x3);cases U with
  | tup ds=>
   cases z;obtain⟨a1,xs,rfl,h1,h2⟩:=k4 (r.mono (I.trans x3).s0);have aa:=h2.length;refine⟨a1,xs,rfl,sameT x3.sub h1,λhw=>?_,λp Z=>?_⟩
   ·rw [aa]at hw
    exact q _ H3 a8 Y (by rw [Wf hw];exact qC h1 h2)
   ·exact q _ _ _ (Y.trans (Ext.alloc x3.sub Z _)) (qC (SqT.of zH) ((zak h2 _ _).mono (z5 (jA x3.sub Z) _)))
  | _=>cases z
theorem XB{K:PySem.W.Frag}{H:Hp}{ds:List D}{xs:List V}(r:Reps K H ds xs) : ∀n:Nat,Reps K H (zi5 n ds).flatten (zi5 n xs).flatten
 | 0=>Reps.nil
 | n+1=>by rw [zkw,zkw,zkV,zkV];exact r.append (XB r n)
theorem Vl{U:CO (Sk×List D)}(ha:PQ X a fq)(hb:PQ X b U):PO X (.BinOp a .Add b pos) (yj fq U):=
 jY (zaB zaH ha hb) λσ H Q hZ=>by
  obtain⟨H0,γ,ds,rc,z,q⟩:=hZ;obtain⟨⟨k1,Y⟩,e1,z⟩:=bind_some z;obtain⟨⟨k2,Z⟩,e2,z⟩:=bind_some z;cases k1<;>cases k2<;>try (simp at z;done)
  dsimp only at z;by_cases O:Y.length+Z.length<=lim
  ·rw [if_pos O]at z;cases z
   refine⟨H0,γ,.L,Y,rc,e1,λa1 xs H1 a9 x1 h1 h2 r1=>⟨a9,γ,.L,Z,rc.ext x1,e2,λa2 ys H2 ab I h3 h4 r2=>⟨a1,a2,xs,ys,rfl,rfl,I.s1.seq h1,h3,k7 (by rw [r1.length,r2.length];exact O),λp S=>?_⟩⟩⟩;exact q p (xs++ys) _ ab (x1.trans (I.trans (Ext.hide I.sub S _))) (wb (x1.trans I).s1 S) (jA I.sub S) zH ((r1.mono I.s0).append r2)
  ·rw [if_neg O]at z;cases z
theorem jh{K:PySem.W.Frag}{t c:String}{b:Bool}(h:(if ((zlY t) == .type c)=true then some true else if PySem.W.kitMeta c=true then (fastBuiltinMro t).map (·.contains (.type c))else none)=some b):zkC K (.type t) (.type c)=some b:=h
def tyN:Ty->String
 | .int=>"int"
 | .bool=>"bool"
 | .str=>"str"
 | .tuple=>"tuple"
 | .list=>"list"
def zhq:D->String
 | .non=>"NoneType"
 | .bl _=>"bool"
 | .int _=>"int"
 | .str _=>"str"
 | .tup _=>"tuple"
 | .lst _=>"list"
 | .exc _ _=>""
 | .dic _ _=>"dict"
 | .dct _ _=>"dict"
theorem JZ{K:PySem.W.Frag}(T:Ty)(d:D)(hx : ∀c n,d ≠ .exc c n):zkC K (.type (zhq d)) (.type (tyN T))=some (zce T d):=by
 cases d with
 | non=>
  cases T with
  | int=>exact jh (t:="NoneType") (c:="int") (b:=false) ⋯
  | bool=>exact jh (t:="NoneType") (c:="bool") (b:=false) ⋯
  | str=>exact jh (t:="NoneType") (c:="str") (b:=false) ⋯
  | tuple=>exact jh (t:="NoneType") (c:="tuple") (b:=false) ⋯
  | list=>exact jh (t:="NoneType") (c:="list") (b:=false) ⋯
 | bl y=>
  cases T with
  | int=>exact jh (t:="bool") (c:="int") (b:=true) ⋯
  | bool=>exact jh (t:="bool") (c:="bool") (b:=true) ⋯
  | str=>exact jh (t:="bool") (c:="str") (b:=false) ⋯
  | tuple=>exact jh (t:="bool") (c:="tuple") (b:=false) ⋯
  | list=>exact jh (t:="bool") (c:="list") (b:=false) ⋯
 | int y=>
  cases T with
  | int=>exact jh (t:="int") (c:="int") (b:=true) ⋯
  | bool=>exact jh (t:="int") (c:="bool") (b:=false) ⋯
  | str=>exact jh (t:="int") (c:="str") (b:=false) ⋯
  | tuple=>exact jh (t:="int") (c:="tuple") (b:=false) ⋯
  | list=>exact jh (t:="int") (c:="list") (b:=false) ⋯
 | str y=>
  cases T with
  | int=>exact jh (t:="str") (c:="int") (b:=false) ⋯
  | bool=>exact jh (t:="str") (c:="bool") (b:=false) ⋯
  | str=>exact jh (t:="str") (c:="str") (b:=true) ⋯
  | tuple=>exact jh (t:="str") (c:="tuple") (b:=false) ⋯
  | list=>exact jh (t:="str") (c:="list") (b:=false) ⋯
 | tup y=>
  cases T with
  | int=>exact jh (t:="tuple") (c:="int") (b:=false) ⋯
  | bool=>exact jh (t:="tuple") (c:="bool") (b:=false) ⋯
  | str=>exact jh (t:="tuple") (c:="str") (b:=false) ⋯
  | tuple=>exact jh (t:="tuple") (c:="tuple") (b:=true) ⋯
  | list=>exact jh (t:="tuple") (c:="list") (b:=false) ⋯
 | lst y=>
  cases T with
  | int=>exact jh (t:="list") (c:="int") (b:=false) ⋯
  | bool=>exact jh (t:="list") (c:="bool") (b:=false) ⋯
  | str=>exact jh (t:="list") (c:="str") (b:=false) ⋯
  | tuple=>exact jh (t:="list") (c:="tuple") (b:=false) ⋯
  | list=>exact jh (t:="list") (c:="list") (b:=true) ⋯
 | exc c n=>exact absurd rfl (hx c n)
 | dic c n=>
  cases T with
  | int=>exact jh (t:="dict") (c:="int") (b:=false) ⋯
  | bool=>exact jh (t:="dict") (c:="bool") (b:=false) ⋯
  | str=>exact jh (t:="dict") (c:="str") (b:=false) ⋯
  | tuple=>exact jh (t:="dict") (c:="tuple") (b:=false) ⋯
  | list=>exact jh (t:="dict") (c:="list") (b:=false) ⋯
 | dct c n=>
  cases T with
  | int=>exact jh (t:="dict") (c:="int") (b:=false) ⋯
  | bool=>exact jh (t:="dict") (c:="bool") (b:=false) ⋯
  | str=>exact jh (t:="dict") (c:="str") (b:=false) ⋯
  | tuple=>exact jh (t:="dict") (c:="tuple") (b:=false) ⋯
  | list=>exact jh (t:="dict") (c:="list") (b:=false) ⋯
theorem zaZ{pins:List (Addr×Obj)}{σ:St}{H0 H:Hp}{s:Shared}{A:Around}{E:Value->Shared->Prop}{Q:Value->Shared->Prop}{d:D}{x:V}{u:Value}(I:Inv X pins σ H s)(sub:Same H0 H)(O:RelV x u)(r:Rep X.K H0 d x)(T:Ty)
 (h : ∀tk,Q (.bool (zce T d)) {s with toks:=tk}):wpAny (model X.prog X.w) A (call (.builtin "isinstance") [u,.type (tyN T)]) Q E s:=by
 cases d with
 | non=>have e:=JZ (K:=X.K) T .non (λ_ _ z=>nomatch z);cases (show x = .non from r);cases (show u=zkz from O);exact zjK PySem.W.kitx_none I.kIn zkS e (λz=>nomatch z) h
 | bl y=>have e:=JZ (K:=X.K) T (.bl y) (λ_ _ z=>nomatch z);cases (show x = .bl y from r);cases (show u=zmJ y from O);exact zjK PySem.W.kitx_bool I.kIn zkS e (λz=>nomatch z) h
 | int i=>have e:=JZ (K:=X.K) T (.int i) (λ_ _ z=>nomatch z);cases (show x = .int i from r);obtain⟨t,q⟩:=(show ∃t,u=Value.int i t from O);cases q;exact zjK PySem.W.kitx_int I.kIn zkS e (λz=>nomatch z) h
 | str y=>have e:=JZ (K:=X.K) T (.str y) (λ_ _ z=>nomatch z);cases (show x = .str y from r);obtain⟨t,q⟩:=(show ∃t,u=zmA y t from O);cases q;exact zjK PySem.W.kitx_str I.kIn zkS e (λz=>nomatch z) h
 | tup ds=>
  have e:=JZ (K:=X.K) T (.tup ds) (λ_ _ z=>nomatch z);obtain⟨a,xs,rfl,h1,h2⟩:=k4 r;cases (show u=zjy a from O);obtain⟨a0,rv,⟨o,U,Y,_⟩,hz⟩:=I.tuple (sameT sub h1);exact zjK PySem.W.kitx_tuple I.kIn ⟨o,U,Y⟩ e (λz=>nomatch z) h
 | lst ds=>
  have e:=JZ (K:=X.K) T (.lst ds) (λ_ _ z=>nomatch z);obtain⟨a,xs,rfl,h1,h2⟩:=zdq r;cases (show u=zjy a from O);obtain⟨a0,rv,p,hz⟩:=I.list (sub.seq h1);obtain⟨o,U,Y,_⟩:=p.isList;exact zjK zmD I.kIn ⟨o,U,Y⟩ e (λz=>nomatch z) h
 | exc c n=>
  obtain⟨a,rfl,Z⟩:=(show ∃a,x = .ref a/\XRep X.K H0 c n a from r);cases (show u=zjy a from O);obtain⟨C,φ,g1,g2,g3,_⟩:=Z.ex;obtain⟨S,_,x1,_,_⟩:=zcs Z.all Z.mem g1;obtain⟨p,_,_⟩:=(show ObjOk X.prog X.w H s.heap a (.ext φ)from I.hok a _ (sub _ _ g2));have e:zkC X.K (.ref C) (.type (tyN T))=some (zce T (.exc c n)):=by
   unfold zct at x1;simp only [Bool.and_eq_true,List.all_cons,List.all_nil,beq_iff_eq]at x1;have t:=x1.1.1.1.1.1.1.1.1.1.1;cases T
   ·exact t.1
   ·exact t.2.1
   ·exact t.2.2.1
   ·exact t.2.2.2.1
   ·exact t.2.2.2.2.1
  exact zjK (zaV (zcp x1) (zcq x1)) I.kIn (g3 _ p) e (λz=>nomatch z) h
 | dic ks vs=>
  have e:=JZ (K:=X.K) T (.dic ks vs) (λ_ _ z=>nomatch z);obtain⟨a,xs,rfl,⟨kk,_,_,h1⟩,_⟩:=(show ∃a xs,x = .ref a/\DRp H0 a ks xs/\Reps X.K H0 vs xs from r);exact VR I O (.dK (sub _ _ h1)) e h
 | dct ks vs=>
  have e:=JZ (K:=X.K) T (.dct ks vs) (λ_ _ z=>nomatch z);obtain⟨a,xs,rfl,⟨_,o,zs,h1,h2,_⟩,_⟩:=(show ∃a xs,x = .ref a/\DRt X.K H0 a ks xs/\Reps X.K H0 vs xs from r);cases (show u=zjy a from O);obtain⟨U,_⟩:=(show ObjOk X.prog X.w H s.heap a (atO a o)from I.hok a _ (sub _ _ h1));exact zjK zmE I.kIn ⟨o,U,h2.1.1⟩ e (λz=>nomatch z) h
theorem zeZ{ty:Str}(T:Ty)(h:SX X sc N L k)(c:yD sc "isinstance" = true)(z:X.mg "isinstance" = none)(O:yD sc ty=true)(z2:X.mg ty=none)(Z:bootBuiltins ty=some (.type (tyN T)))(ha:PV X a f)
 (U:starEach [a,.Name ty p2] X.env=[(false,eval a X.env),(false,eval (.Name ty p2) X.env)]:=by rfl):PV X (.Call (.Name "isinstance" p) [a,.Name ty p2] [] pos) (sIs T f):=by
 intro pins s σ H Q I ⟨H0,γ,d,rc,ef,q⟩;obtain⟨Y,e1,e2⟩:=zB ef;subst e2;refine zlt (kW I (h.gl c).1 z PyProof.Rows.boot_isinstance ?_ ⋯ ⋯);refine zmn ?_ (by rw [U];rfl) rfl;rw [U];show wpAny _ _ (spliced ((false,eval a X.env)::backTo pos [(false,eval (.Name ty p2) X.env)])) _ _ s;refine zk2 (thn (ha pins s σ H _ I ⟨H0,γ,Y,rc,e1,λv H' H0' x r=>(show(λv H'=>∃H0',Ext H0 H H0' H'/\Rep X.K H0' Y v) v H' from⟨H0',x,r⟩)⟩) λu s1 hZ=>?_);obtain⟨x,H1,S,r1,a4,x1,rr⟩:=hZ;show wpAny _ _ (spliced ((false,eval (.Name ty p2) X.env)::[])) _ _ s1;refine zk2 (kW S (h.gl O).1 z2 Z ?_ (h.gl O).2.1 (h.gl O).2.2);refine zl2 ?_;exact zaZ S x1.sub r1 rr T λtk=>⟨.bl _,H1,S.tok tk,rfl,q _ H1 a4 x1 rfl⟩
end
section
variable{X:Cx}{sc:Scope}{N L:List Str}{k:Nat}{e a b c:Expr}{pos p p2:Pos}{f g:CO D}{fq:CO (Sk×List D)}
theorem j7{tg:Expr}(h:SX X sc N L k)(c:yD sc "range" = true)(z:X.mg "range" = none)(ha:PV X a f)(I:starEach [a] X.env=[(false,eval a X.env)]:=by rfl):PIF X tg (.Call (.Name "range" p) [a] [] pos) (zX f):=KU (h.gl c).1 z ha I
theorem ZU{tg:Expr}(h:SX X sc N L k)(c:yD sc "range" = true)(z:X.mg "range" = none)(ha:PV X a f)(I:PV X b g)(O:starEach [a,b] X.env=[(false,eval a X.env),(false,eval b X.env)]:=by rfl)(S:starEach [b] X.env=[(false,eval b X.env)]:=by rfl) :
 PIF X tg (.Call (.Name "range" p) [a,b] [] pos) (qQ f g):=KT (h.gl c).1 z ha I O S
theorem Zi{elts:List Expr}{x1:Nat}{tpos:Pos}(h:SX X sc N L k)(c:yD sc "zip" = true)(z:X.mg "zip" = none)(ha:PV X a f)(I:PV X b g)(O:starEach [a,b] X.env=[(false,eval a X.env),(false,eval b X.env)]:=by rfl)(S:starEach [b] X.env=[(false,eval b X.env)]:=by rfl) :
 PIF X (.Tuple elts x1 tpos) (.Call (.Name "zip" p) [a,b] [] pos) (wK f g):=zc9 (h.gl c).1 z ha I O S
theorem Vb(h:SX X sc N L k)(c:yD sc "isinstance" = true)(z:X.mg "isinstance" = none)(I:yD sc "int" = true)(z2:X.mg "int" = none)(ha:PV X a f)
 (O:starEach [a,.Name "int" p2] X.env=[(false,eval a X.env),(false,eval (.Name "int" p2) X.env)]:=by rfl):PV X (.Call (.Name "isinstance" p) [a,.Name "int" p2] [] pos) (sIs .int f):=zeZ .int h c z I z2 PyProof.Rows.boot_int ha O
theorem KO(h:SX X sc N L k)(c:yD sc "isinstance" = true)(z:X.mg "isinstance" = none)(I:yD sc "bool" = true)(z2:X.mg "bool" = none)(ha:PV X a f)
 (O:starEach [a,.Name "bool" p2] X.env=[(false,eval a X.env),(false,eval (.Name "bool" p2) X.env)]:=by rfl):PV X (.Call (.Name "isinstance" p) [a,.Name "bool" p2] [] pos) (sIs .bool f):=zeZ .bool h c z I z2 PyProof.Rows.boot_bool ha O
theorem zar(ha:PQ X a fq)(he : ∀z,isTrue a X.env z=(do let v <- z;standAt a.pos;holding [v] (truthy v)):=by intro _;rfl):PTD X a (zac fq):=
 zat (zas ha he) λσ H Q I=>by
  obtain⟨H0,γ,t,rc,O,q⟩:=I;obtain⟨⟨kk,ds⟩,e1,S⟩:=zB O;subst S;refine⟨H0,γ,kk,ds,rc,e1,λp xs H' H0' ext h1 h2 r=>⟨!ds.isEmpty,?_,q H' H0' ext⟩⟩;have e:xs.isEmpty=ds.isEmpty:=by
   have:=r.length;cases xs<;>cases ds<;>simp_all
  rw [<- e];cases kk with
  | L=>exact .inl ⟨xs,h1,rfl⟩
  | T=>exact .inr (.inl ⟨xs,h1,rfl⟩)
theorem QG(i:Nat){x:Str}{apos cpos np:Pos}(h:SX X sc N L k)(c:WY sc N i x=true)(ha:PV X a f)(z:starEach [a] X.env=[(false,eval a X.env)]:=by rfl)
 (I:attributeBase (.Name x np) "append" X.env (eval (.Name x np) X.env)=eval (.Name x np) X.env:=by rfl)
 (O:((backTo cpos (starEach [a] X.env)).all (λx=> !x.1) && (backToKw cpos (keywordEach [] X.env)).all (λx=>x.1.isSome)
   && decide ([a].length+([]:List Keyword).length+(if ([]:List Keyword).isEmpty then 0 else 1)<30))=true:=by rfl)
 (S:(apos.endLine==cpos.line)=true:=by rfl) (U:swapsWith (.Call (.Attribute (.Name x np) "append" apos) [a] [] cpos) none pos.line X.env=pure false:=by rfl) :
 PSD X (.Expr (.Call (.Attribute (.Name x np) "append" apos) [a] [] cpos) pos) (qR i f):=
 KQ i (zdf PySem.F.plainAttrs_list PySem.F.slot_list_append PySem.F.type_list_append Vx (h.var c) (zS ha jP z) I O S z rfl) U
theorem jX(i:Nat){st:Stmt}{f:CO (List D)}(h:PS X st (Ky (tO X.K f) (xW i))):PSD X st (zU i (jp f)):=qZ h λD σ H I=>by
 obtain⟨E0,E,H0,γ,Y,rs,z,O⟩:=I;obtain⟨d,e1,z⟩:=zB z;obtain⟨ds,S,e1⟩:=zB e1;subst z e1;exact⟨H0,γ,ds,rs.rc,S,λa xs H' H0' x h1 h2 U r=>O _ _ _ ((rs.step (x.show h1 h2 U rs.rc.sub)).setVal (QE (SqL.of zH) (r.mono (z5 h2 _))))⟩
theorem psc{scope:Scope}{own:List Str}{fr:List (Str×Nat)}{elt tg iter:Expr}{cpos z I:Pos}{src:CO (List D)}{T:Tg}{y:Str}(i:Nat)(h:SX X sc N L k)(c:Kx sc N L i y=true)
 (O:X.calm=true) (ok:CompOk X scope fr) (S : ∀i∈T.idx,i<own.length) (hi:PIC X tg iter src) (U : ∀fp s2 H2,PG (jq X scope (own++fr.map (·.1)) fp s2 H2) tg (gOf X.K T))
 (he : ∀fp s2 H2,PV (jq X scope (own++fr.map (·.1)) fp s2 H2) elt f) (Y : ∀x,foldedSetIterable iter X.env x=pure x:=by intro _;rfl) :
 PS X (.Assign [.Name y I] (.ListComp elt [⟨tg,iter,[],0⟩] scope cpos) z) (Ky (tO X.K (zD src T own.length (fr.map (·.2)) jb f)) (xW i)):=by
 obtain⟨h1,h2,Z⟩:=h.loc c;exact zaw h.ndX h1 h2 Z O ok S hi U he Y
theorem zhe{scope:Scope}{own:List Str}{fr:List (Str×Nat)}{elt tg iter z:Expr}{cpos I O:Pos}{src:CO (List D)}{T:Tg}{y:Str}{kk:CO Bool}(i:Nat)(h:SX X sc N L k)(c:Kx sc N L i y=true)
 (S:X.calm=true) (ok:CompOk X scope fr) (U : ∀i∈T.idx,i<own.length) (hi:PIC X tg iter src) (Y : ∀fp s2 H2,PG (jq X scope (own++fr.map (·.1)) fp s2 H2) tg (gOf X.K T))
 (Z : ∀fp s2 H2,PTD (jq X scope (own++fr.map (·.1)) fp s2 H2) z kk) (he : ∀fp s2 H2,PV (jq X scope (own++fr.map (·.1)) fp s2 H2) elt f) (hs : ∀x,foldedSetIterable iter X.env x=pure x:=by intro _;rfl) :
 PS X (.Assign [.Name y O] (.ListComp elt [⟨tg,iter,[z],0⟩] scope cpos) I) (Ky (tO X.K (zD src T own.length (fr.map (·.2)) kk f)) (xW i)):=by
 obtain⟨h1,h2,h3⟩:=h.loc c;exact KR h.ndX h1 h2 h3 S ok U hi Y Z he hs
theorem XJ{tg:Expr}{T:Tg}(I:PG X tg (gOf X.K T))(he:PV X e f)(O:swapsWithSole [tg] e pos.line X.env=pure false:=by rfl)(hw:swappedStores [tg] e X.env=pure none:=by rfl)
 (h1:(assignEach [tg] X.env).map (·.2)=[assign tg X.env]:=by rfl):PSD X (.Assign [tg] e pos) (Qx T f):=
 qZ (zb1 he I O hw h1) λD σ H S=>by
  obtain⟨E0,E,H0,γ,fl,rs,z,U⟩:=S;obtain⟨d,e1,z⟩:=bind_some z;obtain⟨γ1,Y,z⟩:=zB z;subst z;refine⟨H0,γ,d,rs.rc,e1,λv H' H0' x r=>?_⟩;exact wy x.sub r Y λZ _ a0=>U Z H' H0' (a0 E0 E (rs.step x))
end
structure FnD(P:Program)(w:World)(K:PySem.W.Frag)(mg:Str->Option Value)(base:Heap)(k:Nat)(x:Str)(n:Nat)(F:List D->Option Res):Prop where
 ex : ∃(f:Addr) (fd:FuncData) (ps:List Str),ps.length=n/\FnOk P w K mg base CX0 k f fd ps (spF K ps.length F)/\mg x=some (.ref f)/\PySem.W.keepIn K (.ref f)=true/\Binds K fd ps []
structure DefAt(K:PySem.W.Frag)(mg:Str->Option Value)(x:Str)(st:Stmt)(ps:List Str):Prop where
 ex : ∃(f:Addr) (fd:FuncData),L2.Fun K x x st f fd/\(∀us:List Value,us.length=ps.length->bindArgs fd ⟨us,[]⟩=pure (ps.zip us))/\mg x=some (.ref f)
def PAn(X:Cx)(es:List Expr)(n:Nat)(g:CO (List D)):Prop:=PAD X es g/\∀γ ds,g γ=some ds->ds.length=n
section
variable{X:Cx}{sc:Scope}{N L:List Str}{k:Nat}{e:Expr}{es:List Expr}{f:CO D}{g:CO (List D)}{n:Nat}{pos p:Pos}{x:Str}
theorem zm:PAn X [] 0 zu:=⟨zdg,λγ ds h=>by cases h;rfl⟩
theorem zb(ha:PV X e f)(z:PAn X es n g)(I:starEach (e::es) X.env=(false,eval e X.env)::starEach es X.env:=by rfl):PAn X (e::es) (n+1) (za f g):=
 ⟨zaF ha z.1 I,λγ ds h=>by
  obtain⟨y,e1,h⟩:=bind_some h;obtain⟨r,O,h⟩:=zB h;subst h;rw [zjv,z.2 γ r O]⟩
variable{j:Nat}{F:List D->Option Res}
theorem jt(z:FnD X.prog X.w X.K X.mg X.base j x n F)(I:j<=k)(h:SX X sc N L k)(c:yD sc x=true)(ha:PAn X (e::es) n g)
 (he:starEach (e::es) X.env=(false,eval e X.env)::starEach es X.env:=by rfl) (O:(backTo pos (starEach es X.env)).any (·.1)=false:=by rfl):PV X (.Call (.Name x p) (e::es) [] pos) (zn F g):=by
 obtain⟨fa,fd,ps,hn,G,hm,S,U⟩:=z.ex;subst hn;exact zc1 (A0:=[]) G ha.1 ha.2 λ{t} Y=>wa G (h.room.mono I) (h.gl c).1 hm S U .nil JS Y (h.gl c).2.2 he O
theorem ZT(z:FnD X.prog X.w X.K X.mg X.base j x n F)(I:j<=k)(h:SX X sc N L k)(c:yD sc x=true)(ha:PAn X (e::es) n g)
 (he:starEach (e::es) X.env=(false,eval e X.env)::starEach es X.env:=by rfl) (O:(backTo pos (starEach es X.env)).any (·.1)=false:=by rfl):PO X (.Call (.Name x p) (e::es) [] pos) (jg F g):=by
 obtain⟨fa,fd,ps,hn,G,hm,S,U⟩:=z.ex;subst hn;exact zc7 G ha.1 ha.2 λ{t} Y=>wa G (h.room.mono I) (h.gl c).1 hm S U .nil JS Y (h.gl c).2.2 he O
end
section
variable{P:Program}{w:World}{K:PySem.W.Frag}{mg:Str->Option Value}{base:Heap}
def Q6(N ps:List Str)(st:Stmt):Bool:=
 decide ((defScope st).kind = .function) && decide ((defScope st).isCoroutine=false) && decide ((defScope st).isGenerator=false) && decide N.Nodup && decide (N.take ps.length=ps) &&
 ps.all (λx=>decide ((defScope st).names.lookup x=some .local) || decide ((defScope st).names.lookup x=some .cell)) && (defScope st).names.all (λy=> !(y.2==NameKind.free))
theorem yi{N ps:List Str}{st:Stmt}(h:Q6 N ps st=true):FnScope N ps (defScope st):=by
 unfold Q6 at h;simp only [Bool.and_eq_true,decide_eq_true_eq,zkq,zkl,zkW]at h;obtain⟨⟨⟨⟨⟨⟨h1,h2⟩,z⟩,I⟩,O⟩,S⟩,U⟩:=h;exact⟨h1,h2,z,I,O,S,λy Y e=>by have:=U y Y;rw [e]at this;exact absurd this ⋯⟩
theorem xL{X:Cx}(hx:X.xe=λ_ _=>False):PassesOwn (model X.prog X.w) X.A X.env X.xe:=by rw [hx];exact PassesOwn.never
theorem xM{x:Str}{st:Stmt}{N ps:List Str}{k:Nat}{F:CO Fl}(A:DefAt K mg x st ps)(hd:Q6 N ps st=true)
 (I : ∀X:Cx,X.prog=P->X.w=w->X.K=K->X.mg=mg->X.base=base->SX X (defScope st) N N k->X.xe=(λ_ _=>False)->Yu X (defBody st) F) :
 FnD P w K mg base (k+1) x ps.length (ja N.length F):=by
 obtain⟨f,fd,z,O,hm⟩:=A.ex;have S:=yi hd;refine⟨f,fd,ps,rfl,zfV z S λcdv A outer s H E U=>?_,hm,z.kp,.all O⟩;exact I _ rfl rfl rfl rfl rfl ⟨rfl,rfl,S.nd,rfl,U,λ_ _=> .inl rfl⟩ rfl
theorem def_mk{h:Heap}{x:Str}{st:Stmt}{ps:List Str}{f:Addr}{oc:Value}{od an:Option Addr}{osl:Array (Option Value)}{kV doc pm cdv ct:Value}(z:K.In h)(G:h.Ns mainGlobals mg)
 (a:zlo K mainGlobals x=some (some (.ref f))) (l:K.lookup f=some ⟨oc,od,.func (PySem.W.fnOf x x (defArgs st) (defBody st) (defScope st) .none kV doc pm an cdv ct),osl⟩)
 (c:PySem.W.codeIn K cdv x=true) (kp:PySem.W.keepIn K (.ref f)=true)
 (b : ∀(kV doc pm:Value) (an:Option Addr) (cdv ct:Value) (us:List Value),us.length=ps.length->bindArgs (PySem.W.fnOf x x (defArgs st) (defBody st) (defScope st) .none kV doc pm an cdv ct) ⟨us,[]⟩=pure (ps.zip us)):DefAt K mg x st ps:=
 ⟨f,_,X8 l c kp,b kV doc pm an cdv ct,zlZ z G a⟩
theorem zhD{x:Str}{st:Stmt}{f:Addr}{fd:FuncData}{N ps:List Str}{k:Nat}{F:CO Fl}(z:L2.Fun K x x st f fd)(hd:Q6 N ps st=true)
 (I : ∀X:Cx,X.prog=P->X.w=w->X.K=K->X.mg=mg->X.base=base->SX X (defScope st) N N k->X.xe=(λ_ _=>False)->Yu X (defBody st) F) :
 FnOk P w K mg base CX0 (k+1) f fd ps (spF K ps.length (ja N.length F)):=by
 have S:=yi hd;exact zfV z S λcdv A outer s H E O=>I _ rfl rfl rfl rfl rfl ⟨rfl,rfl,S.nd,rfl,O,λ_ _=> .inl rfl⟩ rfl
theorem law_true{F:List D->Option Res}{H:Hp}{a:Addr}{ns:List Int}(z:SqL K H a (ns.map V.int))(I:F [.lst (ns.map D.int)]=some (.val (.bl true))) :
 spF K 1 F [.ref a] H (λv _=>v = .bl true) λ_ _ _=>False:=by
 refine⟨H,[.lst (ns.map D.int)],.val (.bl true),Same.refl _,Reps.cons (QE z ?_) Reps.nil,rfl,I,λv H' H0' _ r=>r⟩;clear I z
 induction ns with
 | nil=>exact Reps.nil
 | cons n ns O=>exact Reps.cons rfl O
end
end DL
namespace DL
open PySem PySem.Spec PyProof.Rows L2
open AutoSeq1 (wpAny_loadPart')
theorem vi:fillsNumberSlot (.type "tuple") "mul" = pure false:=
 PySem.fillsNumberSlot_seq (id:="tuple.__mul__") (r:=some (.builtin "tuple.__rmul__")) zlD.lookup ⋯ F.slot_tuple_rmul.lookup ⋯
theorem JK:seqRepeat? (.type "tuple")=pure (some (.builtin "tuple.__mul__")):=by
 unfold seqRepeat?;rw [PySem.seqSlot_of (T:="tuple") (name:="__mul__") (id:="tuple.__mul__") zlD.lookup ⋯,PySem.seqSlot_of (T:="tuple") (name:="__rmul__") (id:="tuple.__rmul__") F.slot_tuple_rmul.lookup ⋯];rfl
theorem wT(a:Int)(t:Tok)(l:Addr)(items:Array Value)(n:Nat)(z:Option Addr)(sl:Array (Option Value)) :
 Meets (Builtin.«int.__rmul__» ⟨[.int a t,.ref l],[]⟩) (λ_ R s=>s.heap.get? l=some {cls:= .type "tuple",dict:=z,data:= .seq items n,slots:=sl}/\R (.ok (.ret Value.notImplemented)) s):=
 .of_wp λprog w A R s h=>by obtain⟨I,g,d,tk,os⟩:=s;obtain⟨O,h⟩:=h;wp_walk;exact⟨_,rfl,h⟩
theorem ZJ(a:Int)(t:Tok)(l:Addr)(items:Array Value)(n:Nat)(I:Option Addr)(sl:Array (Option Value))(h1 : ¬(decide (a < -(2 ^ 63)) || decide (a>=2 ^ 63))=true)(h2 : ¬(items.isEmpty || a==1)=true)
 (O : ¬(decide (a<=0) || items.isEmpty)=true) (S : ¬((items.size:Int)*a>(2 ^ 63 - 1)/8)) (U : ¬Builtin.Tuple.tupleTooMany ((items.size:Int)*a)=true) (Y:((zi5 a.toNat items).foldl (· ++ ·) #[]).size<=sizeLine) :
 Meets (Builtin.«tuple.__mul__» ⟨[.ref l,.int a t],[]⟩) (λ_ R s=>s.heap.get? l=some {cls:= .type "tuple",dict:=I,data:= .seq items n,slots:=sl}/\
  R (.ok (.ret (.ref s.heap.objs.size))) {s with heap:=s.heap.push {cls:= .type "tuple",data:= .seq ((zi5 a.toNat items).foldl (· ++ ·) #[])}}):=
 .of_wp λprog w A R s h=>by
  obtain⟨Z,g,d,tk,os⟩:=s;obtain⟨z,h⟩:=h
  wp_walk using zls z
  rw [if_neg h1];refine zi0 (zml (s:=⟨Z,g,d,tk,os⟩) ⟨_,z,rfl,n,rfl⟩ ?_);dsimp only;rw [if_neg h2,if_neg O,if_neg S,if_neg U];refine zi0 (m:=zku _) (zj1 ?_ Y);exact zi4 ⟨_,rfl,h⟩
theorem wN(a:Int)(t:Tok)(l:Addr)(items:Array Value)(n:Nat)(I:Option Addr)(sl:Array (Option Value))(h1 : ¬(decide (a < -(2 ^ 63)) || decide (a>=2 ^ 63))=true)(h2 : ¬(items.isEmpty || a==1)=true)
 (O:(decide (a<=0) || items.isEmpty)=true) :
 Meets (Builtin.«tuple.__mul__» ⟨[.ref l,.int a t],[]⟩) (λ_ R s=>s.heap.get? l=some {cls:= .type "tuple",dict:=I,data:= .seq items n,slots:=sl}/\
  R (.ok (.ret (.ref s.heap.objs.size))) {s with heap:=s.heap.push {cls:= .type "tuple",data:= .seq #[]}}):=
 .of_wp λprog w A R s h=>by
  obtain⟨S,g,d,tk,os⟩:=s;obtain⟨z,h⟩:=h
  wp_walk using zls z
  rw [if_neg h1];refine zi0 (zml (s:=⟨S,g,d,tk,os⟩) ⟨_,z,rfl,n,rfl⟩ ?_);dsimp only;rw [if_neg h2,if_pos O];refine zi0 (m:=zku _) (zj1 ?_ (zkK _));exact zi4 ⟨_,rfl,h⟩
theorem wM(a:Int)(t:Tok)(l:Addr)(items:Array Value)(n:Nat)(I:Option Addr)(sl:Array (Option Value))(h1 : ¬(decide (a < -(2 ^ 63)) || decide (a>=2 ^ 63))=true)(h2:(items.isEmpty || a==1)=true) :
 Meets (Builtin.«tuple.__mul__» ⟨[.ref l,.int a t],[]⟩) (λ_ R s=>s.heap.get? l=some {cls:= .type "tuple",dict:=I,data:= .seq items n,slots:=sl}/\R (.ok (.ret (.ref l))) s):=
 .of_wp λprog w A R s h=>by
  obtain⟨O,g,d,tk,os⟩:=s;obtain⟨z,h⟩:=h
  wp_walk using zls z
  rw [if_neg h1];refine zi0 (zml (s:=⟨O,g,d,tk,os⟩) ⟨_,z,rfl,n,rfl⟩ ?_);dsimp only;rw [if_pos h2];refine zi0 (m:=zk1 _) ?_;unfold zk1;refine zi0 (zl6 (T:="tuple") ⟨_,z,rfl⟩ (zi4 ?_));rw [if_pos ⋯];exact zi0 (zlz (zi4 ⟨_,rfl,h⟩))
section
variable{X:Cx}
def zeO(K:PySem.W.Frag):R2:=λx y H Q=>∃l k xs,x = .ref l/\y = .int k/\SqT K H l xs/\ -(2 ^ 62)<=k/\k<2 ^ 62/\xs.length*k.toNat<=sizeLine/\(xs=[]\/k=1->Q (.ref l) H)/\
 ∀p,H p=none->Q (.ref p) (upd H p (.tup (zi5 k.toNat xs).flatten))
theorem zdh:OpR X (binaryOp .Mult) (zeO X.K):=by
 intro pins s σ H x y v u Q I rx ry h;obtain⟨l,k,xs,rfl,rfl,hq,h1,h2,hz,q1,q2⟩:=h;cases rx;obtain⟨t,rfl⟩:=ry;obtain⟨z,r,ht,z1⟩:=I.tuple hq;obtain⟨⟨cls,Y,data,sl⟩,O,hc,n,hd⟩:=id ht;simp only at hc hd;subst hc hd;have ac:=r.length;have Z : ¬(decide (k < -(2 ^ 63)) || decide (k>=2 ^ 63))=true:=by simp;omega
 refine wpAny_binaryOp_repeat_ref (T:="tuple") (U:="int") ⋯ ⟨_,O,rfl⟩ (λs'=>typeIs_int s' k t) vi F.fills_int_mul F.slot_int_rmul JK F.slot_int_index.lookup
  (zlQ F.slot_int_rmul (typeIs_int s k t) F.entry_int_rmul (F.args_int_rmul_2 _ _) (wT k t l z.toArray n Y sl) ⟨O,rfl,⟨_,O,rfl⟩,?_⟩)
 have f0 : ∀m:Nat,List.foldl (λx1 x2=>x1++x2) #[] (zi5 m z.toArray)=(zi5 m z).flatten.toArray:=λm=>by
  have:=J9 z m [];rw [zmj]at this;exact this
 by_cases g2:(z.toArray.isEmpty || k==1)=true
 ·refine zlQ zlD ⟨_,O,rfl⟩ zm0 (zmU _ _) (wM k t l z.toArray n Y sl Z g2) ⟨O,⟨.ref l,H,I,rfl,q1 ?_⟩⟩
  rw [zkl]at g2;rcases g2 with g | g
  ·left
   have:z=[]:=by simpa using g
   exact(r.nil_iff).mp this
  ·right;simpa using g
 ·have a1:=g2
  simp only [zkl,not_or]at a1;have ad:z ≠ []:=by intro e;exact a1.1 (by rw [e];rfl)
  have af:0<z.length:=List.length_pos_iff.mpr ad;by_cases S:(decide (k<=0) || z.toArray.isEmpty)=true
  ·have hk:k.toNat=0:=by
    rw [zkl]at S;rcases S with g | g
    ·have:=of_decide_eq_true g;omega
    ·exact absurd g a1.1
   refine zlQ zlD ⟨_,O,rfl⟩ zm0 (zmU _ _) (wN k t l z.toArray n Y sl Z g2 S) ⟨O,?_⟩;refine⟨.ref s.heap.objs.size,_,I.laid (t':=s.toks) (o:= .tup (zi5 k.toNat xs).flatten) (λc ob q=>zi3 _ q) (zjb _) ?_,rfl,q2 _ (I.hok.fresh (zjb _))⟩;rw [hk];exact⟨zkK _,[],.nil,IsTupD.new _ _⟩
  ·have hk : ¬k<=0:=by intro g;exact S (by rw [zkl];exact .inl (decide_eq_true g))
   have hsz:z.length*k.toNat<=sizeLine:=by rw [<- ac];exact hz
   have ag:((z.toArray.size:Nat):Int)*k<=(sizeLine:Int):=by
    rw [zji];have e:((z.length*k.toNat:Nat):Int)=(z.length:Int)*k:=by
     rw [Int.natCast_mul,zkL ⋯]
    omega
   have ah:sizeLine=16777216:=sizeLine_eq;have ae:(List.foldl (λx1 x2=>x1++x2) #[] (zi5 k.toNat z.toArray)).size<=sizeLine:=by
    rw [f0,zji,VD,zmV];exact hsz
   refine zlQ zlD ⟨_,O,rfl⟩ zm0 (zmU _ _) (ZJ k t l z.toArray n Y sl Z g2 S ⋯ (by unfold Builtin.Tuple.tupleTooMany;simp only [decide_eq_true_eq];omega) ae) ⟨O,?_⟩;rw [f0];refine⟨.ref s.heap.objs.size,_,I.laid (t':=s.toks) (o:= .tup (zi5 k.toNat xs).flatten) (λc ob q=>zi3 _ q) (zjb _) ?_,rfl,q2 _ (I.hok.fresh (zjb _))⟩;exact⟨by rw [VD,zmV];exact hz,_,r.rep k.toNat,IsTupD.new _ _⟩
theorem zcI{K:PySem.W.Frag}:Snd K (λx y H Q=>rI CMul (λi j=> .int (i*j)) x y H Q\/zeO K x y H Q) qV:=λH0 H x y dx Y d Q s O S z q=>by
 cases dx<;>cases Y<;>simp [qV]at z
 ·obtain⟨e1,I⟩:=z
  subst I;exact .inl ⟨_,_,jz O,jz S,zbl e1,q _ H H0 (Ext.refl s) rfl⟩
 ·rename_i ds j
  obtain⟨⟨Z,hj⟩,rfl⟩:=z;obtain⟨a,xs,rfl,h1,h2⟩:=k4 O;obtain⟨q1,q2⟩:=Z3 hj;refine .inr ⟨a,j,xs,rfl,jz S,sameT s h1,q1,q2,k7 (by rw [h2.length];exact Z),λe=>?_,λp U=>?_⟩
  ·refine q _ H H0 (Ext.refl s) ?_
   rcases e with e | e
   ·have I:ds=[]:=by
     have:=h2.length;rw [e]at this;exact zjN this.symm
    subst I;rw [show(zi5 j.toNat ([]:List D)).flatten=[]by simp];exact qC h1 h2
   ·subst e
    rw [show(zi5 (1:Int).toNat ds).flatten=ds by simp];exact qC h1 h2
  ·exact q _ _ _ (Ext.alloc s U _) (qC (SqT.of zH) ((XB h2 _).mono (z5 (jA s U) _)))
theorem qF{a b:Expr}{pos:Pos}{fa fb:CO D}(ha:PV X a fa)(z:PV X b fb):PV X (.BinOp a .Mult b pos) (zv qV fa fb):=Ze (op_mul.or zdh) zcI ha z
end
end DL
namespace DL
open PySem PySem.Spec PyProof.Rows L2
theorem RC.lendAt{K:PySem.W.Frag}{H0 H:Hp}{σ:St}{γ:Ctx}{i:Nat}{ds:List D}{a:Addr}{xs:List V}(r:RC K H0 H σ γ)(e:γ[i]? = some (.own ds))(h1:σ[i]? = some (some (.ref a)))(h2:H0 a=none)(h3:H a=some (.lst xs))(h4:Reps K H0 ds xs):RC K (L2.upd H0 a (.lst xs)) H σ (γ.set i (.val (.lst ds))):=by
 refine⟨λb o q=>?_,by simp [r.len],λj d g=>?_,λj es g=>?_,λj k b es fs e1 I e3 e4=>?_,⟨λj rows g=>?_,λj k r1 r2 e1 I=>?_⟩⟩
 ·by_cases z:b=a
  ·subst z;rw [zH]at q;rw [h3];exact q
  ·rw [zJ z]at q;exact r.sub b o q
 ·rcases zM g with⟨rfl,z,hl⟩ | ⟨O,z⟩
  ·cases z;exact⟨_,h1,QE (SqL.of zH) (h4.mono (z5 h2 _))⟩
  ·obtain⟨v,S,g2⟩:=r.val j d z
   exact⟨v,S,g2.mono (z5 h2 _)⟩
 ·rcases zM g with⟨_,z,_⟩ | ⟨O,z⟩
  ·cases z
  ·obtain⟨b,ys,S,g2,g3,g4⟩:=r.own j es z
   refine⟨b,ys,S,?_,g3,g4.mono (z5 h2 _)⟩;rw [zJ (λq=>O (r.ne j i a es ds z e (by rw [S,q]) h1))];exact g2
 ·rcases zM e1 with⟨_,z,_⟩ | ⟨O,z1⟩
  ·cases z
  ·rcases zM I with⟨_,z,_⟩ | ⟨hk,z2⟩
   ·cases z
   ·exact r.ne j k b es fs z1 z2 e3 e4
 ·rcases zM g with⟨_,z,_⟩ | ⟨O,z⟩
  ·cases z
  ·obtain⟨b,bs,f1,Y,Z⟩:=r.nst.1 j rows z
   have a8:=Z i ds a e h1;refine⟨b,bs,f1,Y.move (z5 h2 _) (λc U=>by rw [zJ (λq=>a8 (by rw [<- q];exact U))];exact(Y.at U).1) (λc U=>rfl),λk fs c e1 I=>?_⟩;rcases zM e1 with⟨_,z,_⟩ | ⟨_,z1⟩
   ·cases z
   ·exact Z k fs c z1 I
 ·rcases zM e1 with⟨_,z,_⟩ | ⟨_,z1⟩
  ·cases z
  ·rcases zM I with⟨_,z,_⟩ | ⟨_,z2⟩
   ·cases z
   ·exact r.nst.2 j k r1 r2 z1 z2
end DL
namespace L2
open PySem PySem.Spec PyProof.Rows
open AutoSeq1 (wpAny_loadPart')
theorem J1{prog:Program}{w:World}{A:Around}{E:Value->Shared->Prop}{s:Shared}{z it:Addr}{n:Int}{S:Value}{Q:Value->Shared->Prop}(U:IsEnum s.heap z it n S)(h:Q (.ref z) s):wpAny (model prog w) A (pyIter (.ref z)) Q E s:=by
 have I:s.TypeIs (.ref z) "enumerate":=⟨_,U,rfl⟩;refine wpAny_pyIter_slot I F.slot_enumerate_iter (zj2 F.slot_enumerate_iter I F.entry_enumerate_iter ?_ (F.args_enumerate_iter_1 _));have O:wpAny (model prog w) A.in1 (ret (.ref z)) (λO s'=>∃v,O = .done (.ret v)/\∃T m,s'.TypeIs v T/\typeLookup (.type T) "__next__" = pure (some m)/\Q v s') E s:=zi4 ⟨_,rfl,"enumerate",_,I,F.slot_enumerate_next.lookup,h⟩;exact O
end L2
namespace DL
open PySem PySem.Spec PyProof.Rows L2
section
variable{X:Cx}{sc:Scope}{N L:List Str}{k:Nat}{a b c:Expr}{pos p:Pos}{f fa fb fc:CO D}
theorem zaq{S U:CmpOp}{r r':R2}{F G:D->D->Option D}(ho:OpR X (compareOp S) r)(a4:OpR X (compareOp U) r')(s1:Snd X.K r F)(s2:Snd X.K r' G)(ha:PV X a fa)(hb:PV X b fb)(hc:PV X c fc)
 (hm:lastMarks [S,U] [b,c]=false:=by with_unfolding_all rfl):PV X (.Compare a [S,U] [b,c] pos) (Zd F G fa fb fc):=
 jY (zaD ho a4 ha hb hc hm) λσ H Q hZ=>by
  obtain⟨H0,γ,d,rc,I,q⟩:=hZ;obtain⟨x,e1,I⟩:=bind_some I;obtain⟨y,e2,I⟩:=bind_some I;obtain⟨k,e3,I⟩:=bind_some I;obtain⟨Z,e4,e5⟩:=bind_some e3;refine⟨H0,γ,x,rc,e1,λv1 H1 ac x1 r1=>⟨ac,γ,y,rc.ext x1,e2,λv2 H2 ae O r2=>s1 ae H2 v1 v2 x y Z _ O.sub (r1.mono O.s0) r2 e4 λv3 H3 a2 x3 r3=>?_⟩⟩;cases Z with
  | bl k'=>
   cases e5;refine⟨k,show v3 = .bl k from r3,?_⟩;cases k with
   | true=>
    rw [if_pos rfl];rw [if_pos rfl]at I;obtain⟨z,e6,e7⟩:=bind_some I;exact⟨a2,γ,z,((rc.ext x1).ext O).ext x3,e6,λv4 H4 am Y r4=>s2 am H4 v2 v4 y z d _ Y.sub ((r2.mono x3.s0).mono Y.s0) r4 e7 λv5 H5 aq x5 r5=>q v5 H5 aq (((x1.trans O).trans x3).trans (Y.trans x5)) r5⟩
   | false=>
    rw [if_neg ⋯];rw [if_neg ⋯]at I;cases I;exact q _ H3 a2 ((x1.trans O).trans x3) rfl
  | _=>cases e5
end
theorem yd : ∀{l:List Int} {us:List Value},Vals (l.map V.int) us->∀i,i<us.toArray.size->∃z u,us.toArray[i]? = some (.int z u)/\l[i]? = some z
 | [],us,r,i,hi=>by cases r;exact absurd hi (zjA _)
 | z::l,u::us,.cons r t,i,hi=>by
  cases i with
  | zero=>
   obtain⟨tk,rfl⟩:=r;exact⟨z,tk,by simp,by simp⟩
  | succ i=>
   obtain⟨I,u',e1,O⟩:=yd t i (by simpa using hi);exact⟨I,u',by simpa using e1,by simpa using O⟩
section
variable{K:PySem.W.Frag}{E0 E H0 H:Hp}{σ:St}{γ:Ctx}
theorem RS.forget{i:Nat}{v:Option V}(r:RS K E0 E H0 H σ γ):RS K E0 E H0 H (σ.set i v) (γ.set i .no):=by
 have O : ∀{j:Nat} {ds:List D} {b:Addr},(γ.set i .no)[j]? = some (.own ds)->γ[j]? = some (.own ds)/\(σ.set i v)[j]? = σ[j]? :=λ{j ds b} g=>by
  rcases zM g with⟨_,z,_⟩ | ⟨S,z⟩
  ·cases z
  ·exact⟨z,zjc (zj6 S)⟩
 have U : ∀{j:Nat} {rows:List (List D)},(γ.set i .no)[j]? = some (.nest rows)->γ[j]? = some (.nest rows)/\(σ.set i v)[j]? = σ[j]? :=λ{j rows} g=>by
  rcases zM g with⟨_,z,_⟩ | ⟨S,z⟩
  ·cases z
  ·exact⟨z,zjc (zj6 S)⟩
 refine⟨⟨r.rc.sub,by simp [r.rc.len],λj d' g=>?_,λj ds g=>?_,λj k b ds fs e1 Y e3 e4=>?_,⟨λj rows g=>?_,λj k r1 r2 I g2=>r.rc.nst.2 j k r1 r2 (U I).1 (U g2).1⟩⟩,r.ext,λj ds b I g2=>?_,λj rows b xs I g2 g3=>?_⟩
 ·rcases zM g with⟨_,z,_⟩ | ⟨S,z⟩
  ·cases z
  ·obtain⟨v',I,g2⟩:=r.rc.val j d' z
   exact⟨v',by rw [zjc (zj6 S)];exact I,g2⟩
 ·obtain⟨z1,z2⟩:=O (b:=0) g
  rw [z2];exact r.rc.own j ds z1
 ·obtain⟨z1,z2⟩:=O (b:=0) e1
  obtain⟨z3,Z⟩:=O (b:=0) Y;rw [z2]at e3;rw [Z]at e4;exact r.rc.ne j k b ds fs z1 z3 e3 e4
 ·obtain⟨z1,z2⟩:=U g
  obtain⟨a,bs,h1,h2,h3⟩:=r.rc.nst.1 j rows z1;refine⟨a,bs,by rw [z2];exact h1,h2,λk ds c e1 Y=>?_⟩;obtain⟨z3,Z⟩:=O (b:=0) e1;rw [Z]at Y;exact h3 k ds c z3 Y
 ·obtain⟨z1,z2⟩:=O (b:=0) I
  rw [z2]at g2;exact r.fresh j ds b z1 g2
 ·obtain⟨z1,z2⟩:=U I
  rw [z2]at g2;exact r.fr2 j rows b xs z1 g2 g3
end
section
variable{K:PySem.W.Frag}{E0 E H0 H:Hp}{σ:St}{γ:Ctx}
theorem RS.freeze{i:Nat}{ds:List D}(r:RS K E0 E H0 H σ γ)(e:γ[i]? = some (.own ds)) : ∃H0',RS K E0 E H0' H σ (γ.set i (.val (.lst ds))):=by
 obtain⟨a,xs,h1,h2,U,Y⟩:=r.rc.own i ds e;have Z:=r.fresh i ds a e h1;obtain⟨H0',s0,S⟩ : ∃H0',H0'=upd H0 a (.lst xs)/\RC K H0' H σ (γ.set i (.val (.lst ds))):=by
  refine⟨_,rfl,?_⟩;exact RC.lendAt r.rc e h1 h2 U Y
 subst s0;refine⟨_,S,⟨r.ext.s0.trans (z5 h2 _),r.ext.s1,S.sub,λc q1 I=>?_⟩,λj es b O g2=>?_,λj rows b ys O g2 g3=>?_⟩
 ·rw [zJ (λz=>by rw [z,Z]at I;exact I rfl)];exact r.ext.new c q1 I
 ·rcases zM O with⟨_,z,_⟩ | ⟨_,z⟩
  ·cases z
  ·exact r.fresh j es b z g2
 ·rcases zM O with⟨_,z,_⟩ | ⟨_,z⟩
  ·cases z
  ·exact r.fr2 j rows b ys z g2 g3
end
section
variable{X:Cx}{st:Stmt}{F:CO Fl}
theorem Vh(i:Nat)(h:PSD X st F):PSD X st (zd9 i F):=qZ h λD σ H I=>by
 obtain⟨E0,E,H0,γ,O,rs,z,S⟩:=I;obtain⟨ds,e1,z⟩:=bind_some z;obtain⟨H0',U⟩:=rs.freeze (kc e1);exact⟨E0,E,H0',_,O,U,z,S⟩
end
end DL
namespace L2
open PySem PySem.Spec PyProof.Rows
def zg8(K:PySem.W.Frag):V->List V->Hp->VK->Prop:=λx vs H Q=>∃z p zs,x = .str z/\vs=[.ref p]/\SqL K H p (zs.map V.str)/\Builtin.Str.tooLong (zs.toArray.foldl (λa p=>a+p.length+z.length) 0)=false/\Q (.str (zmK z zs)) H
theorem Jv : ∀{zs:List Str} {us:List Value},Vals (zs.map V.str) us->∃l:List (Str×Tok),strValues l=us/\l.map (·.1)=zs
 | [],us,r=>by cases r;exact⟨[],rfl,rfl⟩
 | z::zs,u::us,.cons r t=>by
  obtain⟨tk,rfl⟩:=r;obtain⟨l,rfl,h⟩:=Jv t;exact⟨(z,tk)::l,rfl,by simp [h]⟩
theorem zdo{X:Cx}:MtR X "str.join" (zg8 X.K):=by
 intro pins s σ H x vs v us Q I S U h;obtain⟨z,p,zs,rfl,rfl,Y,O,q⟩:=h;obtain⟨t,rfl⟩:=S;obtain⟨w1,rfl,rw⟩:=vg U;cases rw;obtain⟨Z,r,pl,hz⟩:=I.list Y;obtain⟨l,rfl,e⟩:=Jv r;subst e;refine zlQ F.slot_str_join (typeIs_str _ _ _) F.entry_str_join (F.args_str_join_2 _ _) (meets_str_join_list z t p l O) ⟨pl.isList,post_join l ⟨joinFit_length O,λt' k=>?_⟩⟩;refine⟨.str (zmK z (l.map (·.1))),H,(I.kept (h':=s.heap) (t':=k) λb o e=>e),⟨t',?_⟩,q⟩;show zmA (Builtin.Str.glued z (l.map (·.1))) t'=_;rw [StrLaws.glued_eq_join]
end L2
namespace DL
open PySem PySem.Spec PyProof.Rows L2
theorem JB{K:PySem.W.Frag}{H:Hp} : ∀{ds:List D} {xs:List V} {l:List Str},Reps K H ds xs->wO ds=some l->xs=l.map V.str
 | [],xs,l,r,e=>by cases e;rw [show xs=[]from r];rfl
 | d::ds,xs,l,r,e=>by
  obtain⟨x,r',rfl,z,r2⟩:=(show ∃x r,xs=x::r/\Rep K H d x/\Reps K H ds r from r);cases d with
  | str i=>
   obtain⟨l',e1,rfl⟩:=zB (show(wO ds).map (λl=>i::l)=some l from e);rw [JB r2 e1,show x = .str i from z];rfl
  | _=>cases e
section
variable{X:Cx}{sc:Scope}{N L:List Str}{k:Nat}{o e a b:Expr}{apos cpos pos p:Pos}{f g:CO D}{q:CO (Sk×List D)}
theorem yf{x:Str}(h:jf x=true):x.length<=1000:=of_decide_eq_true h
theorem Za{x:Str}(h:jf x=true):x.length<=sizeLine:=zj9 (yf h) ⋯
theorem zcY(U:PV X o f)(he:PQ X e q)(Y:attributeBase o "join" X.env (eval o X.env)=eval o X.env:=by rfl)
 (Z:((backTo cpos (starEach [e] X.env)).all (λx=> !x.1) && (backToKw cpos (keywordEach [] X.env)).all (λx=>x.1.isSome) && decide ([e].length+([]:List Keyword).length+(if ([]:List Keyword).isEmpty then 0 else 1)<30))=true:=by rfl)
 (a0:(apos.endLine==cpos.line)=true:=by rfl) (S:starEach [e] X.env=[(false,eval e X.env)]:=by rfl):PV X (.Call (.Attribute o "join" apos) [e] [] cpos) (zcR f q):=
 jY (zdf PySem.F.plainAttrs_str PySem.F.slot_str_join PySem.F.type_str_join zdo U (zS he jP S) Y Z a0 S rfl) λσ H Q hZ=>by
  obtain⟨H0,γ,d,rc,z,qq⟩:=hZ;obtain⟨d1,e1,z⟩:=bind_some z;obtain⟨⟨kk,ds⟩,e2,z⟩:=bind_some z;cases d1 with
  | str O=>
   cases kk with
   | L=>
    obtain⟨l,e3,z⟩:=bind_some z;by_cases I:l.length<=lim/\l.all jf=true/\jf O=true
    ·rw [if_pos I]at z;cases z
     refine⟨H0,γ,_,rc,e1,λv H' H0' x r=>?_⟩;rw [show v = .str O from r];refine⟨rfl,H0',γ,.L,ds,rc.ext x,e2,λa xs H2 a6 x2 h1 h2 r2=>?_⟩;have ex:=JB r2 e3;subst ex;refine⟨O,a,l,rfl,rfl,h1,StrLaws.joinFits (B:=1000) (λy hy=>yf (zkq.mp I.2.1 y hy)) ?_,qq _ H2 a6 (x.trans x2) rfl⟩;have hl:=I.1;have:lim=2500:=rfl;have h3:=yf I.2.2;have:l.length*O.length<=2500*1000:=Nat.mul_le_mul ⋯ h3;omega
    ·rw [if_neg I]at z;cases z
   | T=>cases z
  | _=>cases z
theorem zan(ha:PV X a f)(U:PV X b g)(Y:Xl b:=by intro _ _;rfl):PV X (.Subscript a b pos) (JE f g):=
 jY (zfg zfM ha U Y) λσ H Q Z=>by
  obtain⟨H0,γ,d,rc,I,q⟩:=Z;obtain⟨d1,e1,I⟩:=bind_some I;obtain⟨i,O,I⟩:=bind_some I;obtain⟨di,e3,O⟩:=bind_some O;cases d1 with
  | str z=>
   by_cases S:jf z=true
   ·have I:(if jf z=true then (ixD z.cps.toList.length i).bind λk=>z.cps.toList[k]?.map λc=>D.str ⟨#[c]⟩else none)=some d:=I
    rw [if_pos S]at I;obtain⟨j,e4,I⟩:=bind_some I;obtain⟨c,e5,rfl⟩:=zB I;refine⟨H0,γ,_,rc,e1,λv H' H0' x r=>⟨H0',γ,di,rc.ext x,e3,λv2 H2 a5 x2 r2=>?_⟩⟩;rw [j8 O]at r2;refine⟨z,i,c,r,jz r2,Za S,?_,q _ H2 a5 (x.trans x2) rfl⟩;unfold atI;rw [zcd e4];exact e5
   ·have I:(if jf z=true then (ixD z.cps.toList.length i).bind λk=>z.cps.toList[k]?.map λc=>D.str ⟨#[c]⟩else none)=some d:=I
    rw [if_neg S]at I;cases I
  | _=>cases I
theorem zcX(h:SX X sc N L k)(c:yD sc "len" = true)(z:X.mg "len" = none)(ha:PV X e f)(S:starEach [e] X.env=[(false,eval e X.env)]:=by rfl):PV X (.Call (.Name "len" p) [e] [] pos) (JF f):=
 jY (xh Qe (h.gl c).1 z PySem.boot_len (zS ha jP S) ⋯ ⋯ S rfl) λσ H Q U=>by
  obtain⟨H0,γ,d,rc,I,q⟩:=U;obtain⟨Y,e1,I⟩:=bind_some I;cases Y with
  | str z=>
   by_cases O:jf z=true
   ·have I:(if jf z=true then some (D.int z.length)else none)=some d:=I
    rw [if_pos O]at I;cases I;refine⟨H0,γ,_,rc,e1,λv H' H0' x r=>⟨z,by rw [show v = .str z from r],Za O,q _ H' H0' x rfl⟩⟩
   ·have I:(if jf z=true then some (D.int z.length)else none)=some d:=I
    rw [if_neg O]at I;cases I
  | _=>cases I
end
section
variable{X:Cx}{sc:Scope}{N L:List Str}{k:Nat}{b:Expr}{f:CO D}
theorem zbU{a:Expr}{g:CO D}{p pos:Pos}(h:SX X sc N L k)(c:yD sc "min" = true)(z:X.mg "min" = none)(ha:PV X a f)(Y:PV X b g)(U:starEach [a,b] X.env=[(false,eval a X.env),(false,eval b X.env)]:=by rfl)(O:starEach [b] X.env=[(false,eval b X.env)]:=by rfl) :
 PV X (.Call (.Name "min" p) [a,b] [] pos) (Qy f g):=
 jY (xh (Wo h.calm) (h.gl c).1 z PyProof.Rows.boot_min (zS ha (zS Y jP O) (by rw [U,O])) ⋯ ⋯ (by rw [U,O]) (by rw [O];rfl)) λσ H Q Z=>by
  obtain⟨H0,γ,d,rc,I,q⟩:=Z;obtain⟨i,e1,I⟩:=bind_some I;obtain⟨d1,e0,e1⟩:=bind_some e1;obtain⟨j,S,I⟩:=zB I;obtain⟨d2,e2,S⟩:=bind_some S;subst I;refine⟨H0,γ,d1,rc,e0,λv H' H0' x r=>⟨H0',γ,d2,rc.ext x,e2,λv2 H2 a4 x2 r2=>⟨i,j,?_,q _ H2 a4 (x.trans x2) rfl⟩⟩⟩;rw [j8 e1]at r;rw [j8 S]at r2;rw [jz r,jz r2]
end
def zhl(c:Xn)(od:Option Addr)(H0:Hp):Prop:=match c.2 with
 | none=>od=none
 | some i=>∃d,od=some d/\H0 d=some (.xd [(ziU c.1,.int i)])
def spX(K:PySem.W.Frag)(n:Nat)(G:List D->Option Xn):Sp:=λvs H _ E=>∃H0 ds c,Same H0 H/\Reps K H0 ds vs/\ds.length=n/\G ds=some c/\
 ∀C H' H0' od,xAll K=true->c.1∈xNames->xCls K c.1=some C->zhl c od H0'->Ext H0 H H0' H'->E (.ref C) od H'
section ap
variable(γ:Ctx)
@[simp] theorem yw(f):zC f γ=(f γ).bind je:=rfl
@[simp] theorem wC(f):jp f γ=(f γ).map D.lst:=rfl
@[simp] theorem Xi(f):jy f γ=(f γ).map λds=>(Sk.L,ds):=rfl
@[simp] theorem jJ(i):zc i γ=Xa γ[i]? :=rfl
@[simp] theorem jQ(i):zf i γ=x9 γ[i]? :=rfl
@[simp] theorem qA(d):zh d γ=some d:=rfl
@[simp] theorem wE(F a b):zv F a b γ=(a γ).bind λx=>(b γ).bind λy=>F x y:=rfl
@[simp] theorem ziz(f):sB f γ=(f γ).bind asB:=rfl
@[simp] theorem zh7(f g):zcS f g γ=(f γ).bind λb=>if b=true then g γ else some false:=rfl
@[simp] theorem zis(f g):zad f g γ=(f γ).bind λb=>if b=true then some true else g γ:=rfl
@[simp] theorem zhT(f):qk f γ=(f γ).map λb=> !b:=rfl
@[simp] theorem ziy(f g):zea f g γ=((f γ).bind asB).bind λb=>if b=true then g γ else some (.bl false):=rfl
@[simp] theorem zit(f):zgk f γ=((f γ).bind asB).map λb=> .bl (!b):=rfl
@[simp] theorem zck(c f g):JG c f g γ=(c γ).bind λb=>if b=true then f γ else g γ:=rfl
@[simp] theorem qG:zu γ=some []:=rfl
@[simp] theorem j1(f g):za f g γ=(f γ).bind λx=>(g γ).map λr=>x::r:=rfl
@[simp] theorem WD(f):jx f γ=(f γ).bind λds=>if ds.length<=lim then some (.tup ds)else none:=rfl
@[simp] theorem zhX(f):qB f γ=(f γ).bind λds=>if ds.length<=lim then some ds else none:=rfl
@[simp] theorem zhU:j9 γ=some (.next γ):=rfl
@[simp] theorem Zx(f):j3 f γ=(f γ).map λd=> .ret (.val d):=rfl
@[simp] theorem WE(f):xD f γ=(f γ).map λd=> .ret (.own d):=rfl
@[simp] theorem zhR(i):k5 i γ=Jd γ[i]? :=rfl
@[simp] theorem zh4:zaf γ=some (.cont γ):=rfl
@[simp] theorem ziW(k F G):sIf k F G γ=(k γ).bind λb=>if b=true then F γ else G γ:=rfl
@[simp] theorem Zw(i f):zU i f γ=(f γ).map λd=> .next (γ.set i (.val d)):=rfl
@[simp] theorem Xh(i f):xm i f γ=(f γ).map λds=> .next (γ.set i (.own ds)):=rfl
@[simp] theorem WH(f):QB f γ=(f γ).map λ_=> .next γ:=rfl
@[simp] theorem yx(i f):qR i f γ=(qW γ[i]?).bind λds=>(f γ).bind λd=>if ds.length<lim then some (.next (γ.set i (.own (ds++[d]))))else none:=rfl
@[simp] theorem qr(F g):zn F g γ=(g γ).bind λds=>(F ds).map zec:=rfl
@[simp] theorem Ko(F g):jg F g γ=(g γ).bind λds=>(F ds).bind zeb:=rfl
@[simp] theorem kH(f):zG f γ=(f γ).map (·.2):=rfl
@[simp] theorem kg(f):zX f γ=((f γ).bind asI).bind λn=>if inR n=true then some (qi 0 n.toNat)else none:=rfl
@[simp] theorem WF(f g):qQ f g γ=((f γ).bind asI).bind λm=>((g γ).bind asI).bind λn=>if inR m=true/\inR n=true then some (qi m (n - m).toNat)else none:=rfl
@[simp] theorem zcj(f g):wK f g γ=((f γ).bind je).bind λm=>((g γ).bind je).map λn=>yC m.2 n.2:=rfl
@[simp] theorem Qo(src T F):yX src T F γ=(src γ).bind λds=>qo T F ds γ:=rfl
@[simp] theorem qD(src T n fr k f):zD src T n fr k f γ=(src γ).bind λds=>if ds.length<=lim then zL T k f (jd n fr γ) ds else none:=rfl
@[simp] theorem ziq:jb γ=some true:=rfl
@[simp] theorem zh5(f g):yj f g γ=(f γ).bind λa=>(g γ).bind λb=>match a.1,b.1 with
 | .L,.L=>if a.2.length+b.2.length<=lim then some (a.2++b.2)else none
 | _,_=>none:=rfl
@[simp] theorem zhS(f g):zcP f g γ=(f γ).bind λa=>((g γ).bind asI).bind λj=>match a.1 with
 | .L=>if a.2.length*j.toNat<=lim/\inR j=true then some (zi5 j.toNat a.2).flatten else none
 | _=>none:=rfl
@[simp] theorem kP(f g):sIx f g γ=(f γ).bind λa=>((g γ).bind asI).bind λi=>(ixD a.2.length i).bind λk=>a.2[k]? :=rfl
@[simp] theorem zgK(i g f):Y0 i g f γ=(f γ).bind λd=>(qW γ[i]?).bind λds=>((g γ).bind asI).bind λk=>(ixD ds.length k).map λj=> .next (γ.set i (.own (ds.set j d))):=rfl
@[simp] theorem ziu:Yr γ=some none:=rfl
@[simp] theorem zh6(f):sBd f γ=((f γ).bind asI).map some:=rfl
@[simp] theorem zgb(f l h):Qs f l h γ=(f γ).bind λd=>(l γ).bind λlo=>(h γ).bind λhi=>match d with
 | .tup xs=>some (.tup (Q8 xs lo hi))
 | _=>none:=rfl
@[simp] theorem ziv(f):ya f γ=(f γ).map λa=> .int a.2.length:=rfl
@[simp] theorem ziV(T f):sIs T f γ=(f γ).map λd=> .bl (zce T d):=rfl
@[simp] theorem Zv(f):zO f γ=(f γ).map λa=> .tup a.2:=rfl
@[simp] theorem zgc(f):Qz f γ=(f γ).map λa=>a.2:=rfl
@[simp] theorem zir(f):zcO f γ=(f γ).bind λa=>(Yq a.2).map D.int:=rfl
@[simp] theorem zge(f):zah f γ=(f γ).bind λa=>(yE a.2).map λs=> .bl (s.all id):=rfl
@[simp] theorem zix(f):zbL f γ=(f γ).bind λa=>(yE a.2).map λs=> .bl (s.any id):=rfl
@[simp] theorem zh0(f):Y1 f γ=(f γ).bind λd=>match d with
 | .int i=>some (.int i)
 | .bl b=>some (.int (if b then 1 else 0))
 | _=>none:=rfl
@[simp] theorem zhW(f g):KJ f g γ=((f γ).bind asI).bind λi=>((g γ).bind asI).map λj=> .int (if j>i then j else i):=rfl
@[simp] theorem zhQ(f):zac f γ=(f γ).map λa=> !a.2.isEmpty:=rfl
theorem zR(F G):zI F G γ=(F γ).bind λz=>match z with
 | .next γ'=>G γ'
 | f=>some f:=rfl
end ap
@[simp] theorem Kn(ds):je (.tup ds)=some (.T,ds):=rfl
@[simp] theorem Qm(ds):je (.lst ds)=some (.L,ds):=rfl
@[simp] theorem zE(d):Xa (some (.val d))=some d:=rfl
@[simp] theorem zW(d):x9 (some (.val d))=je d:=rfl
@[simp] theorem zdU(d):x9 (some (.own d))=some (.L,d):=rfl
@[simp] theorem qp(d):qW (some (.own d))=some d:=rfl
@[simp] theorem zdV(d):Jd (some (.val d))=some (.ret (.val d)):=rfl
@[simp] theorem zdW(d):Jd (some (.own d))=some (.ret (.own d)):=rfl
@[simp] theorem zio(b):asB (.bl b)=some b:=rfl
@[simp] theorem jG(b):asI (.int b)=some b:=rfl
@[simp] theorem ku(d):zec (.val d)=d:=rfl
@[simp] theorem zgn(d):zec (.own d) = .lst d:=rfl
@[simp] theorem vw(d):zeb (.own d)=some d:=rfl
@[simp] theorem zgC(i j):xC (.int i) (.int j)=some (.int (i - j)):=rfl
@[simp] theorem vz(i j):jj (.int i) (.int j)=some (.int (i+j)):=rfl
@[simp] theorem zgF(i j):qL (.int i) (.int j)=if 0<j then some (.int (i%j))else none:=by
 show(if zgH i j=true then _ else _)=_;simp [zgH]
@[simp] theorem zbh(i j):Qb (.int i) (.int j)=if 0<j/\j<1073741824 then some (.int (i/j))else none:=by
 show(if zf4 i j=true then _ else _)=_;have e:(zf4 i j=true)=(0<j/\j<1073741824):=by
  unfold zf4;rw [Bool.and_eq_true,decide_eq_true_eq,decide_eq_true_eq];apply propext;constructor<;>intro h<;>exact⟨h.1,by omega⟩
 simp only [e]
@[simp] theorem Kc(i j):qV (.int i) (.int j)=if Zu i j=true then some (.int (i*j))else none:=rfl
@[simp] theorem zgD(i j):zdL (.int i) (.int j)=if zf3 i j=true then some (.int (i ^ j.toNat))else none:=rfl
@[simp] theorem zhI(i j):dLt (.int i) (.int j)=some (.bl (decide (i<j))):=rfl
@[simp] theorem zhJ(i j):dLe (.int i) (.int j)=some (.bl (decide (i<=j))):=rfl
@[simp] theorem zhK(i j):dGt (.int i) (.int j)=some (.bl (decide (j<i))):=rfl
@[simp] theorem zhL(i j):dGe (.int i) (.int j)=some (.bl (decide (j<=i))):=rfl
@[simp] theorem zhM(i j):dEq (.int i) (.int j)=some (.bl (decide (i=j))):=by
 unfold dEq;rw [if_pos ⟨rfl,rfl⟩];exact congrArg (λb=>some (D.bl b)) (by rw [zkI];simp [eqD])
@[simp] theorem zhH(i j):dNe (.int i) (.int j)=some (.bl (!decide (i=j))):=by
 unfold dNe;rw [if_pos ⟨rfl,rfl⟩];exact congrArg (λb=>some (D.bl !b)) (by rw [zkI];simp [eqD])
@[simp] theorem zeJ(i is d ds γ):qg (i::is) (d::ds) γ=qg is ds (γ.set i (.val d)):=rfl
@[simp] theorem zeI(ds γ):qg [] ds γ=γ:=by cases ds<;>rfl
@[simp] theorem kF(i d γ):qe (.nm i) d γ=some (γ.set i (.val d)):=rfl
@[simp] theorem kf(i j a b γ):qe (.tp [i,j]) (.tup [a,b]) γ=some ((γ.set i (.val a)).set j (.val b)):=rfl
@[simp] theorem qH(γ:Ctx)(G:CO Fl):(some (Fl.next γ)).bind (λz=>match z with
 | .next γ'=>G γ'
 | f=>some f)=G γ:=rfl
theorem Kj(i j:Int)(h1 : -(2 ^ 64)<j)(h2:j<2 ^ 64):Zu i j=true:=by
 unfold Zu;rw [zkl];right;exact decide_eq_true ⋯
theorem ke(i j:Int)(h1 : -(2 ^ 64)<i)(h2:i<2 ^ 64):Zu i j=true:=by
 unfold Zu;rw [zkl];left;exact decide_eq_true ⋯
theorem y9{i:Int}(h1 : -(2 ^ 62)<i)(h2:i<2 ^ 62):inR i=true:=by
 unfold inR;exact decide_eq_true ⋯
@[simp] theorem jZ(n k:Nat):ixD n (k:Int)=if k<n then some k else none:=by
 unfold ixD;by_cases h:k<n
 ·rw [if_pos ⟨Int.natCast_nonneg k,by omega⟩,if_pos h];simp
 ·rw [if_neg ⋯,if_neg ⋯,if_neg h]
theorem z9:lim=2500:=rfl
@[simp] theorem zgz:0<=lim:=zkK _
@[simp] theorem zgy:1<=lim:=by decide
@[simp] theorem zgx:2<=lim:=by decide
@[simp] theorem zgw:3<=lim:=by decide
@[simp] theorem zgv:4<=lim:=by decide
@[simp] theorem zgu:5<=lim:=by decide
@[simp] theorem zgt:6<=lim:=by decide
@[simp] theorem zgs:7<=lim:=by decide
@[simp] theorem zgr:8<=lim:=by decide
@[simp] theorem zgq:0<lim:=by decide
@[simp] theorem yP{n:Nat}(h:n<=lim):inR (n:Int)=true:=y9 ⋯ (by have:=z9;omega)
@[simp] theorem ix0(n:Nat):ixD (n+1) 0=some 0:=jZ (n+1) 0 ▸ rfl
@[simp] theorem ix1(n:Nat):ixD (n+2) 1=some 1:=by
 have:=jZ (n+2) 1;simpa using this
@[simp] theorem ix2(n:Nat):ixD (n+3) 2=some 2:=by
 have:=jZ (n+3) 2;simpa using this
theorem zo{α:Type}{T:Tg}{k:CO Bool}{f:CO D}{γ:Ctx}{g:α->D}(r:α->D) : ∀(l:List α),(∀x∈l,zL T k f γ [g x]=some [r x])->zL T k f γ (l.map g)=some (l.map r)
 | [],_=>rfl
 | x::l,h=>by
  have h1:=h x zju;have h2:=zo r l λy z=>h y (zjk _ z);simp only [zjw,zL]at h1 ⊢;cases e1:qe T (g x) γ with
  | none=>rw [e1]at h1;simp at h1
  | some γ1=>
   rw [e1]at h1;simp only [zi7]at h1 ⊢;cases e2:k γ1 with
   | none=>rw [e2]at h1;simp at h1
   | some b=>
    rw [e2]at h1;simp only [zi7]at h1 ⊢;cases b with
    | false=>simp at h1
    | true=>
     simp only [if_pos]at h1 ⊢;cases e3:f γ1 with
     | none=>rw [e3]at h1;simp at h1
     | some e=>
      rw [e3]at h1;simp at h1;rw [h2];simp [h1]
theorem zq{k:CO Bool}{f:CO D}{γ γ1:Ctx}{T:Tg}{d e:D}(h1:qe T d γ=some γ1)(h2:k γ1=some true)(z:f γ1=some e):zL T k f γ [d]=some [e]:=by
 simp [zL,h1,h2,z]
theorem jF(T F d ds γ):qo T F (d::ds) γ=(qe T d γ).bind λγ1=>(F γ1).bind λI=>match I with
 | .next z=>qo T F ds z
 | .cont z=>qo T F ds z
 | .brk z=>some (.next z)
 | .ret r=>some (.ret r):=rfl
theorem xX{T:Tg}{F:CO Fl}(P:Nat->Ctx->Prop) : ∀(ds:List D) (k:Nat) (γ:Ctx),P k γ->(∀i d γ,ds[i]? = some d->P (k+i) γ->∃γ',((qe T d γ).bind F=some (.next γ')\/(qe T d γ).bind F=some (.cont γ'))/\P (k+i+1) γ')->
 ∃γ',qo T F ds γ=some (.next γ')/\P (k+ds.length) γ'
 | [],k,γ,h,_=>⟨γ,rfl,h⟩
 | d::ds,k,γ,h,step=>by
  obtain⟨γ1,e,h1⟩:=step 0 d γ rfl h;obtain⟨γ',z,h2⟩:=xX P ds (k+1) γ1 (by simpa using h1) (λi d' I hd O=>by
   have:=step (i+1) d' I (by simpa using hd) (by rw [show k+(i+1)=k+1+i by omega];exact O);rw [show k+(i+1)+1=k+1+i+1 by omega]at this;exact this)
  refine⟨γ',?_,by rw [show k+(d::ds).length=k+1+ds.length by simp;omega];exact h2⟩;rw [jF];cases eb:qe T d γ with
  | none=>rw [eb]at e;simp at e
  | some S=>
   rw [eb]at e;simp only [zi7]at e ⊢;rcases e with e | e<;>rw [e]<;>exact z
def zz(n:Nat)(f:Nat->Int):List D:=(zi2 n).map λi=>D.int (f i)
theorem z6(n f):zz n f=(zi2 n).map λi=>D.int (f i):=rfl
def zN(h w:Nat)(f:Nat->Nat->Int):List D:=(zi2 h).map λi=>D.tup (zz w (f i))
def jI(h w:Nat)(f:Nat->Nat->Int):D:= .tup [.int h,.int w,.tup (zN h w f)]
@[simp] theorem qu(n f):(zz n f).length=n:=by simp [zz]
@[simp] theorem Ja(h w f):(zN h w f).length=h:=by simp [zN]
@[simp] theorem zhE{n i:Nat}(f)(h:i<(zz n f).length):(zz n f)[i] = .int (f i):=by simp [zz]
theorem xj{n i:Nat}(f)(h:i<n):(zz n f)[i]? = some (.int (f i)):=by simp [zz,h]
@[simp] theorem zhG{h w i:Nat}(f)(hi:i<(zN h w f).length):(zN h w f)[i] = .tup (zz w (f i)):=by simp [zN]
theorem kE{n:Nat}{f g:Nat->Int}(h : ∀i,i<n->f i=g i):zz n f=zz n g:=by
 unfold zz;apply zjg;intro i hi;rw [h i (zi6.mp hi)]
theorem jD(n:Nat):qi 0 n=zz n λi=>(i:Int):=by simp [qi,zz]
theorem yb(n:Nat)(f g:Nat->Int):yC (zz n f) (zz n g)=(zi2 n).map λi=>D.tup [.int (f i),.int (g i)]:=by
 unfold yC zz;rw [zkO];simp
def sumTo(f:Nat->Int):Nat->Int
 | 0=>0
 | n+1=>sumTo f n+f n
theorem vS : ∀(xs:List Int) (y:Int),Yq (xs.map D.int++[.int y])=(Yq (xs.map D.int)).map λs=>s+y
 | [],y=>by simp [Yq]
 | x::xs,y=>by
  simp only [zjw,zmY,Yq];rw [vS xs y];cases e:Yq (xs.map D.int)<;>simp [Int.add_assoc]
theorem ye(f:Nat->Int) : ∀n,Yq (zz n f)=some (sumTo f n)
 | 0=>rfl
 | n+1=>by
  have z:=ye f n;have e : ∀m,zz m f=((zi2 m).map f).map D.int:=λm=>by simp [zz]
  rw [e]at z ⊢;rw [zkh,zjT,zjT,List.map_singleton,List.map_singleton,vS,z];simp [sumTo]
def F_rests:List D->Option Res:=ja 2 (j3 (zO (jy (zD (zG (zf 1)) (.nm 0) 1 [0] jb (zv qL (zc 0) (zc 1))))))
def F_led:List D->Option Res:=ja 3 (j3 (zn F_rests (za (zc 0) (za (jp (zD (zG (zC (sIx (zf 1) (zh (.int 2))))) (.nm 0) 1 [2] jb (zcO (jy (zD (wK (zc 0) (zc 1)) (.tp [0,1]) 2 [] jb (zv qV (zc 0) (zc 1))))))) zu))))
def F_turned_over:List D->Option Res:=ja 2 (zI (zU 1 (jp (zD (zX (sIx (zf 0) (zh (.int 1)))) (.nm 0) 1 [0] jb (zO (jy (zD (zG (zC (sIx (zf 1) (zh (.int 2))))) (.nm 0) 1 [0] jb (sIx (zf 0) (zc 1)))))))) (j3 (jx (za (sIx (zf 0) (zh (.int 1))) (za (sIx (zf 0) (zh (.int 0))) (za (zO (zf 1)) zu))))))
def F_same_table:List D->Option Res:=ja 2 (zI (zU 1 (jp (zD (zX (zc 0)) (.nm 0) 1 [0] jb (zO (jy (zD (zX (zc 1)) (.nm 0) 1 [0] jb (JG (sB (zv dEq (zc 1) (zc 0))) (zh (.int 1)) (zh (.int 0))))))))) (j3 (jx (za (zc 0) (za (zc 0) (za (zO (zf 1)) zu))))))
def F_nought_table:List D->Option Res:=ja 2 (j3 (jx (za (zc 0) (za (zc 1) (za (zv qV (jx (za (zv qV (jx (za (zh (.int 0)) zu)) (zc 1)) zu)) (zc 0)) zu)))))
def F_inverse:List D->Option Res:=ja 3 (zI (yX (qQ (zh (.int 1)) (zc 0)) (.nm 2) (sIf (sB (zv dEq (zv qL (zv qV (zc 1) (zc 2)) (zc 0)) (zh (.int 1)))) (k5 2) j9)) kS)
def F_cleared:List D->Option Res:=ja 5 (zI (zU 4 (sIx (zf 1) (zc 3))) (zI (sIf (sB (zv dEq (zc 4) (zh (.int 0)))) (k5 1) j9) (j3 (zn F_rests (za (zc 0) (za (jp (zD (wK (zc 1) (zc 2)) (.tp [0,1]) 2 [4] jb (zv xC (zc 0) (zv qV (zc 2) (zc 1))))) zu))))))
def F_base_of:List D->Option Res:=ja 9 (zI (zU 3 (jp (zD (zG (zf 2)) (.nm 0) 1 [0] jb (zn F_rests (za (zc 1) (za (zc 0) zu)))))) (zI (xm 4 (qB zu)) (zI (yX (zX (zc 1)) (.nm 5) (zI (zU 6 (jp (zD (zG (zf 3)) (.nm 0) 1 [5] (sB (zv dNe (sIx (zf 0) (zc 1)) (zh (.int 0)))) (zc 0)))) (zI (sIf (qk (zac (zf 6))) zaf j9) (zI (zU 7 (zn F_inverse (za (zc 0) (za (sIx (zC (sIx (zf 6) (zh (.int 0)))) (zc 5)) zu)))) (zI (zU 8 (zn F_rests (za (zc 0) (za (jp (zD (zG (zC (sIx (zf 6) (zh (.int 0))))) (.nm 0) 1 [7] jb (zv qV (zc 1) (zc 0)))) zu)))) (zI (zU 3 (jp (zD (zG (zf 3)) (.nm 0) 1 [0,5,8] jb (zn F_cleared (za (zc 1) (za (zc 0) (za (zc 3) (za (zc 2) zu)))))))) (xm 4 (yj (jy (zD (zG (zf 4)) (.nm 0) 1 [0,5,8] jb (zn F_cleared (za (zc 1) (za (zc 0) (za (zc 3) (za (zc 2) zu))))))) (jy (qB (za (zc 8) zu))))))))))) (k5 4))))
def ZA:List D->Option Res:=ja 13 (zI (zU 3 (jp (qB zu))) (zI (yX (zG (zC (zc 2))) (.nm 4) (zI (zU 5 (jp (Qz (zf 4)))) (zI (yX (zG (zC (zc 3))) (.tp [6,7]) (zI (zU 8 (sIx (zf 5) (zc 6))) (zU 5 (jp (zD (wK (zc 5) (zc 7)) (.tp [0,1]) 2 [0,8] jb (zv qL (zv xC (zc 0) (zv qV (zc 3) (zc 1))) (zc 2))))))) (zI (zU 9 (jp (zD (zX (zc 1)) (.nm 0) 1 [5] (sB (zv dNe (sIx (zf 1) (zc 0)) (zh (.int 0)))) (zc 0)))) (sIf (sB (zv dGt (ya (zf 9)) (zh (.int 0)))) (zI (zU 6 (sIx (zf 9) (zh (.int 0)))) (zI (zU 10 (sIx (jy (zD (qQ (zh (.int 1)) (zc 0)) (.nm 0) 1 [0,5,6] (sB (zv dEq (zv qL (zv qV (zc 0) (sIx (zf 2) (zc 3))) (zc 1)) (zh (.int 1)))) (zc 0))) (zh (.int 0)))) (zI (zU 5 (jp (zD (zG (zf 5)) (.nm 0) 1 [0,10] jb (zv qL (zv qV (zc 2) (zc 0)) (zc 1))))) (zI (xm 11 (qB zu)) (zI (yX (zG (zC (zc 3))) (.tp [12,7]) (zI (zU 8 (sIx (zf 7) (zc 6))) (qR 11 (jx (za (zc 12) (za (jp (zD (wK (zc 7) (zc 5)) (.tp [0,1]) 2 [0,8] jb (zv qL (zv xC (zc 0) (zv qV (zc 3) (zc 1))) (zc 2)))) zu)))))) (zU 3 (jp (Qw (jy (yj (zf 11) (jy (qB (za (jx (za (zc 6) (za (zc 5) zu))) zu))))))))))))) j9))))) (xD (zD (zG (zf 3)) (.tp [0,1]) 2 [] jb (zO (zf 1))))))
def F_behind_noughts:List D->Option Res:=ja 2 (xD (zD (zG (zf 1)) (.nm 0) 1 [0] (qk (sB (zbL (zC (Qs (zc 0) Yr (sBd (zc 1))))))) (Qs (zc 0) (sBd (zc 1)) Yr)))
def F_led_into:List D->Option Res:=ja 5 (zI (zU 3 (jp (zD (wK (sIx (zC (zn F_turned_over (za (zc 1) zu))) (zh (.int 2))) (sIx (zC (zn F_same_table (za (sIx (zf 1) (zh (.int 1))) zu))) (zh (.int 2)))) (.tp [0,1]) 2 [] jb (zv jj (zc 0) (zc 1))))) (zI (zU 4 (jp (zD (zG (zf 2)) (.nm 0) 1 [1] jb (zv jj (zc 0) (zv qV (jx (za (zh (.int 0)) zu)) (sIx (zf 1) (zh (.int 1)))))))) (xD (jg F_behind_noughts (za (sIx (zf 1) (zh (.int 0))) (za (jp (jg F_base_of (za (zc 0) (za (zv jj (sIx (zf 1) (zh (.int 0))) (sIx (zf 1) (zh (.int 1)))) (za (jp (yj (zf 3) (zf 4))) zu))))) zu))))))
def xI:List D->Option Res:=ja 2 (xD (jg F_led_into (za (zc 0) (za (zc 1) (za (jp (qB zu)) zu)))))
def k9:List D->Option Res:=ja 2 (xD (jg F_base_of (za (zc 0) (za (sIx (zf 1) (zh (.int 0))) (za (sIx (zC (zn F_turned_over (za (zc 1) zu))) (zh (.int 2))) zu)))))
def jV:List D->Option Res:=ja 1 (j3 (sIx (jy (zD (zae (zc 0)) (.tp [0,1]) 2 [] (sB (zv dNe (zc 1) (zh (.int 0)))) (zc 0))) (zh (.int 0))))
def kJ:List D->Option Res:=ja 7 (zI (zU 3 (sIx (zf 1) (zh (.int 1)))) (zI (xm 4 (zcP (jy (qB (za (zh (.int 0)) zu))) (zc 3))) (zI (yX (zG (zC (jp (jg F_base_of (za (zc 0) (za (zv jj (zc 3) (zh (.int 1))) (za (jp (zD (wK (sIx (zf 1) (zh (.int 2))) (zc 2)) (.tp [0,1]) 2 [] jb (zv jj (zc 0) (jx (za (zc 1) zu))))) zu))))))) (.nm 5) (zI (zU 6 (zn jV (za (zc 5) zu))) (zI (sIf (sB (zv dEq (zc 6) (zc 3))) (j3 (zh .non)) j9) (Y0 4 (zc 6) (sIx (zf 5) (zc 3)))))) (j3 (zO (zf 4))))))
section
variable(γ:Ctx)
@[simp] theorem zh2(f):zae f γ=(f γ).bind λd=>match d with
 | .tup ds=>some (xo ds)
 | _=>none:=rfl
@[simp] theorem zgP(F G a b c):Zd F G a b c γ=(a γ).bind λx=>(b γ).bind λy=>((F x y).bind asB).bind λk=>if k=true then (c γ).bind λz=>G y z else some (.bl false):=rfl
@[simp] theorem Xg(T f):Qx T f γ=(f γ).bind λd=>(qe T d γ).map .next:=rfl
end
section
variable(γ:Ctx)
@[simp] theorem zcl(i F):zd9 i F γ=(qW γ[i]?).bind λds=>F (γ.set i (.val (.lst ds))):=rfl
end
section
variable(γ:Ctx)
@[simp] theorem zbp(f g):JE f g γ=(f γ).bind λd=>((g γ).bind asI).bind λi=>match d with
 | .str z=>if jf z=true then (ixD z.cps.toList.length i).bind λk=>z.cps.toList[k]?.map λc=> .str ⟨#[c]⟩else none
 | _=>none:=rfl
@[simp] theorem WG(f):JF f γ=(f γ).bind λd=>match d with
 | .str z=>if jf z=true then some (.int z.length)else none
 | _=>none:=rfl
@[simp] theorem zd3(f g):zcR f g γ=(f γ).bind λd=>(g γ).bind λa=>match d,a.1 with
 | .str sep,.L=>(wO a.2).bind λl=>if l.length<=lim/\l.all jf=true/\jf sep=true then some (.str (zmK sep l))else none
 | _,_=>none:=rfl
end
def wW:List D->Option Res:=ja 2 (j3 (JG (sB (zv dEq (zc 1) (zh (.str "r")))) (zc 0) (zv jj (zc 0) (zh (.int 1)))))
def zbu:List D->Option Res:=ja 2 (j3 (JG (sB (zv dEq (zc 1) (zh (.str "r")))) (zv jj (zc 0) (zh (.int 1))) (zc 0)))
def zg4(f:CO D):CO D:=λγ=>(f γ).map λd=> .bl (zce .list d || zce .tuple d)
def F_is_whole:List D->Option Res:=ja 1 (j3 (zea (sIs .int (zc 0)) (zgk (sIs .bool (zc 0)))))
def F_is_room:List D->Option Res:=ja 2 (j3 (zea (zn F_is_whole (za (zc 1) zu)) (Zd dLe dLt (zh (.int 0)) (zc 1) (zc 0))))
def F_ask_rooms:List D->Option Res:=ja 4 (zI (zU 3 (ya (zC (sIx (zf 0) (zh (.int 1)))))) (zI (sIf (qk (sB (zn F_is_room (za (zc 3) (za (zc 1) zu))))) kS j9) (sIf (zad (qk (sB (zn F_is_room (za (zc 3) (za (zc 2) zu))))) (sB (zv dLt (zc 2) (zc 1)))) kS j9)))
def k8:List D->Option Xn:=QC 4 (zcr xNo (zU 3 (ya (zC (sIx (zf 0) (zh (.int 1)))))) (zcr (xIf (qk (sB (zn F_is_room (za (zc 3) (za (zc 1) zu))))) (zej "NoRoom" (zc 1)) xNo) (sIf (qk (sB (zn F_is_room (za (zc 3) (za (zc 1) zu))))) kS j9) (xIf (zad (qk (sB (zn F_is_room (za (zc 3) (za (zc 2) zu))))) (sB (zv dLt (zc 2) (zc 1)))) (zej "NoRoom" (zc 2)) xNo)))
def F_cut:List D->Option Res:=ja 3 (zI (QB (zn F_ask_rooms (za (zc 0) (za (zc 1) (za (zc 2) zu))))) (j3 (jx (za (sIx (zf 0) (zh (.int 0))) (za (Qs (sIx (zf 0) (zh (.int 1))) (sBd (zc 1)) (sBd (zv jj (zc 2) (zh (.int 1))))) (za (Qs (sIx (zf 0) (zh (.int 2))) (sBd (zc 1)) (sBd (zc 2))) zu))))))
def zgh:List D->Option Xn:=QC 3 (yc k8 (za (zc 0) (za (zc 1) (za (zc 2) zu))))
def Xo:List D->Option Res:=ja 2 (j3 (zea (zg4 (zc 0)) (zv dEq (ya (zf 0)) (zc 1))))
def F_ways_of:List D->Option Res:=ja 1 (j3 (zcR (zh (.str "")) (jy (zD (zG (zC (sIx (zf 0) (zh (.int 2))))) (.nm 0) 1 [] jb (sIx (zf 0) (zh (.int 0)))))))
def F_one_kind:List D->Option Res:=ja 2 (j3 (zea (zv dEq (sIx (zf 0) (zh (.int 0))) (sIx (zf 1) (zh (.int 0)))) (zv dEq (zn F_ways_of (za (zc 0) zu)) (zn F_ways_of (za (zc 1) zu)))))
def F_ask_one_kind:List D->Option Res:=ja 2 (sIf (qk (sB (zn F_one_kind (za (zc 0) (za (zc 1) zu))))) kS j9)
def qv:List D->Option Xn:=QC 2 (xIf (qk (sB (zn F_one_kind (za (zc 0) (za (zc 1) zu))))) (zcu "Unlike") xNo)
section
variable{X:Cx}{sc:Scope}{N L:List Str}{k:Nat}{a e:Expr}{es:List Expr}{f:CO D}{g:CO (List D)}{pos p p2:Pos}
theorem ZS(he:PV X e f)(I:swapsWith e none pos.line X.env=pure false:=by rfl):PSD X (.Expr e pos) (QB f):=qZ (QH he I) λD σ H O=>by
 obtain⟨E0,E,H0,γ,U,rs,z,S⟩:=O;obtain⟨d,e1,z⟩:=zB z;subst z;exact⟨H0,γ,d,rs.rc,e1,λv H' H0' x r=>S σ H' H0' (rs.step x)⟩
structure GL(K:PySem.W.Frag)(mg:Str->Option Value)(x:Str)(d:D):Prop where
 ex : ∃u v,mg x=some u/\RelV v u/\∀H,Rep K H d v
theorem zhd{x:Str}{d:D}(h:SX X sc N L k)(c:yD sc x=true)(z:GL X.K X.mg x d):PV X (.Name x pos) (zh d):=by
 intro pins s σ H Q I ⟨H0,γ,d',rc,O,q⟩;cases O;obtain⟨u,v,h1,h2,S⟩:=z.ex;exact QV I (h.gl c).1 h1 ⟨v,H,I,h2,q v H H0 (Ext.refl rc.sub) (S H0)⟩ (h.gl c).2.2
end
section
variable{K:PySem.W.Frag}{mg:Str->Option Value}{h:Heap}
theorem gl_int{x:Str}{n:Int}{t:Tok}(z:K.In h)(G:h.Ns mainGlobals mg)(a:zlo K mainGlobals x=some (some (.int n t))):GL K mg x (.int n):=
 ⟨_,.int n,zlZ z G a,⟨t,rfl⟩,λ_=>(show V.int n = .int n from rfl)⟩
end
theorem xT{X:Cx}{es:List Expr}{n:Nat}{g:CO (List D)}(h:PAn X es n g):PAD X es g:=h.1
section
variable{K:PySem.W.Frag}{E0 E H0 H:Hp}{σ:St}{γ:Ctx}
theorem Reps.dropLast : ∀{ds:List D} {xs:List V},Reps K H ds xs->Reps K H ds.dropLast xs.dropLast
 | [],xs,r=>by rw [r.inv_nil];exact Reps.nil
 | [d],xs,r=>by
  obtain⟨x,r',e,_,r2⟩:=r.inv_cons;rw [e,r2.inv_nil];exact Reps.nil
 | d::d2::ds,xs,r=>by
  obtain⟨x,r',e,z,r2⟩:=r.inv_cons;obtain⟨O,S,I,_,_⟩:=r2.inv_cons;subst e I;exact Reps.cons z (Reps.dropLast r2)
end
end DL
namespace L2
open PySem PySem.Spec PyProof.Rows
theorem zht(z:Str):strIterType z = "str_ascii_iterator"\/strIterType z = "str_iterator":=by unfold strIterType;split<;>simp
theorem zbb{X:Cx}{pins:List (Addr×Obj)}{σ:St}{H:Hp}{s:Shared}{E:Value->Shared->Prop}{z it:Addr}{i tk:Nat}{x:Value}{v:V}{g:Heap}{elts:List Expr}{x1:Nat}{tpos:Pos}{Q:Unit->Shared->Prop}
 (I:Inv X pins σ H s) (Y : ∀b ∈ [z,it],FpOk X pins H b) (Z:z<s.heap.objs.size) (hi:it<s.heap.objs.size) (a1:IsEnumOut g z it ((i:Int)+1) x s.heap.objs.size)
 (a3:IsPair g s.heap.objs.size (.int i tk) x) (a5 : ∀b o,b≠z->b≠it->s.heap.get? b=some o->g.get? b=some o) (rx:RelV v x)
 (a7 : ∀g2,IsEnum g2 z it ((i+1:Nat):Int) x->zkE z g g2->Inv X pins σ (upd H s.heap.objs.size (.tup [.int i,v])) {s with heap:=g2,toks:=tk+1}->H s.heap.objs.size=none->
   (∀b ∈ [z,it],upd H s.heap.objs.size (.tup [.int i,v]) b=none)->Q () {s with heap:=g2,toks:=tk+1}) :
 wpAny (model X.prog X.w) X.A (letOwnedTupleGo (.Tuple elts x1 tpos) (.ref z) (.ref s.heap.objs.size)) Q E {s with heap:=g,toks:=tk+1}:=by
 refine wpAny_letOwnedTupleGo_enum a1 λg2 a8 U=>?_;have a9:IsPair g2 s.heap.objs.size (.int i tk) x:=U.extBut _ _ (zky Z) a3;have kk : ∀O u,O ∉ [z,it]->s.heap.get? O=some u->g2.get? O=some u:=λO u S e=>by
  simp only [zjm,zjF,or_false,not_or]at S;exact U.extBut _ _ S.1 (a5 O u S.1 S.2 e)
 refine a7 g2 (by have:=a8;rwa [show((i:Int)+1)=((i+1:Nat):Int)by omega]at this) U (I.turnLaid (fp:=[z,it]) kk Y (zjb _) ⟨by show 2<=sizeLine;decide,[.int i tk,x],.cons ⟨_,rfl⟩ (.cons rx .nil),⟨_,a9,rfl,_,rfl⟩⟩) I.fresh λO S=>?_;have aa:O≠s.heap.objs.size:=by
  simp only [zjm,zjF,or_false]at S;rcases S with rfl | rfl
  ·exact zjC Z
  ·exact zjC hi
 rw [zJ aa];exact(Y O S).1
def zib(z:Str):It:=
 ⟨λi _=>i<z.cps.size,λi H x H'=>∃p c,x = .ref p/\H p=none/\H'=upd H p (.tup [.int i,.str ⟨#[c]⟩])/\z.cps[i]? = some c,λi _=>i=z.cps.size⟩
theorem Qa{prog:Program}{w:World}{A:Around}(z:A.handled=none)(it:Addr)(x:Str)(t:Tok) :
 Draws prog w A it [it] x.cps.size (λi v=>∃c u,x.cps[i]? = some c/\v = .str ⟨#[c]⟩ u) (λi h=>h.IsStrIter it (strIterType x) x t i):=by
 rcases zht x with q | q
 ·rw [q];exact Draws.strAscii z it x t
 ·rw [q];exact Draws.strWide z it x t
theorem Ku{P:Program}{w:World}{K:PySem.W.Frag}{elts:List Expr}{x1:Nat}{tpos:Pos}{z it:Addr}(x:Str)(t:Tok)(U:z≠it) :
 Turn P w K (.Tuple elts x1 tpos) (zib x) [z,it] z (λi h=>(∃S,IsEnum h z it i S)/\h.IsStrIter it (strIterType x) x t i) where
 mem:=by simp
 obj:=λi h ⟨⟨S,O⟩,h1⟩ y hy=>by
  simp only [zjm,zjF,or_false]at hy;rcases hy with rfl | rfl
  ·exact⟨_,O,λv q=>by cases q⟩
  ·obtain⟨o,e,c,d⟩:=h1
   exact⟨o,e,λv q=>by rw [d]at q;cases q⟩
 keep:=λi h h' ⟨⟨S,O⟩,h1⟩ k=>⟨⟨S,k z ⋯ _ O⟩,by obtain⟨o,e,r⟩:=h1;exact⟨o,k it ⋯ o e,r⟩⟩
 item:=by
  rintro X rfl rfl rfl Y i pins s σ H E I Z ⟨⟨S,O⟩,h1⟩ a8;have a9:it<s.heap.objs.size:=by obtain⟨o2,e2,_⟩:=h1;exact zjq e2
  have Dr:=Qa (prog:=X.prog) (w:=X.w) (A:=X.A.in1) (show X.A.in1.handled=none from I.ok.hd Y) it x t;refine wpAny_pyNext_enum_itemD Dr O h1 a8 U (by simp;exact U) λu g tk hP a1 a2 a3 a4 a5=>⟨_,rfl,?_⟩;obtain⟨c,tu,ag,rfl⟩:=hP;refine zbb (v:= .str ⟨#[c]⟩) I Z (zjq O) a9 a1 a3 a5 ⟨_,rfl⟩ λg2 b1 b2 I1 ai hn=>⟨.ref s.heap.objs.size,_,I1,rfl,⟨_,_,rfl,ai,rfl,ag⟩,⟨⟨_,b1⟩,?_⟩,hn⟩;obtain⟨o,e,r⟩:=a2;exact⟨o,b2.extBut _ _ U.symm e,r⟩
 done:=by
  rintro X rfl rfl rfl Y i pins s σ H E I Z ⟨⟨S,O⟩,h1⟩ hi;have hi:i=x.cps.size:=hi;subst hi;have Dr:=Qa (prog:=X.prog) (w:=X.w) (A:=X.A.in1) (show X.A.in1.handled=none from I.ok.hd Y) it x t;refine wpAny_pyNext_enum_endD Dr O h1 λg hk=>⟨rfl,?_⟩;refine I.turnedL (t':=s.toks) (fp:=[z,it]) (λb' u hb e=>?_) Z;simp only [zjm,zjF,or_false,not_or]at hb;exact hk b' u hb.2 e
 self:=λ_ _ _ _ _ st h=>J1 st.1.choose_spec h
def zfT(ta:TA):TI:=λσ H R=>ta σ H λvs H1=>∃z,vs=[.str z]/\R (zib z) H1
section
variable{X:Cx}{e1:Expr}{ta:TA}{p pos:Pos}{elts:List Expr}{x1:Nat}{tpos:Pos}
theorem zaz(Y:Gl X "enumerate")(hm:X.mg "enumerate" = none)(ha:PA X [e1] ta)
 (Z:bootBuiltins "enumerate" = some (.type "enumerate")) (hs:starEach [e1] X.env=[(false,eval e1 X.env)]:=by rfl) :
 PI X (.Tuple elts x1 tpos) (.Call (.Name "enumerate" p) [e1] [] pos) (zfT ta):=by
 intro pins s σ H R I h;refine Call_ (kW I Y hm Z (zkd (thn (ha pos pins s σ H _ I h) λus s1 hZ=>?_) (by rw [hs];rfl) rfl));obtain⟨vs,H1,O,r1,q1⟩:=hZ;obtain⟨z,rfl,q⟩:=q1;obtain⟨w1,rfl,a4⟩:=vg r1;obtain⟨t,rfl⟩:=a4;refine call_enumerate_str λg b1 b2 b3 b4=>J1 (s:={s1 with heap:=g}) b1 ?_;refine⟨_,[s1.heap.objs.size+1,s1.heap.objs.size],_,_,H1,rfl,O.kept (t':=s1.toks) b4,Ku z t (zky (zkr _)),⟨⟨_,b1⟩,b2⟩,λc S=>?_,q⟩;have U:s1.heap.objs.size<=c:=by
  simp only [zjm,zjF,or_false]at S;rcases S with rfl | rfl
  ·exact zjB _ _
  ·exact zjb _
 exact O.fpOk U (O.hok.fresh U)
end
end L2
namespace DL
open PySem PySem.Spec PyProof.Rows L2
theorem JD(z:Str):(qE z).length=z.cps.size:=by simp [qE]
theorem zab(z:Str){i c:Nat}(h:z.cps[i]? = some c):(qE z)[i]? = some (.str ⟨#[c]⟩):=by simp [qE,h]
theorem Kr{K:PySem.W.Frag}{H0 Hs:Hp}(z:Str):Walk K H0 Hs (zib z) (xo (qE z)):=by
 have I:(xo (qE z)).length=z.cps.size:=by simp [xo,JD]
 refine⟨λi H1 s hi=>?_,λH1 s=>?_,λi H1 x H1' s hi y=>?_⟩
 ·rw [I]at hi;exact hi
 ·rw [I];exact rfl
 ·obtain⟨p,c,rfl,O,rfl,S⟩:=y
  refine⟨.tup [.int i,.str ⟨#[c]⟩],?_,λG0 s1 s2=>⟨upd G0 p (.tup [.int i,.str ⟨#[c]⟩]),Ext.alloc s2 O _,?_⟩⟩
  ·rw [I]at hi
   unfold xo;rw [zjR,List.getElem?_range (by rw [JD];exact hi),zjt,zab z S];rfl
  ·exact qC (SqT.of zH) (Reps.cons (show V.int i = .int i from rfl) (Reps.cons (show V.str ⟨#[c]⟩ = .str ⟨#[c]⟩from rfl) Reps.nil))
section
variable{X:Cx}{sc:Scope}{N L:List Str}{k:Nat}{a b e:Expr}{pos p p2:Pos}{f fa fb:CO D}
theorem Vm{elts:List Expr}{x1:Nat}{tpos:Pos}(h:SX X sc N L k)(c:yD sc "enumerate" = true)(z:X.mg "enumerate" = none)(ha:PV X a f)(O:starEach [a] X.env=[(false,eval a X.env)]:=by rfl) :
 PIF X (.Tuple elts x1 tpos) (.Call (.Name "enumerate" p) [a] [] pos) (yY f):=
 JQ (zaz (h.gl c).1 z (zS ha jP O) boot_enumerate O) λσ H R U=>by
  obtain⟨H0,γ,ds,rc,I,q⟩:=U;obtain⟨d,Y,I⟩:=bind_some I;cases d with
  | str z=>
   by_cases S:jf z=true
   ·have I:(if jf z=true then some (xo (qE z))else none)=some ds:=I
    rw [if_pos S]at I;cases I;exact⟨H0,γ,_,rc,Y,λv H' H0' x r=>⟨z,by rw [show v = .str z from r],q _ H' H0' x (Kr z)⟩⟩
   ·have I:(if jf z=true then some (xo (qE z))else none)=some ds:=I
    rw [if_neg S]at I;cases I
  | _=>cases I
theorem zc0(ha:PV X a fa)(O:PV X b fb):PV X (.BinOp a .Add b pos) (zag fa fb):=
 jY (zaB KY ha O) λσ H Q S=>by
  obtain⟨H0,γ,d,rc,z,q⟩:=S;obtain⟨x,e1,z⟩:=bind_some z;obtain⟨y,U,z⟩:=bind_some z;cases x with
  | str u=>
   cases y with
   | str w=>
    by_cases I:jf u=true/\jf w=true
    ·have z:(if jf u=true/\jf w=true then some (D.str (u++w))else none)=some d:=z
     rw [if_pos I]at z;cases z;refine⟨H0,γ,_,rc,e1,λv1 H1 Y x1 Z=>⟨Y,γ,_,rc.ext x1,U,λv2 H2 a0 x2 r2=>⟨u,w,Z,r2,?_,q _ H2 a0 (x1.trans x2) rfl⟩⟩⟩;have h1:=yf I.1;have h2:=yf I.2;have:2000<=sizeLine:=by decide
     omega
    ·have z:(if jf u=true/\jf w=true then some (D.str (u++w))else none)=some d:=z
     rw [if_neg I]at z;cases z
   | _=>cases z
  | _=>cases z
end
end DL
namespace DL
open PySem L2 PyProof.Rows
open PySem.W (KasT kas_sort kas_asc kas_desc kas_tail3 kas_descPart kas_count kas_place kas_bin kas_rev)
def Good{α:Type}(n:Nat)(P:α->Prop):KasT α->Prop
 | .ret a=>P a
 | .ask i j k=>i<n/\j<n/\∀b,Good n P (k b)
theorem Good.mono{α:Type}{n:Nat}{P z:α->Prop}(h : ∀a,P a->z a) : ∀{t:KasT α},Good n P t->Good n z t
 | .ret a,g=>h a g
 | .ask i j k,g=>⟨g.1,g.2.1,λb=>(g.2.2 b).mono h⟩
theorem Good.bind{α β:Type}{n:Nat}{P:α->Prop}{z:β->Prop}{f:α->KasT β}(I : ∀a,P a->Good n z (f a)) : ∀{t:KasT α},Good n P t->Good n z (t.bind f)
 | .ret a,g=>I a g
 | .ask i j k,g=>⟨g.1,g.2.1,λb=>(g.2.2 b).bind I⟩
theorem Good.run{α:Type}{n:Nat}{P:α->Prop}{lt:Nat->Nat->Bool} : ∀{t:KasT α},Good n P t->P (zg6 lt t)
 | .ret a,g=>g
 | .ask i j k,g=>(g.2.2 _).run
def Pm(n:Nat)(p:Array Nat):Prop:=p.toList.Perm (zi2 n)
theorem Pm.lt{n:Nat}{p:Array Nat}(h:Pm n p)(hn:0<n)(i:Nat):p.getD i 0<n:=by
 by_cases hi:i<p.size
 ·have e:p.getD i 0=p[i]:=by simp [Array.getD,hi]
  rw [e];exact zi6.mp (h.mem_iff.mp ⋯)
 ·have e:p.getD i 0=0:=by simp [Array.getD,hi]
  rw [e];exact hn
theorem Pm.rev{n:Nat}{p:Array Nat}(h:Pm n p)(i j:Nat):Pm n (kas_rev p i j):=(Array.perm_iff_toList_perm.mp (mirror_perm p i j _)).trans h
theorem Pm.bub{n:Nat}{p:Array Nat}(h:Pm n p)(i j:Nat):Pm n (bubble p i j):=(Array.perm_iff_toList_perm.mp (bubble_perm p i j)).trans h
theorem Z4{n:Nat}{p:Array Nat}(h:Pm n p)(hn:0<n) : ∀f m,Good n (λ_=>True) (kas_asc p f m)
 | 0,m=>trivial
 | f+1,m=>⟨h.lt hn _,h.lt hn _,λb=>by
  cases b with
  | true=>exact trivial
  | false=>exact Z4 h hn f (m+1)⟩
theorem yp{n:Nat}(hn:0<n) : ∀f p m q,Pm n p->Good n (λr=>Pm n r.1) (kas_desc f p m q)
 | 0,p,m,q,h=>h
 | f+1,p,m,q,h=>⟨h.lt hn _,h.lt hn _,λb=>by
  cases b with
  | true=>
   show Good n _ (if q>0 then _ else _);split
   ·exact yp hn f _ _ _ (h.rev _ _)
   ·exact yp hn f _ _ _ h
  | false=>exact⟨h.lt hn _,h.lt hn _,λd=>by
   cases d with
   | true=>exact h
   | false=>exact yp hn f _ _ _ h⟩⟩
theorem J4{n:Nat}(hn:0<n)(m r:Nat){p:Array Nat}(h:Pm n p):Good n (λr=>Pm n r.2) (kas_tail3 m r p):=by
 unfold kas_tail3;refine Good.bind (P:=λ_=>True) (λa _=>?_) (Z4 (h.rev _ _) hn _ _);exact(show Pm n (kas_rev p 0 m)from h.rev _ _)
theorem J5{n:Nat}(hn:0<n)(m r:Nat){p:Array Nat}(h:Pm n p):Good n (λr=>Pm n r.2) (kas_descPart m r p):=
 (yp hn _ _ _ _ h).bind λa ha=>by
   show Good n _ (if a.2.2>0 then _ else _);split
   ·exact J4 hn _ _ (Pm.rev ha _ _)
   ·exact J4 hn _ _ ha
theorem Ye{n:Nat}(hn:0<n)(r:Nat){p:Array Nat}(h:Pm n p):Good n (λr=>Pm n r.2) (kas_count r p):=
 (Z4 h hn _ _).bind λm _=>by
   show Good n _ (if (m==r)=true then _ else if m>1 then _ else _);split
   ·exact h
   ·split
    ·exact⟨h.lt hn _,h.lt hn _,λc=>by
      cases c with
      | true=>exact h
      | false=>exact J5 hn _ _ (h.rev _ _)⟩
    ·exact J5 hn _ _ h
theorem yQ{n:Nat}(hn:0<n){p:Array Nat}(h:Pm n p)(k:Nat) : ∀f l r,Good n (λ_=>True) (kas_place p k f l r)
 | 0,l,r=>trivial
 | f+1,l,r=>by
  show Good n _ (if l>=r then _ else _);split
  ·exact trivial
  ·exact⟨h.lt hn _,h.lt hn _,λc=>by
    cases c with
    | true=>exact yQ hn h k f _ _
    | false=>exact yQ hn h k f _ _⟩
theorem X5{n:Nat}(hn:0<n) : ∀f p k,Pm n p->Good n (Pm n) (kas_bin f p k)
 | 0,p,k,h=>h
 | f+1,p,k,h=>(yQ hn h k k 0 k).bind λl _=>X5 hn f _ _ (h.bub _ _)
theorem V1{n:Nat}(hn:0<n):Good n (Pm n) (kas_sort n):=
 (Ye hn n (show Pm n (List.toArray (zi2 n))from List.Perm.refl _)).bind λr z=>by
   show Good n _ (if r.1<n then _ else _);split
   ·exact X5 hn _ _ _ z
   ·exact z
theorem KW(ps:List (Int×Int)):(QK ps).Perm (zi2 ps.length):=by
 unfold QK;split
 ·exact List.Perm.refl _
 ·exact(V1 ⋯).run
theorem j4{α:Type}(d:α) : ∀ds:List α,(zi2 ds.length).map (λi=>ds.getD i d)=ds:=λds=>by
 apply zl3;intro i;by_cases hi:i<ds.length
 ·simp [hi]
 ·simp [hi,Nat.not_lt.mp hi]
end DL
namespace DL
open PySem PySem.Spec PyProof.Rows L2
def fs2(z I:V):List (Str×V):=ZQ "table" I (ZQ "p" z [])
theorem zhz(z I:V):(fs2 z I).lookup ("p" : Str)=some z:=by
 unfold fs2;rw [qa,qa,if_neg ⋯,if_pos rfl]
theorem zhy(I z:V):(fs2 I z).lookup ("table" : Str)=some z:=by
 unfold fs2;rw [qa,if_pos rfl]
theorem zhA(z I:V):(fs2 z I).lookup ("forth" : Str)=none:=by
 unfold fs2;rw [qa,qa,if_neg ⋯,if_neg ⋯];rfl
theorem vK{H:Hp}{x:Addr}{o o':HO}:upd (upd H x o) x o'=upd H x o':=by
 funext b;by_cases h:b=x
 ·subst h;rw [zH,zH]
 ·rw [zJ h,zJ h,zJ h]
structure ClsA(K:PySem.W.Frag)(C:Addr):Prop where
 cls:Cls K C
 np:NoAttr K C "p"
 nt:NoAttr K C "table"
def vT(C:Addr):Sp:=λvs H Q _=>∃x dx z I,vs=[.ref x,z,I]/\H x=some (.ins C dx [])/\Q .non (upd H x (.ins C dx (fs2 z I)))
def spForth(K:PySem.W.Frag)(C:Addr)(F:List D->Option Res):Sp:=λvs H Q _=>∃x dx z I O H0 p t b ds,vs=[.ref x,O]/\H x=some (.ins C dx (fs2 z I))/\Same H0 H/\Rep K H0 p z/\Rep K H0 t I/\Rep K H0 b O/\F [p,t,b]=some (.own ds)/\ziB K H0 H Q (.own ds)
section
variable{P:Program}{w:World}{K:PySem.W.Frag}{mg:Str->Option Value}{base:Heap}{k:Nat}
theorem zdD{q:Str}{st:Stmt}{f C:Addr}{fd:FuncData}(O:L2.Fun K "__init__" q st f fd)(hd:Q6 ["self","p","table"] ["self","p","table"] st=true)(c:ClsA K C)
 (U : ∀X:Cx,X.prog=P->X.w=w->X.K=K->X.mg=mg->X.base=base->SX X (defScope st) ["self","p","table"] ["self","p","table"] k->PSs X (defBody st) (zic (zg5 X.K (vP 0) (vP 1) "p") (zg5 X.K (vP 0) (vP 2) "table"))) :
 FnOk P w K mg base CX0 (k+1) f fd ["self","p","table"] (vT C):=by
 have S:=yi hd;refine O.ok S (λvs H Q E h=>by obtain⟨x,dx,z,I,rfl,_⟩:=h;rfl) λcdv A outer s H vs Q E Y Z=>⟨_,U _ rfl rfl rfl rfl rfl ⟨rfl,rfl,S.nd,rfl,Y,λ_ _=> .inl rfl⟩,?_⟩;obtain⟨x,dx,z,I,rfl,hx,q⟩:=Z;refine⟨z,rfl,.ref x,rfl,x,C,dx,[],rfl,hx,c.cls,c.np,by decide,?_⟩;refine⟨I,rfl,.ref x,rfl,x,C,dx,ZQ "p" z [],rfl,zH,c.cls,c.nt,by show 1<1000;decide,?_⟩;rw [vK];exact q
theorem X9{q:Str}{st:Stmt}{f C:Addr}{fd:FuncData}{F:List D->Option Res}(U:L2.Fun K "forth" q st f fd)(hd:Q6 ["self","base"] ["self","base"] st=true)(c:ClsA K C)
 (Y : ∀X:Cx,X.prog=P->X.w=w->X.K=K->X.mg=mg->X.base=base->SX X (defScope st) ["self","base"] ["self","base"] k->
   PSs X (defBody st) (zgS (W6 (spF X.K 3 F) [] E0 (vQ (zgY X.K (vP 0) "p") (vQ (zgY X.K (vP 0) "table") (vQ (vP 1) zd8)))))) :
 FnOk P w K mg base CX0 (k+1) f fd ["self","base"] (spForth K C F):=by
 have S:=yi hd;refine U.ok S (λvs H Q E h=>by obtain⟨x,dx,z,I,O,H0,p,t,b,ds,rfl,_⟩:=h;rfl) λcdv A outer s H vs Q E Z a0=>⟨_,Y _ rfl rfl rfl rfl rfl ⟨rfl,rfl,S.nd,rfl,Z,λ_ _=> .inl rfl⟩,?_⟩;obtain⟨x,dx,z,I,O,H0,p,t,b,ds,rfl,hx,h0,r1,r2,r3,hF,a4⟩:=a0;refine⟨.ref x,rfl,x,C,dx,_,z,rfl,hx,c.cls,c.np,zhz z I,.ref x,rfl,x,C,dx,_,I,rfl,hx,c.cls,c.nt,zhy z I,O,rfl,?_⟩;exact⟨H0,[p,t,b],.own ds,h0,Reps.cons r1 (Reps.cons r2 (Reps.cons r3 Reps.nil)),rfl,hF,a4⟩
def spBy(CR CL:Addr):Sp:=λvs H Q _=>∃z s I,vs=[z,.str s,I]/\∀x dx,H x=none->H dx=none->dx≠x->Q (.ref x) (upd (upd H dx (.own x)) x (.ins (if s=("r" : Str)then CR else CL) dx (fs2 z I)))
theorem zhC{x:Str}{st:Stmt}{f CR CL:Addr}{fd:FuncData}(U:L2.Fun K x x st f fd)(hd:Q6 ["p","way","table"] ["p","way","table"] st=true)
 (Y : ∀X:Cx,X.prog=P->X.w=w->X.K=K->X.mg=mg->X.base=base->SX X (defScope st) ["p","way","table"] ["p","way","table"] k->
   PSs X (defBody st) (zgS (L2.tIf (zez (tOp rEq (vP 1) (tC (.str "r")))) (W4 CR (vT CR) [] E0 (vQ (vP 0) (vQ (vP 2) zd8))) (W4 CL (vT CL) [] E0 (vQ (vP 0) (vQ (vP 2) zd8)))))) :
 FnOk P w K mg base CX0 (k+1) f fd ["p","way","table"] (spBy CR CL):=by
 have S:=yi hd;refine U.ok S (λvs H Q E h=>by obtain⟨I,s,O,rfl,_⟩:=h;rfl) λcdv A outer s H vs Q E Z a0=>⟨_,Y _ rfl rfl rfl rfl rfl ⟨rfl,rfl,S.nd,rfl,Z,λ_ _=> .inl rfl⟩,?_⟩;obtain⟨I,z,O,rfl,q⟩:=a0;have go : ∀C,(∀x dx,H x=none->H dx=none->dx≠x->Q (.ref x) (upd (upd H dx (.own x)) x (.ins C dx (fs2 I O))))->W4 C (vT C) [] E0 (vQ (vP 0) (vQ (vP 2) zd8)) (start ["p","way","table"] [I,.str z,O]) H Q:=λC q=>by
  refine⟨I,rfl,O,rfl,λx dx hx a1 a2=>⟨x,dx,I,O,rfl,zH,rfl,?_⟩⟩;rw [vK];exact q x dx hx a1 a2
 refine⟨.str z,rfl,rfl,_,rfl,?_⟩;show(if decide (V.str z=V.str "r")=true then _ else _);by_cases h:z=("r" : Str)
 ·rw [if_pos (decide_eq_true (by rw [h]))]
  refine go CR λx dx a b c=>?_;have:=q x dx a b c
  rwa [if_pos h]at this
 ·rw [if_neg (by simpa using h)]
  refine go CL λx dx a b c=>?_;have:=q x dx a b c
  rwa [if_neg h]at this
end
section
variable{X:Cx}{sc:Scope}{N L:List Str}{k j jr jl:Nat}{a b c d:Expr}{p pos1 apos pos2:Pos}{fa fb fc fd:CO D}{F G:List D->Option Res}{x:Str}{CR CL:Addr}
structure FnBy(P:Program)(w:World)(K:PySem.W.Frag)(mg:Str->Option Value)(base:Heap)(j:Nat)(x:Str)(CR CL:Addr):Prop where
 ex : ∃(f:Addr) (fd:FuncData),FnOk P w K mg base CX0 j f fd ["p","way","table"] (spBy CR CL)/\mg x=some (.ref f)/\PySem.W.keepIn K (.ref f)=true/\Binds K fd ["p","way","table"] []
structure MethAt(P:Program)(w:World)(K:PySem.W.Frag)(mg:Str->Option Value)(base:Heap)(j:Nat)(C:Addr)(F:List D->Option Res):Prop where
 cls:ClsA K C
 ex : ∃(f:Addr) (fd:FuncData),Meth K C "forth" f/\FnOk P w K mg base CX0 j f fd ["self","base"] (spForth K C F)/\Binds K fd ["self","base"] []
theorem zax(al:FnBy X.prog X.w X.K X.mg X.base j x CR CL)(hR:MethAt X.prog X.w X.K X.mg X.base jr CR F)(hL:MethAt X.prog X.w X.K X.mg X.base jl CL G)(h1:j<=k)(h2:jr<=k)(h3:jl<=k)(h:SX X sc N L k)(cx:yD sc x=true)
 (ha:PV X a fa) (hb:PV X b fb) (hc:PV X c fc) (hd:PV X d fd)
 (he:starEach [a,b,c] X.env=(false,eval a X.env)::starEach [b,c] X.env:=by rfl) (ar:(backTo pos1 (starEach [b,c] X.env)).any (·.1)=false:=by rfl)
 (as:starEach [b,c] X.env=(false,eval b X.env)::starEach [c] X.env:=by rfl) (au:starEach [c] X.env=(false,eval c X.env)::starEach [] X.env:=by rfl)
 (ae:starEach [d] X.env=(false,eval d X.env)::starEach [] X.env:=by rfl) (av:(backTo pos2 (starEach [] X.env)).any (·.1)=false:=by rfl)
 {pl:Sem Bool} (ht:eval (.Call (.Attribute (.Call (.Name x p) [a,b,c] [] pos1) "forth" apos) [d] [] pos2) X.env=(do
  let ov <- eval (.Call (.Name x p) [a,b,c] [] pos1) X.env
  standAt apos.atName
  let (f,first) <- holding [ov] (getMethod ov "forth" pl)
  callWith pos2 f first (backTo pos2 (starEach [d] X.env)) (backToKw pos2 (keywordEach [] X.env))):=by rfl) :
 PO X (.Call (.Attribute (.Call (.Name x p) [a,b,c] [] pos1) "forth" apos) [d] [] pos2) (XA F G (za fa (za fb (za fc (za fd zu))))):=by
 intro pins s σ H Q I ⟨H0,γ,ds,rc,O,q⟩;obtain⟨l,e0,O⟩:=bind_some O;obtain⟨dp,e1,e0⟩:=bind_some e0;obtain⟨l1,e2,rfl⟩:=zB e0;obtain⟨dw,e3,e2⟩:=bind_some e2;obtain⟨l2,e4,rfl⟩:=zB e2;obtain⟨Z,e5,e4⟩:=bind_some e4;obtain⟨l3,e6,rfl⟩:=zB e4;obtain⟨db,e7,e6⟩:=bind_some e6;obtain⟨l4,e8,rfl⟩:=zB e6;cases e8;cases dw with
 | str z=>
  have O:((if z=("r" : Str)then F else G) [dp,Z,db]).bind zeb=some ds:=O;obtain⟨r,e9,ag⟩:=bind_some O;cases r with
  | val _=>cases ag
  | own c2=>
   cases ag;obtain⟨c3,c4,Gy,my,ky,bd⟩:=al.ex;have call:=wa (p:=p) (pos:=pos1) Gy (h.room.mono h1) (h.gl cx).1 my ky bd .nil JS (zS ha (zS hb (zS hc jP au) as) he) (h.gl cx).2.2 he ar;have go : ∀(C:Addr) (jc:Nat) (Fc:List D->Option Res),(if z=("r" : Str)then CR else CL)=C->MethAt X.prog X.w X.K X.mg X.base jc C Fc->jc<=k->Fc [dp,Z,db]=some (.own ds)->
    wpAny (model X.prog X.w) X.A (eval (.Call (.Attribute (.Call (.Name x p) [a,b,c] [] pos1) "forth" apos) [d] [] pos2) X.env) (EP X pins σ Q) X.xe s:=λC jc Fc hC M hj hF=>by
    obtain⟨fm,c6,Mm,Gm,bm⟩:=M.ex;refine zdc (pl:=pl) (E:=E0) call M.cls.cls Mm Gm (h.room.mono hj) bm .nil JS (zS hd jP ae) ae av ht pins s σ H Q I ?_;refine⟨H0,γ,dp,rc,e1,λS H1 bl x1 r1=>⟨bl,γ,_,rc.ext x1,e3,λv2 H2 bp x2 r2=>⟨bp,γ,Z,(rc.ext x1).ext x2,e5,λU H3 a2 x3 r3=>?_⟩⟩⟩;refine⟨S,z,U,by rw [show v2 = .str z from r2];rfl,λo a3 n1 n2 br=>?_⟩;rw [hC];have xe:Ext a2 H3 a2 (upd (upd H3 a3 (.own o)) o (.ins C a3 (fs2 S U))):=(Ext.hide x3.sub n2 (.own o)).trans (Ext.hide (x3.sub.trans (z5 n2 _)) (by rw [zJ (zj6 br)];exact n1) _);have xa:=(x1.trans (x2.trans x3)).trans xe;refine⟨o,a3,fs2 S U,rfl,zH,zhA S U,a2,γ,db,rc.ext xa,e7,λv4 H4 aj Y r4=>?_⟩;have ak:Same a2 aj:=Y.s0;refine⟨o,a3,S,U,v4,aj,dp,Z,db,ds,rfl,Y.s1 _ _ zH,Y.sub,((r1.mono x2.s0).mono x3.s0).mono ak,r3.mono ak,r4,hF,?_⟩;exact λa' xs H' H0' x5 g1 g2 g3 g4=>q a' xs H' H0' (xa.trans (Y.trans x5)) (wb (xa.trans Y).s1 g1) g2 g3 g4
   by_cases hz:z=("r" : Str)
   ·rw [if_pos hz]at e9
    exact go CR jr F (if_pos hz) hR h2 e9
   ·rw [if_neg hz]at e9
    exact go CL jl G (if_neg hz) hL h3 e9
 | _=>cases O
end
section
variable{X:Cx}{sc:Scope}{N L:List Str}{k:Nat}{a:Expr}{pos:Pos}{f:CO (List D)}
theorem zc4(i:Nat){x:Str}{apos cpos np:Pos}(h:SX X sc N L k)(c:WY sc N i x=true)(ha:PO X a f)(I:starEach [a] X.env=[(false,eval a X.env)]:=by rfl)
 (Z:attributeBase (.Name x np) "extend" X.env (eval (.Name x np) X.env)=eval (.Name x np) X.env:=by rfl)
 (a0:((backTo cpos (starEach [a] X.env)).all (λx=> !x.1) && (backToKw cpos (keywordEach [] X.env)).all (λx=>x.1.isSome)
   && decide ([a].length+([]:List Keyword).length+(if ([]:List Keyword).isEmpty then 0 else 1)<30))=true:=by rfl)
 (a1:(apos.endLine==cpos.line)=true:=by rfl) (a2:swapsWith (.Call (.Attribute (.Name x np) "extend" apos) [a] [] cpos) none pos.line X.env=pure false:=by rfl) :
 PSD X (.Expr (.Call (.Attribute (.Name x np) "extend" apos) [a] [] cpos) pos) (QA i f):=
 qZ (QH (zdf PySem.F.plainAttrs_list PySem.F.slot_list_extend PySem.F.type_list_extend Vw (h.var c) (zS ha jP I) Z a0 a1 I rfl) a2) λD σ H hZ=>by
  obtain⟨E0,E,H0,γ,fl,rs,z,a4⟩:=hZ;obtain⟨ds,e1,z⟩:=bind_some z;obtain⟨es,e2,z⟩:=bind_some z;have e1:=kc e1;by_cases O:ds.length+es.length<=lim
  ·rw [if_pos O]at z;cases z
   obtain⟨l,xs,h1,h2,S,U⟩:=rs.rc.own i ds e1;refine⟨_,h1,.inl ⟨rfl,_,SqL.of S⟩,H0,γ,es,rs.rc,e2,λb zs H' H0' x g1 g2 g3 Y=>?_⟩;have hl:xs.length+zs.length<=sizeLine:=by
    rw [U.length,Y.length];have:lim<=sizeLine:=by decide
    omega
   refine⟨l,b,xs,zs,rfl,rfl,x.s1 _ _ S,g3,hl,?_⟩;have a8:=rs.step x;exact a4 _ _ _ (a8.rewrite (xs:=xs) e1 h1 ((U.mono x.s0).append Y))
  ·rw [if_neg O]at z;cases z
end
def zbk(K:PySem.W.Frag)(C:Addr):Bool:=PySem.W.makesIn K C && PySem.W.keepIn K (.ref C) && PySem.W.plainGet K C Str.empty && PySem.W.hasDictIn K C && PySem.W.plainOver K C &&
 PySem.W.findIn K (.ref C) "__setattr__" == some (some (.builtin "object.__setattr__")) && PySem.W.findIn K (.ref C) "p" == some none && PySem.W.findIn K (.ref C) "table" == some none
structure ArrAt(K:PySem.W.Frag)(mg:Str->Option Value)(sI sR sL:Stmt):Prop where
 ex : ∃(CR CL fI fR fL:Addr) (dI dR dL:FuncData),mg "Right" = some (.ref CR)/\mg "Left" = some (.ref CL)/\Mk K CR fI/\Mk K CL fI/\ClsA K CR/\ClsA K CL/\Meth K CR "forth" fR/\Meth K CL "forth" fL/\
  L2.Fun K "__init__" "Arrow.__init__" sI fI dI/\L2.Fun K "forth" "Right.forth" sR fR dR/\L2.Fun K "forth" "Left.forth" sL fL dL/\
  Binds K dI ["self","p","table"] []/\Binds K dR ["self","base"] []/\Binds K dL ["self","base"] []
section
variable{K:PySem.W.Frag}{mg:Str->Option Value}{h:Heap}
theorem Wi{C:Addr}(b:zbk K C=true):ClsA K C/\PySem.W.makesIn K C=true/\PySem.W.keepIn K (.ref C)=true:=by
 unfold zbk at b;simp only [Bool.and_eq_true,beq_iff_eq]at b;obtain⟨⟨⟨⟨⟨⟨⟨b1,b2⟩,b3⟩,b4⟩,b5⟩,b6⟩,b7⟩,b8⟩:=b;exact⟨⟨⟨b3,b4,b5,b6⟩,b7,b8⟩,b1,b2⟩
theorem arr_mk{sI sR sL:Stmt}{CR CL fI fR fL:Addr}{oI oR oL:Value}{eI eR eL aI aR aL:Option Addr}{lI lR lL:Array (Option Value)}{kI dI pI z tI kR dR pR I tR kL dL pL O tL:Value}(S:K.In h)(G:h.Ns mainGlobals mg)
 (nR:zlo K mainGlobals "Right" = some (some (.ref CR))) (nL:zlo K mainGlobals "Left" = some (some (.ref CL)))
 (iR:PySem.W.findIn K (.ref CR) "__init__" = some (some (.ref fI))) (iL:PySem.W.findIn K (.ref CL) "__init__" = some (some (.ref fI)))
 (mR:PySem.W.findIn K (.ref CR) "forth" = some (some (.ref fR))) (mL:PySem.W.findIn K (.ref CL) "forth" = some (some (.ref fL)))
 (uI:K.lookup fI=some ⟨oI,eI,.func (PySem.W.fnOf "__init__" "Arrow.__init__" (defArgs sI) (defBody sI) (defScope sI) .none kI dI pI aI z tI),lI⟩)
 (uR:K.lookup fR=some ⟨oR,eR,.func (PySem.W.fnOf "forth" "Right.forth" (defArgs sR) (defBody sR) (defScope sR) .none kR dR pR aR I tR),lR⟩)
 (uL:K.lookup fL=some ⟨oL,eL,.func (PySem.W.fnOf "forth" "Left.forth" (defArgs sL) (defBody sL) (defScope sL) .none kL dL pL aL O tL),lL⟩)
 (vI:PySem.W.codeIn K z "Arrow.__init__" = true) (vR:PySem.W.codeIn K I "Right.forth" = true) (vL:PySem.W.codeIn K O "Left.forth" = true)
 (w1:PySem.W.keepIn K (.ref fI)=true) (w2:PySem.W.keepIn K (.ref fR)=true) (w3:PySem.W.keepIn K (.ref fL)=true)
 (z1:PySem.W.isFn K (.ref fI)=true) (z2:PySem.W.isFn K (.ref fR)=true) (z3:PySem.W.isFn K (.ref fL)=true)
 (bR:zbk K CR=true) (bL:zbk K CL=true)
 (gI : ∀(kV doc pm:Value) (an:Option Addr) (cdv ct:Value) (us:List Value),us.length=3->bindArgs (PySem.W.fnOf "__init__" "Arrow.__init__" (defArgs sI) (defBody sI) (defScope sI) .none kV doc pm an cdv ct) ⟨us,[]⟩=pure ((["self","p","table"]:List Str).zip us))
 (gR : ∀(kV doc pm:Value) (an:Option Addr) (cdv ct:Value) (us:List Value),us.length=2->bindArgs (PySem.W.fnOf "forth" "Right.forth" (defArgs sR) (defBody sR) (defScope sR) .none kV doc pm an cdv ct) ⟨us,[]⟩=pure ((["self","base"]:List Str).zip us))
 (gL : ∀(kV doc pm:Value) (an:Option Addr) (cdv ct:Value) (us:List Value),us.length=2->bindArgs (PySem.W.fnOf "forth" "Left.forth" (defArgs sL) (defBody sL) (defScope sL) .none kV doc pm an cdv ct) ⟨us,[]⟩=pure ((["self","base"]:List Str).zip us)):ArrAt K mg sI sR sL:=by
 obtain⟨c1,c2,c3⟩:=Wi bR;obtain⟨d1,d2,d3⟩:=Wi bL;have U:=X8 uI vI w1;have Y:=X8 uR vR w2;have Z:=X8 uL vL w3;exact⟨CR,CL,fI,fR,fL,_,_,_,zlZ S G nR,zlZ S G nL,⟨c2,iR,z1,c3⟩,⟨d2,iL,z1,d3⟩,c1,d1,⟨mR,z2,w2⟩,⟨mL,z3,w3⟩,U,Y,Z,U.binds gI,Y.binds gR,Z.binds gL⟩
end
def zdP:Stmt->List Stmt
 | .ClassDef _ _ _ b _ _ _ _ _ _ _=>b
 | _=>[]
def inCls(st:Stmt)(j:Nat):Stmt:=(zdP st).getD j (.Pass ⟨0,0,0,0⟩)
theorem Zp{K:PySem.W.Frag}{H:Hp} : ∀{ds:List D} {ns:List Int} {xs:List V},yO ds=some ns->Reps K H ds xs->xs=(ns.map zmB).map kV
 | [],ns,xs,e,r=>by cases e;exact r.inv_nil
 | d::ds,ns,xs,e,r=>by
  cases d with
  | int i=>
   obtain⟨l,e1,z⟩:=zB e;subst z;obtain⟨x,t,rfl,h1,h2⟩:=r.inv_cons;rw [Zp e1 h2,show x = .int i from h1];rfl
  | _=>cases e
end DL
namespace L2
open PySem PySem.Spec PyProof.Rows
theorem ZI(a b c:Value):checkTypeCall "zip" ⟨[a,b,c],[]⟩=pure ():=by kernel_rfl
theorem JW(a b c:Value):checkBuiltinCall "zip.__new__" ⟨[.type "zip",a,b,c],[]⟩=pure ():=by kernel_rfl
abbrev xc(h:Heap)(T:Addr)(a b c:Value):Prop:=h.get? T=some {cls:= .type "tuple",data:= .seq #[a,b,c]}
structure Zip3A(z TI TO i1 i2 i3 l1 l2 l3:Addr):Prop where
 TIz:TI≠z
 TOz:TO≠z
 i1z:i1≠z
 i2z:i2≠z
 i3z:i3≠z
 TITO:TI≠TO
 TIi1:TI≠i1
 TIi2:TI≠i2
 TIi3:TI≠i3
 TOi1:TO≠i1
 TOi2:TO≠i2
 TOi3:TO≠i3
 i12:i1≠i2
 i13:i1≠i3
 i23:i2≠i3
 l1z:l1≠z
 l2z:l2≠z
 l2TO:l2≠TO
 l2i1:l2≠i1
 l3z:l3≠z
 l3TO:l3≠TO
 l3i1:l3≠i1
 l3i2:l3≠i2
section
variable{prog:Program}{w:World}{A:Around}{E:Value->Shared->Prop}{s:Shared}
theorem Jw{T:Addr}{a b c x:Value}{k:Nat}{Q:Unit->Shared->Prop}(z:xc s.heap T a b c)
 (h : ∀h',h'.get? T=some {cls:= .type "tuple",data:= .seq ((#[a,b,c]:Array Value).setIfInBounds k x)}->zkE T s.heap h'->Q () {s with heap:=h'}) :
 wpAny (model prog w) A (updateSeq T (·.setIfInBounds k x)) Q E s:=by
 have q:=zlx (Obj.mapSeq λ(t:Array Value)=>t.setIfInBounds k x) z rfl;exact wpAny_updateSeq z rfl (h _ (by rw [q];simp [Obj.mapSeq]) (zk6 ..))
theorem Yw{k1 k2 k3:Sk}{z TI TO i1 i2 i3 l1 l2 l3:Addr}{n1 n2 n3:Nat}{xs ys zs:Array Value}{x y v a b c:Value}{Q:Value->Shared->Prop}(D:Zip3A z TI TO i1 i2 i3 l1 l2 l3)
 (U:IsZip s.heap z TI TO .none) (ay:xc s.heap TI (.ref i1) (.ref i2) (.ref i3)) (az:xc s.heap TO a b c)
 (h1:ItAt k1 s.heap i1 l1 n1) (h2:ItAt k2 s.heap i2 l2 n2) (h3:ItAt k3 s.heap i3 l3 n3) (b9:SqAt k1 s.heap l1 xs) (ba:SqAt k2 s.heap l2 ys) (bb:SqAt k3 s.heap l3 zs) (hx:xs[n1]? = some x) (hy:ys[n2]? = some y) (hv:zs[n3]? = some v)
 (hQ : ∀h',IsZip h' z TI TO (rawInt s.heap.objs.size)->xc h' TO x y v->ItAt k1 h' i1 l1 (n1+1)->ItAt k2 h' i2 l2 (n2+1)->ItAt k3 h' i3 l3 (n3+1)->xc h' s.heap.objs.size x y v->h'.objs.size=s.heap.objs.size+1->
   (∀c o,c≠z->c≠TO->c≠i1->c≠i2->c≠i3->s.heap.get? c=some o->h'.get? c=some o)->Q (.ref s.heap.objs.size) {s with heap:=h'}) :
 wpAny (model prog w) A (Builtin.«zip.__next__» ⟨[.ref z],[]⟩) (λbf s'=>∃v,bf = .done (.ret v)/\Q v s') E s:=by
 refine zi0 (m:=field (.ref z) 2) (zj4 U rfl (x:= .bool false) rfl ?_);refine zi0 (m:=field (.ref z) 3) (zj4 U rfl (x:= .ref TI) rfl ?_);refine zi0 (zj3 ay rfl ?_);refine zi0 (m:=zjE (.ref z)) ?_;unfold zjE;refine zi0 (zj4 U rfl (x:= .none) rfl (zi4 ?_));simp only [if_true];refine zi0 (zlz (zi0 (zj4 U rfl (x:= .ref TO) rfl ?_)));refine zi0 (zkm U ⋯ λg1 ae Y=>?_);replace ae:IsZip g1 z TI TO .ellipsis:=ae;refine zi0 ?_;simp only [zl9,zmi,zlE,zlR];refine zi0 (zi0 (zkQ ?_));refine zi0 (m:=zjn (.ref i1)) (qy (h1.at λo e=>Y.extBut _ _ D.i1z e) (b9.at λo e=>Y.extBut _ _ D.l1z e) hx λg2 bh a9=>zi4 ?_);have aq:xc g2 TO a b c:=a9.extBut _ _ D.TOi1 (Y.extBut _ _ D.TOz az);refine zi0 (zj3 aq rfl (zi0 (Jw aq λg3 ag aa=>?_)));replace ag:xc g3 TO x b c:=ag;have Z : ∀c o,c≠z->c≠i1->c≠TO->s.heap.get? c=some o->g3.get? c=some o:=λc o O S c3 e=>aa.extBut _ _ c3 (a9.extBut _ _ S (Y.extBut _ _ O e));refine zi0 (zlm (zi4 (zi0 (zi0 (zkQ ?_)))));refine zi0 (m:=zjn (.ref i2)) (qy (h2.at λo e=>Z _ o D.i2z D.i12.symm D.TOi2.symm e) (ba.at λo e=>Z _ o D.l2z D.l2i1 D.l2TO e) hy λg4 bj ah=>zi4 ?_);have ar:xc g4 TO x b c:=ah.extBut _ _ D.TOi2 ag;refine zi0 (zj3 ar rfl (zi0 (Jw ar λg5 aj ak=>?_)));replace aj:xc g5 TO x y c:=aj;have a1 : ∀c o,c≠i2->c≠TO->g3.get? c=some o->g5.get? c=some o:=λc o O S e=>ak.extBut _ _ S (ah.extBut _ _ O e);refine zi0 (zlm (zi4 (zi0 (zi0 (zkQ ?_)))));refine zi0 (m:=zjn (.ref i3)) (qy (h3.at λo e=>a1 _ o D.i23.symm D.TOi3.symm (Z _ o D.i3z D.i13.symm D.TOi3.symm e)) (bb.at λo e=>a1 _ o D.l3i2 D.l3TO (Z _ o D.l3z D.l3i1 D.l3TO e)) hv λg6 bl al=>zi4 ?_);have as:xc g6 TO x y c:=al.extBut _ _ D.TOi3 aj;refine zi0 (zj3 as rfl (zi0 (Jw as λI ab am=>?_)));replace ab:xc I TO x y v:=ab;have ac : ∀c o,c≠i3->c≠TO->g5.get? c=some o->I.get? c=some o:=λc o O S e=>am.extBut _ _ S (al.extBut _ _ O e);refine zi0 (zlm (zi4 (zi4 (zi0 (zj3 ab rfl (zi0 (wpAny_newTuple ?_)))))));have hsz:I.objs.size=s.heap.objs.size:=by rw [am.1,al.1,ak.1,ah.1,aa.1,a9.1,Y.1]
 have au:IsZip I z TI TO .ellipsis:=ac _ _ D.i3z.symm D.TOz.symm (a1 _ _ D.i2z.symm D.TOz.symm (aa.extBut _ _ D.TOz.symm (a9.extBut _ _ D.i1z.symm ae)));have bm : ∀c o,c≠z->c≠TO->c≠i1->c≠i2->c≠i3->s.heap.get? c=some o->I.get? c=some o:=λc o O S c3 c4 c5 e=>ac c o c5 S (a1 c o c4 S (Z c o O c3 S e));have bn:ItAt k1 I i1 l1 (n1+1):=bh.at λo e=>ac _ o D.i13 D.TOi1.symm (a1 _ o D.i12 D.TOi1.symm (aa.extBut _ _ D.TOi1.symm e));have bo:ItAt k2 I i2 l2 (n2+1):=bj.at λo e=>ac _ o D.i23 D.TOi2.symm (ak.extBut _ _ D.TOi2.symm e);have bp:ItAt k3 I i3 l3 (n3+1):=bl.at λo e=>am.extBut _ _ D.TOi3.symm e;have av:z<I.objs.size:=zjq au;refine zi0 (m:=zkv (.ref z) (.ref I.objs.size)) ?_;unfold zkv;have bq:IsZip (I.push {cls:= .type "tuple",data:= .seq #[x,y,v]}) z TI TO .ellipsis:=zi3 _ au;refine zi0 (zkm bq ⋯ λg9 an ao=>?_);replace an:IsZip g9 z TI TO (rawInt I.objs.size):=an;refine zkm an ⋯ λa2 ad ap=>?_;replace ad:IsZip a2 z TI TO (rawInt I.objs.size):=ad;have up : ∀c o,c≠z->I.get? c=some o->a2.get? c=some o:=λc o O e=>ap.extBut _ _ O (ao.extBut _ _ O (zi3 _ e));have aw:xc a2 I.objs.size x y v:=ap.extBut _ _ (zky av) (ao.extBut _ _ (zky av) (zje _ rfl));have ax:a2.objs.size=I.objs.size+1:=by rw [ap.1,ao.1,zjG]
 rw [hsz]at ad aw ax;refine zi4 ⟨_,rfl,?_⟩;show Q (.ref I.objs.size) _;rw [hsz];exact hQ a2 ad (up _ _ D.TOz ab) (bn.at λo e=>up _ o D.i1z e) (bo.at λo e=>up _ o D.i2z e) (bp.at λo e=>up _ o D.i3z e) aw ax λc o O S c3 c4 c5 e=>up c o O (bm c o O S c3 c4 c5 e)
theorem WW{k1 k2 k3:Sk}{z TI TO i1 i2 i3 l1 l2 l3:Addr}{n1 n2 n3:Nat}{xs ys zs:Array Value}{a b c:Value}{Q:Fin->Shared->Prop}(hh:A.handled=none)(D:Zip3A z TI TO i1 i2 i3 l1 l2 l3)
 (hz:IsZip s.heap z TI TO .none) (ap:xc s.heap TI (.ref i1) (.ref i2) (.ref i3)) (aq:xc s.heap TO a b c)
 (h1:ItAt k1 s.heap i1 l1 n1) (h2:ItAt k2 s.heap i2 l2 n2) (h3:ItAt k3 s.heap i3 l3 n3) (ah:SqAt k1 s.heap l1 xs) (ai:SqAt k2 s.heap l2 ys) (as:SqAt k3 s.heap l3 zs) (au:xs[n1]? = none\/ys[n2]? = none\/zs[n3]? = none)
 (hE : ∀h' e,(∀c o,c≠z->c≠TO->c≠i1->c≠i2->c≠i3->s.heap.get? c=some o->h'.get? c=some o)->(∃o,h'.get? e=some o/\o.cls = .type "StopIteration")->E (.ref e) {s with heap:=h'}) :
 wpAny (model prog w) A (Builtin.«zip.__next__» ⟨[.ref z],[]⟩) Q E s:=by
 refine zi0 (m:=field (.ref z) 2) (zj4 hz rfl (x:= .bool false) rfl ?_);refine zi0 (m:=field (.ref z) 3) (zj4 hz rfl (x:= .ref TI) rfl ?_);refine zi0 (zj3 ap rfl ?_);refine zi0 (m:=zjE (.ref z)) ?_;unfold zjE;refine zi0 (zj4 hz rfl (x:= .none) rfl (zi4 ?_));simp only [if_true];refine zi0 (zlz (zi0 (zj4 hz rfl (x:= .ref TO) rfl ?_)));refine zi0 (zkm hz ⋯ λg1 a7 a0=>?_);replace a7:IsZip g1 z TI TO .ellipsis:=a7;refine zi0 ?_;simp only [zl9,zmi,zlE,zlR];refine zi0 (zi0 (zkQ ?_));have ac : ∀{g e:_} {oe:Obj},IsZip g z TI TO .ellipsis->(∀c o,c≠z->c≠TO->c≠i1->c≠i2->c≠i3->s.heap.get? c=some o->g.get? c=some o)->g.get? e=some oe->oe.cls = .type "StopIteration"->
  wpAny (model prog w) A (setField (.ref z) 0 .none) (λ_ s'=>E (.ref e) s') E {s with heap:=g}:=λ{g e oe} aj hk S Y=>by
  have ay:e≠z:=λq=>by subst q;rw [aj]at S;cases S;simp at Y
  exact zkm aj ⋯ λg3 _ a5=>hE g3 e (λc o I O U c4 c5 q=>a5.extBut _ _ I (hk c o I O U c4 c5 q)) ⟨oe,a5.extBut _ _ ay S,Y⟩
 cases hx:xs[n1]? with
 | none=>
  refine zi0 (m:=zjn (.ref i1)) (ym hh (h1.at λo e=>a0.extBut _ _ D.i1z e) (ah.at λo e=>a0.extBut _ _ D.l1z e) hx λg2 e a3 he=>?_);obtain⟨oe,S,Y⟩:=he;exact ac (a3 _ _ D.i1z.symm a7) (λc o I _ U _ _ q=>a3 _ _ U (a0.extBut _ _ I q)) S Y
 | some x=>
  refine zi0 (m:=zjn (.ref i1)) (qy (h1.at λo e=>a0.extBut _ _ D.i1z e) (ah.at λo e=>a0.extBut _ _ D.l1z e) hx λg2 ba a3=>zi4 ?_);have ak:xc g2 TO a b c:=a3.extBut _ _ D.TOi1 (a0.extBut _ _ D.TOz aq);refine zi0 (zj3 ak rfl (zi0 (Jw ak λg3 ad a5=>?_)));replace ad:xc g3 TO x b c:=ad;have Z : ∀c o,c≠z->c≠i1->c≠TO->s.heap.get? c=some o->g3.get? c=some o:=λc o I O U e=>a5.extBut _ _ U (a3.extBut _ _ O (a0.extBut _ _ I e));have al:IsZip g3 z TI TO .ellipsis:=a5.extBut _ _ D.TOz.symm (a3.extBut _ _ D.i1z.symm a7);refine zi0 (zlm (zi4 (zi0 (zi0 (zkQ ?_)))));cases hy:ys[n2]? with
  | none=>
   refine zi0 (m:=zjn (.ref i2)) (ym hh (h2.at λo e=>Z _ o D.i2z D.i12.symm D.TOi2.symm e) (ai.at λo e=>Z _ o D.l2z D.l2i1 D.l2TO e) hy λg4 e a6 he=>?_);obtain⟨oe,S,Y⟩:=he;exact ac (a6 _ _ D.i2z.symm al) (λc o I O U c4 _ q=>a6 _ _ c4 (Z c o I U O q)) S Y
  | some y=>
   have hv:zs[n3]? = none:=by
    rcases au with h | h | h
    ·rw [hx]at h;cases h
    ·rw [hy]at h;cases h
    ·exact h
   refine zi0 (m:=zjn (.ref i2)) (qy (h2.at λo e=>Z _ o D.i2z D.i12.symm D.TOi2.symm e) (ai.at λo e=>Z _ o D.l2z D.l2i1 D.l2TO e) hy λg4 bb a6=>zi4 ?_);have an:xc g4 TO x b c:=a6.extBut _ _ D.TOi2 ad;refine zi0 (zj3 an rfl (zi0 (Jw an λg5 bc b9=>?_)));have a8 : ∀c o,c≠i2->c≠TO->g3.get? c=some o->g5.get? c=some o:=λc o I O e=>b9.extBut _ _ O (a6.extBut _ _ I e);refine zi0 (zlm (zi4 (zi0 (zi0 (zkQ ?_)))));refine zi0 (m:=zjn (.ref i3)) (ym hh (h3.at λo e=>a8 _ o D.i23.symm D.TOi3.symm (Z _ o D.i3z D.i13.symm D.TOi3.symm e)) (as.at λo e=>a8 _ o D.l3i2 D.l3TO (Z _ o D.l3z D.l3i1 D.l3TO e)) hv λg6 e ao he=>?_);obtain⟨oe,S,Y⟩:=he;exact ac (ao _ _ D.i3z.symm (a8 _ _ D.i2z.symm D.TOz.symm al)) (λc o I O U c4 c5 q=>ao _ _ c5 (a8 c o c4 O (Z c o I U O q))) S Y
end
def Kw(a b c:Value):Obj:={cls:= .type "tuple",data:= .seq #[a,b,c]}
def xN(z I O:Sk)(h:Heap)(l1 l2 l3:Addr):Heap:=
 zjo (zjo (zjo (zjo (zjo (zjo h (itO z l1)) (itO I l2)) (itO O l3)) (Kw (.ref h.objs.size) (.ref (h.objs.size+1)) (.ref (h.objs.size+2)))) (Kw .none .none .none)) (zd7 (h.objs.size+3) (h.objs.size+4))
theorem WV(z I O:Sk)(l1 l2 l3:Addr)(xs ys zs:Array Value) :
 Meets (Builtin.«zip.__new__» ⟨[.type "zip",.ref l1,.ref l2,.ref l3],[]⟩) (λ_ R s=>SqAt z s.heap l1 xs/\SqAt I s.heap l2 ys/\SqAt O s.heap l3 zs/\
  R (.ok (.ret (.ref (s.heap.objs.size+5)))) {s with heap:=xN z I O s.heap l1 l2 l3}):=
 .of_wp λprog w A R s h=>by
  obtain⟨S,g,d,tk,os⟩:=s;obtain⟨U,Y,Z,h⟩:=h;have a3:=sub_zip;have a0:SqAt z (zmt ⟨S,g,d,tk,os⟩) l1 xs:=U;have a1:SqAt I (zmt ⟨S.push (itO z l1),g,d,tk,os⟩) l2 ys:=Y.at λo e=>zi3 _ e;have a2:SqAt O (zmt ⟨(S.push (itO z l1)).push (itO I l2),g,d,tk,os⟩) l3 zs:=Z.at λo e=>zi3 _ (zi3 _ e)
  wp_walk using y7 a0,y7 a1,y7 a2
  refine⟨_,rfl,?_⟩;simp only [xN,Kw,zd7,zjG]at h ⊢;exact h
theorem VV(a b c d:Value):argsOk "object.__init__" ⟨[a,b,c,d],[]⟩:=by
 unfold argsOk;have e:=signature?_of (id:="object.__init__") (n:=['_','_','t','i','n','i','_','_']) (o:=['t','c','e','j','b','o']) (by kernel_rfl) F.owner_object;rw [e]
 kernel_rfl
def zia(z I O:Sk)(K:PySem.W.Frag)(a b c:Addr):It:=
 ⟨λi H=>∃xs ys zs,SqK z K H a xs/\SqK I K H b ys/\SqK O K H c zs/\i<xs.length/\i<ys.length/\i<zs.length,
  λi H x H'=>∃p u v t,x = .ref p/\H p=none/\H'=upd H p (.tup [u,v,t])/\(∀xs,SqK z K H a xs->xs[i]? = some u)/\(∀ys,SqK I K H b ys->ys[i]? = some v)/\(∀zs,SqK O K H c zs->zs[i]? = some t),
  λi H=>∃xs ys zs,SqK z K H a xs/\SqK I K H b ys/\SqK O K H c zs/\(xs.length<=i\/ys.length<=i\/zs.length<=i)⟩
theorem YF{P:Program}{w:World}{K:PySem.W.Frag}{elts:List Expr}{x1:Nat}{tpos:Pos}(k1 k2 k3:Sk){z TI TO i1 i2 i3 a b c:Addr}(D:Zip3A z TI TO i1 i2 i3 a b c) :
 Turn P w K (.Tuple elts x1 tpos) (zia k1 k2 k3 K a b c) [z,TI,TO,i1,i2,i3] z (λi h=>IsZip h z TI TO .none/\xc h TI (.ref i1) (.ref i2) (.ref i3)/\(∃c d e,xc h TO c d e)/\ItAt k1 h i1 a i/\ItAt k2 h i2 b i/\ItAt k3 h i3 c i) where
 mem:=by simp
 obj:=λi h ah y hy=>by
  obtain⟨S,Y,⟨c,d,e,Z⟩,h1,h2,h3⟩:=ah;simp only [zjm,zjF,or_false]at hy;rcases hy with rfl | rfl | rfl | rfl | rfl | rfl
  ·exact⟨_,S,λv q=>by cases q⟩
  ·exact⟨_,Y,λv q=>by cases q⟩
  ·exact⟨_,Z,λv q=>by cases q⟩
  ·exact h1.obj
  ·exact h2.obj
  ·exact h3.obj
 keep:=λi h h' ah k=>by
  obtain⟨S,Y,⟨c,d,e,Z⟩,h1,h2,h3⟩:=ah;exact⟨k z ⋯ _ S,k TI ⋯ _ Y,⟨c,d,e,k TO ⋯ _ Z⟩,h1.at λo e=>k i1 ⋯ o e,h2.at λo e=>k i2 ⋯ o e,h3.at λo e=>k i3 ⋯ o e⟩
 item:=by
  rintro X hP hw hK hc i pins s σ H E I hf ⟨S,Y,⟨c,d,e,Z⟩,h1,h2,h3⟩ ⟨xs,ys,zs,ae,af,ag,aw,ax,ay⟩;subst hP hw hK;obtain⟨az,ak,p1,z1⟩:=I.sq ae;obtain⟨b0,am,p2,z2⟩:=I.sq af;obtain⟨b9,an,p3,z3⟩:=I.sq ag;have hx:xs[i]? = some xs[i]:=zi8 aw;have hy:ys[i]? = some ys[i]:=zi8 ax;have hv:zs[i]? = some zs[i]:=zi8 ay;obtain⟨u1,ba,bb⟩:=ak.get hx;obtain⟨u2,bc,bd⟩:=am.get hy;obtain⟨u3,be,bf⟩:=an.get hv;have hT:s.TypeIs (.ref z) "zip":=⟨_,S,rfl⟩;unfold pyNext;refine zi0 (zlb (zjS (name:=zjZ "__next__") hT zkX (zj2 zkX hT zmk
   (Yw D S Y Z h1 h2 h3 p1 p2 p3 (x:=u1) (y:=u2) (v:=u3) (by simpa using ba) (by simpa using bc) (by simpa using be) λg a1 a2 a3 a4 a9 a5 a6 a7=>zi4 ⟨_,rfl,?_⟩) (zmc _))))
  refine wpAny_letOwnedTupleGo_zip a1 λg2 bn a8=>?_;have lt : ∀{c o},s.heap.get? c=some o->s.heap.objs.size≠c:=λe=>zky (zjq e);have bo:xc g2 s.heap.objs.size u1 u2 u3:=a8.extBut _ _ (lt S) a5;have kk : ∀U u,U ∉ [z,TI,TO,i1,i2,i3]->s.heap.get? U=some u->g2.get? U=some u:=λU u O e=>by
   simp only [zjm,zjF,or_false,not_or]at O;exact a8.extBut _ _ O.1 (a7 U u O.1 O.2.2.1 O.2.2.2.1 O.2.2.2.2.1 O.2.2.2.2.2 e)
  have I1:Inv X pins σ (upd H s.heap.objs.size (.tup [xs[i],ys[i],zs[i]])) {s with heap:=g2,toks:=s.toks}:=
   I.turnLaid (fp:=[z,TI,TO,i1,i2,i3]) kk hf (zjb _) ⟨by show 3<=sizeLine;decide,[u1,u2,u3],.cons bb (.cons bd (.cons bf .nil)),⟨_,bo,rfl,_,rfl⟩⟩
  have bq:H s.heap.objs.size=none:=I.fresh;refine⟨.ref s.heap.objs.size,_,I1,rfl,⟨_,_,_,_,rfl,bq,rfl,λbx ac=>by rw [I.sq_inj ac ae];exact hx,λbz ac=>by rw [I.sq_inj ac af];exact hy,λc0 ac=>by rw [I.sq_inj ac ag];exact hv⟩,?_,λU O=>?_⟩
  ·exact⟨bn,a8.extBut _ _ D.TIz (a7 _ _ D.TIz D.TITO D.TIi1 D.TIi2 D.TIi3 Y),⟨_,_,_,a8.extBut _ _ D.TOz a2⟩,a3.at λo e=>a8.extBut _ _ D.i1z e,a4.at λo e=>a8.extBut _ _ D.i2z e,a9.at λo e=>a8.extBut _ _ D.i3z e⟩
  ·have br:U≠s.heap.objs.size:=by
    simp only [zjm,zjF,or_false]at O;rcases O with rfl | rfl | rfl | rfl | rfl | rfl
    ·exact(lt S).symm
    ·exact(lt Y).symm
    ·exact(lt Z).symm
    ·obtain⟨o,e,_⟩:=h1.obj;exact(lt e).symm
    ·obtain⟨o,e,_⟩:=h2.obj;exact(lt e).symm
    ·obtain⟨o,e,_⟩:=h3.obj;exact(lt e).symm
   rw [zJ br];exact(hf U O).1
 done:=by
  rintro X hP hw hK hc i pins s σ H E I hf ⟨S,Y,⟨c,d,e,Z⟩,h1,h2,h3⟩ ⟨xs,ys,zs,ae,af,ag,hi⟩;subst hP hw hK;obtain⟨az,ak,p1,z1⟩:=I.sq ae;obtain⟨b0,am,p2,z2⟩:=I.sq af;obtain⟨b9,an,p3,z3⟩:=I.sq ag;have hT:s.TypeIs (.ref z) "zip":=⟨_,S,rfl⟩;have l1:=ak.length;have l2:=am.length;have l3:=an.length;unfold pyNext;refine zi0 (zlb (zjS (name:=zjZ "__next__") hT zkX (zj2 zkX hT zmk
   (WW (show X.A.handled=none from I.ok.hd hc) D S Y Z h1 h2 h3 p1 p2 p3 (by
     rcases hi with q | q | q
     ·left;simp;omega
     ·right;left;simp;omega
     ·right;right;simp;omega) λg e hk he=>?_) (zmc _))))
  obtain⟨o,ho,bv⟩:=he;refine zi0 (zlH (T:="StopIteration") (b:=true) ⟨o,ho,bv⟩ isSubtype_stop (zi4 ⟨rfl,?_⟩));refine I.turnedL (t':=s.toks) (fp:=[z,TI,TO,i1,i2,i3]) (λU u O e=>?_) hf;simp only [zjm,zjF,or_false,not_or]at O;exact hk U u O.1 O.2.2.1 O.2.2.2.1 O.2.2.2.2.1 O.2.2.2.2.2 e
 self:=λ_ _ _ _ _ st h=>zms st.1 h
theorem zgR{x y z:V}{us:List Value}(r:Vals [x,y,z] us) : ∃u w' t,us=[u,w',t]/\RelV x u/\RelV y w'/\RelV z t:=by
 cases r with
 | cons I r2=>
  cases r2 with
  | cons O S=>
   cases S with
   | cons U Y=>cases Y;exact⟨_,_,_,rfl,I,O,U⟩
def zhv(K:PySem.W.Frag)(ta:TA):TI:=λσ H R=>ta σ H λvs H1=>∃z I O a b c,vs=[.ref a,.ref b,.ref c]/\(∃xs,SqK z K H1 a xs)/\(∃ys,SqK I K H1 b ys)/\(∃zs,SqK O K H1 c zs)/\R (zia z I O K a b c) H1
theorem zdb{X:Cx}{e1 U Y:Expr}{ta:TA}{p pos:Pos}{elts:List Expr}{x1:Nat}{tpos:Pos}(hg:Gl X "zip")(hm:X.mg "zip" = none)(ha:PA X [e1,U,Y] ta)
 (hv:bootBuiltins "zip" = some (.type "zip")) (hs:starEach [e1,U,Y] X.env=[(false,eval e1 X.env),(false,eval U X.env),(false,eval Y X.env)]:=by rfl) (a4:starEach [U,Y] X.env=[(false,eval U X.env),(false,eval Y X.env)]:=by rfl) :
 PI X (.Tuple elts x1 tpos) (.Call (.Name "zip" p) [e1,U,Y] [] pos) (zhv X.K ta):=by
 intro pins s σ H R I h;refine Call_ (kW I hg hm hv (zkd (thn (ha pos pins s σ H _ I h) λus s1 hZ=>?_) (by rw [hs,a4]) (by rw [a4];rfl)));obtain⟨vs,H1,Z,r1,q1⟩:=hZ;obtain⟨z,O,S,a,b,c,e,⟨xs,aj⟩,⟨ys,ak⟩,⟨zs,al⟩,q⟩:=q1;subst e;obtain⟨w1,w2,w3,eu,an,ao,ap⟩:=zgR r1;subst eu;cases an;cases ao;cases ap;obtain⟨aq,ba,p1,z1⟩:=Z.sq aj;obtain⟨ar,bb,p2,z2⟩:=Z.sq ak;obtain⟨as,bc,p3,z3⟩:=Z.sq al;have la:=p1.lt;have lb:=p2.lt;have lc:=p3.lt;refine callType_new F.called_zip ⋯ (ZI _ _ _) (JW _ _ _) (λobj=>VV obj _ _ _) F.entry_zip_new (WV z O S a b c aq.toArray ar.toArray as.toArray) ⟨p1,p2,p3,?_⟩;have ps : ∀(h:Heap) (o:Obj) (c:Addr) (u:Obj),h.get? c=some u->(h.push o).get? c=some u:=λh o c u e=>zi3 _ e;have keep : ∀c' o,s1.heap.get? c'=some o->(xN z O S s1.heap a b c).get? c'=some o:=λc' o e=>ps _ _ _ _ (ps _ _ _ _ (ps _ _ _ _ (ps _ _ _ _ (ps _ _ _ _ (ps _ _ _ _ e)))));have y1:(zjo s1.heap (itO z a)).objs.size=s1.heap.objs.size+1:=zjG ..;have y2:(zjo (zjo s1.heap (itO z a)) (itO O b)).objs.size=s1.heap.objs.size+2:=by rw [zjG,y1]
 have y3:(zjo (zjo (zjo s1.heap (itO z a)) (itO O b)) (itO S c)).objs.size=s1.heap.objs.size+3:=by rw [zjG,y2]
 have y4:(zjo (zjo (zjo (zjo s1.heap (itO z a)) (itO O b)) (itO S c)) (Kw (.ref s1.heap.objs.size) (.ref (s1.heap.objs.size+1)) (.ref (s1.heap.objs.size+2)))).objs.size=s1.heap.objs.size+4:=by rw [zjG,y3]
 have y5:(zjo (zjo (zjo (zjo (zjo s1.heap (itO z a)) (itO O b)) (itO S c)) (Kw (.ref s1.heap.objs.size) (.ref (s1.heap.objs.size+1)) (.ref (s1.heap.objs.size+2)))) (Kw .none .none .none)).objs.size=s1.heap.objs.size+5:=by rw [zjG,y4]
 have g0:ItAt z (xN z O S s1.heap a b c) s1.heap.objs.size a 0:=(y8 z s1.heap a).at λo e=>ps _ _ _ _ (ps _ _ _ _ (ps _ _ _ _ (ps _ _ _ _ (ps _ _ _ _ e))));have g1:ItAt O (xN z O S s1.heap a b c) (s1.heap.objs.size+1) b 0:=by
  have q:=y8 O (zjo s1.heap (itO z a)) b;rw [y1]at q;exact q.at λo e=>ps _ _ _ _ (ps _ _ _ _ (ps _ _ _ _ (ps _ _ _ _ e)))
 have ay:ItAt S (xN z O S s1.heap a b c) (s1.heap.objs.size+2) c 0:=by
  have q:=y8 S (zjo (zjo s1.heap (itO z a)) (itO O b)) c;rw [y2]at q;exact q.at λo e=>ps _ _ _ _ (ps _ _ _ _ (ps _ _ _ _ e))
 have g2:xc (xN z O S s1.heap a b c) (s1.heap.objs.size+3) (.ref s1.heap.objs.size) (.ref (s1.heap.objs.size+1)) (.ref (s1.heap.objs.size+2)):=by
  have q:_=some (Kw (.ref s1.heap.objs.size) (.ref (s1.heap.objs.size+1)) (.ref (s1.heap.objs.size+2))):=zje (zjo (zjo (zjo s1.heap (itO z a)) (itO O b)) (itO S c)) (o:=Kw (.ref s1.heap.objs.size) (.ref (s1.heap.objs.size+1)) (.ref (s1.heap.objs.size+2))) rfl;rw [y3]at q;exact ps _ _ _ _ (ps _ _ _ _ q)
 have g3:xc (xN z O S s1.heap a b c) (s1.heap.objs.size+4) .none .none .none:=by
  have q:_=some (Kw .none .none .none):=zje (zjo (zjo (zjo (zjo s1.heap (itO z a)) (itO O b)) (itO S c)) (Kw (.ref s1.heap.objs.size) (.ref (s1.heap.objs.size+1)) (.ref (s1.heap.objs.size+2)))) (o:=Kw .none .none .none) rfl;rw [y4]at q;exact ps _ _ _ _ q
 have g4:IsZip (xN z O S s1.heap a b c) (s1.heap.objs.size+5) (s1.heap.objs.size+3) (s1.heap.objs.size+4) .none:=by
  have q:=zje (zjo (zjo (zjo (zjo (zjo s1.heap (itO z a)) (itO O b)) (itO S c)) (Kw (.ref s1.heap.objs.size) (.ref (s1.heap.objs.size+1)) (.ref (s1.heap.objs.size+2)))) (Kw .none .none .none)) (o:=zd7 (s1.heap.objs.size+3) (s1.heap.objs.size+4)) rfl;rw [y5]at q;exact q
 refine⟨⟨_,g4,rfl⟩,zms (s:={s1 with heap:=xN z O S s1.heap a b c}) g4 ?_⟩;have I2:Inv X pins σ H1 {s1 with heap:=xN z O S s1.heap a b c,toks:=s1.toks}:=Z.kept keep;have b9 : ∀m:Nat,a≠s1.heap.objs.size+m:=λm=>zjC (zjr la (zjB _ m));have a3 : ∀m:Nat,b≠s1.heap.objs.size+m:=λm=>zjC (zjr lb (zjB _ m));have a1 : ∀m:Nat,c≠s1.heap.objs.size+m:=λm=>zjC (zjr lc (zjB _ m));have ne : ∀m n:Nat,m≠n->(s1.heap.objs.size+m:Nat)≠s1.heap.objs.size+n:=λm n h=>by omega
 have D:Zip3A (s1.heap.objs.size+5) (s1.heap.objs.size+3) (s1.heap.objs.size+4) s1.heap.objs.size (s1.heap.objs.size+1) (s1.heap.objs.size+2) a b c:=
  ⟨ne 3 5 ⋯,ne 4 5 ⋯,ne 0 5 ⋯,ne 1 5 ⋯,ne 2 5 ⋯,ne 3 4 ⋯,ne 3 0 ⋯,ne 3 1 ⋯,ne 3 2 ⋯,ne 4 0 ⋯,ne 4 1 ⋯,ne 4 2 ⋯,ne 0 1 ⋯,ne 0 2 ⋯,ne 1 2 ⋯,
   b9 5,a3 5,a3 4,a3 0,a1 5,a1 4,a1 0,a1 1⟩
 refine⟨_,[s1.heap.objs.size+5,s1.heap.objs.size+3,s1.heap.objs.size+4,s1.heap.objs.size,s1.heap.objs.size+1,s1.heap.objs.size+2],_,_,H1,rfl,I2,YF z O S D,⟨g4,g2,⟨_,_,_,g3⟩,g0,g1,ay⟩,λc' hc=>?_,q⟩;have ac:s1.heap.objs.size<=c':=by
  simp only [zjm,zjF,or_false]at hc;rcases hc with rfl | rfl | rfl | rfl | rfl | rfl
  ·exact zjB _ _
  ·exact zjB _ _
  ·exact zjB _ _
  ·exact zjb _
  ·exact zjB _ _
  ·exact zjB _ _
 exact Z.fpOk ac (Z.hok.fresh ac)
end L2
namespace DL
open PySem L2
def Jt(ds es fs:List D):List D:=(ds.zip (es.zip fs)).map λp=>D.tup [p.1,p.2.1,p.2.2]
def YY(f g h:CO D):CO (List D):=λγ=>((f γ).bind je).bind λm=>((g γ).bind je).bind λn=>((h γ).bind je).map λo=>Jt m.2 n.2 o.2
@[simp] theorem zd2(f g h):YY f g h γ=((f γ).bind je).bind λm=>((g γ).bind je).bind λn=>((h γ).bind je).map λo=>Jt m.2 n.2 o.2:=rfl
open PySem.Spec PyProof.Rows
theorem YC{S U Y:Sk}{K:PySem.W.Frag}{H0 Hs:Hp}{a b c:Addr}{xs ys zs:List V}{ds es fs:List D}(h1:SqK S K Hs a xs)(Z:Reps K H0 ds xs)(h2:SqK U K Hs b ys)(r2:Reps K H0 es ys)(z:SqK Y K Hs c zs)(r3:Reps K H0 fs zs) :
 Walk K H0 Hs (zia S U Y K a b c) (Jt ds es fs):=by
 have l1:=Z.length;have l2:=r2.length;have l3:=r3.length;have hz:(Jt ds es fs).length=min ds.length (min es.length fs.length):=by simp [Jt]
 refine⟨λi H1 s hi=>?_,λH1 s=>?_,λi H1 x H1' s hi y=>?_⟩
 ·exact⟨xs,ys,zs,xt s h1,xt s h2,xt s z,by omega,by omega,by omega⟩
 ·refine⟨xs,ys,zs,xt s h1,xt s h2,xt s z,?_⟩
  rw [hz];omega
 ·obtain⟨p,u,v,t,e1,hp,e2,g1,g2,g3⟩:=y
  obtain⟨d,hd,hr⟩:=Z.getV (g1 xs (xt s h1));obtain⟨I,hc,aa⟩:=r2.getV (g2 ys (xt s h2));obtain⟨f,hf,ac⟩:=r3.getV (g3 zs (xt s z));refine⟨.tup [d,I,f],?_,λG0 s1 s2=>⟨upd G0 p (.tup [u,v,t]),?_,?_⟩⟩
  ·have ad:(ds.zip (es.zip fs))[i]? = some (d,(I,f)):=zla.mpr ⟨hd,zla.mpr ⟨hc,hf⟩⟩
   simp [Jt,ad]
  ·rw [e2];exact Ext.alloc s2 hp _
  ·rw [e1]
   have O:=λ{q:D} {y:V} (r:Rep K H0 q y)=>(r.mono s1).mono (z5 (jA s2 hp) (.tup [u,v,t]));exact(show ∃a' a3,V.ref p = .ref a'/\SqT K _ a' a3/\Reps K _ [d,I,f] a3 from⟨p,[u,v,t],rfl,SqT.of zH,Reps.cons (O hr) (Reps.cons (O aa) (Reps.cons (O ac) Reps.nil))⟩)
section
variable{X:Cx}{sc:Scope}{N L:List Str}{k:Nat}{a b c:Expr}{p pos:Pos}{f g h:CO D}
theorem zc8{elts:List Expr}{x1:Nat}{tpos:Pos}(hS:SX X sc N L k)(cz:yD sc "zip" = true)(z:X.mg "zip" = none)(ha:PV X a f)(hb:PV X b g)(hc:PV X c h)
 (Z:starEach [a,b,c] X.env=[(false,eval a X.env),(false,eval b X.env),(false,eval c X.env)]:=by rfl) (O:starEach [b,c] X.env=[(false,eval b X.env),(false,eval c X.env)]:=by rfl) (a0:starEach [c] X.env=[(false,eval c X.env)]:=by rfl) :
 PIF X (.Tuple elts x1 tpos) (.Call (.Name "zip" p) [a,b,c] [] pos) (YY f g h):=
 JQ (zdb (hS.gl cz).1 z (zS ha (zS hb (zS hc jP a0) (by rw [O,a0])) (by rw [Z,O])) PyProof.Rows.boot_zip Z O) λσ H R hZ=>by
  obtain⟨H0,γ,ds,rc,I,q⟩:=hZ;obtain⟨⟨k1,m⟩,e1,I⟩:=bind_some I;obtain⟨d,e0,e1⟩:=bind_some e1;obtain⟨⟨k2,n⟩,S,I⟩:=bind_some I;obtain⟨c',e2,S⟩:=bind_some S;obtain⟨⟨k3,o⟩,U,I⟩:=zB I;obtain⟨t,e4,U⟩:=bind_some U;subst I;refine⟨H0,γ,d,rc,e0,λv H' H0' x r=>⟨H0',γ,c',rc.ext x,e2,λv2 H2 aj Y r2=>⟨aj,γ,t,(rc.ext x).ext Y,e4,λv3 H3 al x3 r3=>?_⟩⟩⟩;obtain⟨a1,xs,rfl,g1,g2⟩:=vX ((r.mono Y.s0).mono x3.s0) e1;obtain⟨a2,ys,rfl,g3,g4⟩:=vX (r2.mono x3.s0) S;obtain⟨a3,zs,rfl,g5,g6⟩:=vX r3 U;exact⟨k1,k2,k3,a1,a2,a3,rfl,⟨xs,xt x3.sub g1⟩,⟨ys,xt x3.sub g3⟩,⟨zs,xt x3.sub g5⟩,q _ H3 al ((x.trans Y).trans x3) (YC g1 g2 g3 g4 g5 g6)⟩
end
theorem JX:typeLookup (.type "list") "keys" = pure none:=by rw [typeLookup_type,builtinLookup_eq_fast];kernel_rfl
theorem wU:entryFor table "list.__getattribute__" = some Builtin.«object.__getattribute__» :=
 entryFor_alias (id':="object.__getattribute__") (by kernel_rfl) (by first | rfl | decide +kernel) ⋯ (by kernel_rfl)
section
variable{prog:Program}{w:World}{A:Around}{E:Value->Shared->Prop}{h:Heap}{g:Array GenState}{d:Drawn}{t:Nat}{os:OsState}{a:Addr}{o:Obj}
theorem wo{tk:Tok}{Q:Fin->Shared->Prop}{vs:Array Value}{S:Nat}{sl:Array (Option Value)}(hx:h.get? a=some ⟨.type "list",none,.seq vs S,sl⟩)(U:A.handled=none)
 (Y : ∀h' e t',(∀b u,h.get? b=some u->h'.get? b=some u)->(∃I,h'.get? e=some I/\I.cls = .type "AttributeError")->E (.ref e) ⟨h',g,d,t',os⟩) :
 wpAny (model prog w) A (Builtin.«object.__getattribute__» ⟨[.ref a,.str "keys" tk],[]⟩) Q E ⟨h,g,d,t,os⟩:=by
 have Z:(⟨h,g,d,t,os⟩:Shared).TypeIs (.ref a) "list":=⟨_,hx,rfl⟩;have f4:=JX
 repeat (any_goals (first | assumption | wp_step))
 unfold raiseAttrError;have hm:((zjZ (toString "'" ++ toString ((Manifest.find? "list").elim "list" λx=>x.tpName)++toString "' object has no attribute '")++zjZ "keys" ++ zjZ "'"):Str).length<=sizeLine:=by decide +kernel
 generalize (zjZ (toString "'" ++ toString ((Manifest.find? "list").elim "list" λx=>x.tpName)++toString "' object has no attribute '")++zjZ "keys" ++ zjZ "'")=z at hm ⊢;refine zi0 (wpAny_mkStr (hx:=hm) ?_);refine zi0 ?_;unfold newExc newTuple;refine zi0 (zj1 ?_ (by size_fits));refine zi0 (m:=firstArgMember _ _) (zmQ (a:=zkz) (by first | rfl | (simp only [firstArgMember];rfl)) ?_);refine zj1 ?_ (by size_fits);simp only [zjG];have he:((h.push {cls:= .type "tuple",data:= .seq #[.str z t]}).push {cls:= .type "AttributeError",data:= .fields (#[.ref h.objs.size,.none,.none,.none,.bool false,.none]++ownMembersOf (.type "AttributeError") [.str z t])}).get? (h.objs.size+1) =
  some {cls:= .type "AttributeError",data:= .fields (#[.ref h.objs.size,.none,.none,.none,.bool false,.none]++ownMembersOf (.type "AttributeError") [.str z t])}:=by heap_get
 have O : ∀b u,h.get? b=some u->((h.push {cls:= .type "tuple",data:= .seq #[.str z t]}).push {cls:= .type "AttributeError",data:= .fields (#[.ref h.objs.size,.none,.none,.none,.bool false,.none]++ownMembersOf (.type "AttributeError") [.str z t])}).get? b=some u:=λb u e=>zi3 _ (zi3 _ e);have hn:h.get? (h.objs.size+1)=none:=Heap.get?_none_of_le (Nat.le_succ _);generalize ((h.push {cls:= .type "tuple",data:= .seq #[.str z t]}).push {cls:= .type "AttributeError",data:= .fields (#[.ref h.objs.size,.none,.none,.none,.bool false,.none]++ownMembersOf (.type "AttributeError") [.str z t])})=h2 at he O ⊢;refine zi0 (wpAny_mkText ?_);unfold noteAttr lacksNameAndObj;have a1:(⟨h2,g,d,t+1+1,os⟩:Shared).TypeIs (.ref (h.objs.size+1)) "AttributeError":=⟨_,he,rfl⟩;have ft:isSubtype (.type "AttributeError") (.type "AttributeError")=pure true:=by rw [isSubtype_type];kernel_rfl
 repeat (any_goals (first | assumption | with_reducible refine wpAny_loadPart_at he ?_ | with_reducible refine wpAny_load he ?_ | wp_step))
 refine wpAny_raiseNew_none U (Y _ _ _ (λb u e=>?_) ⟨_,zlx _ he (zmo (zln rfl _)),zmS ..⟩);rw [Heap.get?_update_other _ _ (λq=>by rw [<- q]at e;rw [hn]at e;cases e)];exact O b u e
theorem wQ{tk:Tok}{R:Result->Shared->Prop}{vs:Array Value}{I:Nat}{sl:Array (Option Value)}(hx:h.get? a=some ⟨.type "list",none,.seq vs I,sl⟩)(O:A.handled=none)
 (S : ∀h' e t',(∀b u,h.get? b=some u->h'.get? b=some u)->(∃z,h'.get? e=some z/\z.cls = .type "AttributeError")->R (.error (.ref e)) ⟨h',g,d,t',os⟩) :
 codeAny (model prog w) A (.call (.builtin "list.__getattribute__") ⟨[.ref a,.str "keys" tk],[]⟩) R ⟨h,g,d,t,os⟩:=
 zmI zll.plain wU (zll.check _ _ _ _ _ _ _ _ (show(⟨h,g,d,t,os⟩:Shared).TypeIs (.ref a) "list" from⟨_,hx,rfl⟩) (F.args_list_getattribute_2 _ _) (wo hx O S))
theorem K7:typeLookup (.type "list") "__getattr__" = pure none:=by rw [typeLookup_type,builtinLookup_eq_fast];kernel_rfl
theorem VB{Q:Option Value->Shared->Prop}{vs:Array Value}{z:Nat}{sl:Array (Option Value)}(hx:h.get? a=some ⟨.type "list",none,.seq vs z,sl⟩)(I:A.handled=none)
 (O : ∀h' t',(∀b u,h.get? b=some u->h'.get? b=some u)->Q none ⟨h',g,d,t',os⟩):wpAny (model prog w) A (getAttr? (.ref a) "keys") Q E ⟨h,g,d,t,os⟩:=by
 have Z:(⟨h,g,d,t+1,os⟩:Shared).TypeIs (.ref a) "list":=⟨_,hx,rfl⟩;have f2:=zll.lookup;have f3:=zll.bind (.ref a);have f5:=K7;have ft:isSubtype (.type "AttributeError") (.type "AttributeError")=pure true:=by rw [isSubtype_type];kernel_rfl
 unfold getAttr? getAttrBy? getAttrBy
 repeat (any_goals (first | assumption | wp_step))
 refine wQ (g:=g) (d:=d) (os:=os) hx I λh' e t' S he=>?_;obtain⟨U,he,Y⟩:=he;have a4:(⟨h',g,d,t',os⟩:Shared).TypeIs (.ref e) "AttributeError":=⟨U,he,Y⟩;have a5:=O h' t' S;show wpAny _ _ (getattributeRaised _ _ _ _ _ _ _) _ _ _;unfold getattributeRaised hookOrError attributeErrorLeaves
 repeat (any_goals (first | assumption | wp_step))
end
def xO:List D->Option (List D×List D)
 | []=>some ([],[])
 | d::r=>match d with
  | .tup ds=>match ds with
   | [k,v]=>(xO r).map λp=>(k::p.1,v::p.2)
   | _=>none
  | _=>none
def Y2(f:CO (List D)):CO D:=λγ=>(f γ).bind λps=>(xO ps).bind λp=>zbe p.1 p.2
@[simp] theorem zgO{γ:Ctx}(f):Y2 f γ=(f γ).bind λps=>(xO ps).bind λp=>zbe p.1 p.2:=rfl
def zgm(fd fk:CO D):CO D:=λγ=>(fd γ).bind λd=>(fk γ).bind λk=>match d with
 | .dic ks vs=>(asI k).bind λi=>zef ks vs i
 | _=>none
def zeL(fk fd:CO D):CO D:=λγ=>(fk γ).bind λk=>(fd γ).bind λd=>match d with
 | .dic ks vs=>(asI k).map λi=> .bl (zef ks vs i).isSome
 | _=>none
def Yt:D->Option (List Int)
 | .tup ds=>yO ds
 | _=>none
def Ya:List D->Option (List (List Int))
 | []=>some []
 | d::ds=>(Yt d).bind λk=>(Ya ds).map λr=>k::r
def Zc(f:CO (List D)):CO D:=λγ=>(f γ).bind λps=>(xO ps).bind λp=>(Ya p.1).bind λks=>if ks.Nodup/\ks.length<=lim then some (.dct ks p.2)else none
def Q0:List (List Int)->List D->List Int->Option D
 | k::ks,v::vs,i=>if k=i then some v else Q0 ks vs i
 | _,_,_=>none
def qY(fd fk:CO D):CO D:=λγ=>(fd γ).bind λd=>(fk γ).bind λk=>match d with
 | .dct ks vs=>(Yt k).bind λi=>Q0 ks vs i
 | _=>none
def za7(d k x:D):Option D:=match d with
 | .dct ks vs=>(Yt k).map λi=>(Q0 ks vs i).getD x
 | _=>none
def JH(fd fk fx:CO D):CO D:=λγ=>(fd γ).bind λd=>(fk γ).bind λk=>(fx γ).bind λx=>za7 d k x
def wP(f:CO D):CO (List D):=λγ=>(f γ).bind λd=>match d with
 | .dct ks _=>some (ks.map λk=> .tup (k.map .int))
 | _=>none
section
variable(γ:Ctx)
@[simp] theorem zgN(f):Zc f γ=(f γ).bind λps=>(xO ps).bind λp=>(Ya p.1).bind λks=>if ks.Nodup/\ks.length<=lim then some (.dct ks p.2)else none:=rfl
@[simp] theorem zh3(fd fk):qY fd fk γ=(fd γ).bind λd=>(fk γ).bind λk=>match d with
 | .dct ks vs=>(Yt k).bind λi=>Q0 ks vs i
 | _=>none:=rfl
@[simp] theorem zh1(fd fk fx):JH fd fk fx γ=(fd γ).bind λd=>(fk γ).bind λk=>(fx γ).bind λx=>za7 d k x:=rfl
@[simp] theorem zhZ(f):wP f γ=(f γ).bind λd=>match d with
 | .dct ks _=>some (ks.map λk=> .tup (k.map .int))
 | _=>none:=rfl
end
theorem Zm{P:Program}{w:World} : ∀{k:List Int} {us:List Value},Vals (k.map V.int) us->PySem.ItemsAre (intKind P w) k us
 | [],us,h=>by cases h;exact .nil
 | i::k,us,h=>by
  cases h with
  | cons h1 h2=>
   obtain⟨t,rfl⟩:=h1;exact .cons (by show Value.isInt i (.int i t)=true;simp [Value.isInt]) (Zm h2)
section
variable{X:Cx}{pins:List (Addr×Obj)}{σ:St}{H:Hp}{s:Shared}
theorem xV{b:Addr}{k:List Int}(I:Inv X pins σ H s)(h:SqT X.K H b (k.map V.int)):(tupleKind (intKind X.prog X.w)).is s.heap k b:=by
 obtain⟨z,O,⟨o,S,U,n,hd⟩,_⟩:=I.tuple h;exact⟨o,z.toArray,n,S,U,hd,Zm O⟩
theorem yU{a:Addr}{o:Obj}{xs:List (List Int×Addr×Value)}(I:Inv X pins σ H s)(e:H a=some (atO a o))(d:DObj o xs)(z : ∀x∈xs,SqT X.K H x.2.1 (x.1.map V.int)):s.heap.DictOfH (tupleKind (intKind X.prog X.w)) a xs:=by
 obtain⟨O,_⟩:=(show ObjOk X.prog X.w H s.heap a (atO a o)from I.hok a _ e);obtain⟨S,es,ep,U,Y,Z⟩:=d;exact⟨o,es,ep,O,S,U,Y,λx hx=>xV I (z x hx),Z⟩
theorem zb8{h:Heap}{P:Program}{w:World}{a:Addr}{xs:List (List Int×Addr×Value)}(d:h.DictOfH (tupleKind (intKind P w)) a xs) : ∃o,h.get? a=some o/\DObj o xs:=by
 obtain⟨o,es,ep,h1,h2,z,I,_,O⟩:=d;exact⟨o,h1,h2,es,ep,z,I,O⟩
end
theorem Km{P:Program}{w:World}{H:Hp}{h:Heap}{a:Addr}{o:Obj}(e:h.get? a=some o):ObjOk P w H h a (atO a o):=⟨e,⟨o,e⟩,λh1 h2 p q=>q o p⟩
theorem Jh{K:Type} [DecidableEq K]{k:K} : ∀{xs:List (K×Addr×Value)},k∉xs.map (·.1)->atKey xs k=none
 | xs,h=>by
  unfold atKey;rw [Option.map_eq_none_iff,zlN];intro x hx z;exact h (zjx.mpr ⟨x,hx,by simpa using z⟩)
section
variable{X:Cx}{pins:List (Addr×Obj)}{σ:St}{A:Around}{R:Result->Shared->Prop}{H0:Hp}{l it d:Addr}{ks:List (List Int)}{ys xs:List V}
theorem Yj(hh:A.handled=none)(hu:A.units+8<cLine)(hx:xs.length=ks.length)(hy:ys.length=ks.length)(nd:ks.Nodup)(hz:ks.length<=sizeLine)
 (hp : ∀(n:Nat) (h1:n<xs.length) (h2:n<ks.length) (h3:n<ys.length),∃p b,xs[n] = .ref p/\SqT X.K H0 p [.ref b,ys[n]]/\SqT X.K H0 b (ks[n].map V.int)) (ap:H0 d=none) (aq:l≠d) : ∀(m n:Nat) (s:Shared) (H:Hp) (o:Obj) (es:List (List Int×Addr×Value)) (i:Int) (t:Tok),n+m=ks.length->
 Inv X pins σ H s->Same H0 H->H l=some (.lst xs)->s.heap.IsListIter it l n->FpOk X pins H it->H d=some (atO d o)->DObj o es->es.map (·.1)=ks.take n->(∀x∈es,SqT X.K H0 x.2.1 (x.1.map V.int))->Vals (ys.take n) (es.map (·.2.2))->
 (∀s' o' Y,DObj o' Y->Y.map (·.1)=ks->(∀x∈Y,SqT X.K H0 x.2.1 (x.1.map V.int))->Vals ys (Y.map (·.2.2))->Inv X pins σ (upd H d (atO d o')) s'->R (.ok (.ret .none)) s')->
 codeAny (model X.prog X.w) A (.builtin "dict.update.loop" ⟨[.ref d,.ref it,.int i t,.none],[]⟩) R s:=by
 intro m
 induction m with
 | zero=>
  intro n s H o es i t hn I sub Z st S hd od U a0 a5 hR;obtain⟨z1,a8,c,rv,ll,el⟩:=I.lstM Z;refine codeAny_builtin xZ ?_;unfold Builtin.«dict.update.loop»;have il:s.heap.IsList l a8.toArray:=⟨_,el,rfl,_,rfl⟩;refine zi0 (wpAny_pyNext_list_end (s:=s) hh st il (by simp;omega) λh' eb=>?_);refine zi0 (zi4 ?_);have e0:upd H d (atO d o)=H:=by
   funext c;by_cases q:c=d
   ·rw [q,zH,hd]
   ·rw [zJ q]
  have I':Inv X pins σ H {s with heap:=h'}:=I.turnedL (t':=s.toks) (fp:=[it]) (λb o O e=>eb b o (by simpa using O) e) (λb O=>by rw [zlh.mp O];exact S);have:=hR {s with heap:=h'} o es od (by rw [U,zkt ⋯]) a0 (by rw [zkt ⋯]at a5;exact a5);rw [e0]at this;exact zi4 (this I')
 | succ m ih=>
  intro n s H o es i t hn I sub Z st S hd od U a0 a5 hR;obtain⟨z1,a8,c,rv,ll,el⟩:=I.lstM Z;have il:s.heap.IsList l a8.toArray:=⟨_,el,rfl,_,rfl⟩;have ab:n<ks.length:=by omega
  obtain⟨p,b,ep,ax,af⟩:=hp n ⋯ ab ⋯;obtain⟨u,ay,ru⟩:=rv.get (zi8 (show n<xs.length by omega));rw [ep]at ru;have eu:u = .ref p:=ru;subst eu;refine codeAny_builtin xZ ?_;unfold Builtin.«dict.update.loop»;refine zi0 (wpAny_pyNext_list_item (s:=s) st il (x:= .ref p) (by simpa using ay) λh' b0 sb=>?_);have I1:=I.turnedL (h':=h') (t':=s.toks) (fp:=[it]) (λb o O e=>(sb.2 b (by simpa using O)).trans e) (λb O=>by rw [zlh.mp O];exact S);obtain⟨ts,rt,⟨o1,eo,co,nn,bb⟩,zt⟩:=I1.tuple (sameT sub ax);obtain⟨u1,r3,rfl,bc,q2⟩ : ∃u1 r3,ts=u1::r3/\RelV (.ref b) u1/\Vals [ys[n]] r3:=by
   cases rt with
   | cons q1 q2=>exact⟨_,_,rfl,q1,q2⟩
  obtain⟨u2,rfl,be⟩:=vg q2;have bf:u1 = .ref b:=bc;subst bf;have bg:({s with heap:=h'}:Shared).TypeIs (.ref p) "tuple":=⟨_,eo,co⟩;refine zi0 (zkJ (zi0 (wpAny_tryCatch ?_)));unfold Builtin.Dict.pairItems;refine zi0 (zl6 bg ?_);rw [if_pos ⋯];refine zi0 (zj3 eo bb (zi4 ?_));show wpAny _ _ (holding [.ref b,u2] (dictSet d (.ref b) u2)) _ _ _;have dH:=yU I1 hd od λx hx=>sameT sub (a0 x hx);have bi:=xV I1 (sameT sub af);have c3:es.length=n:=by
   have:=congrArg zmv U;rw [zjh,zld]at this;omega
  have bj:ks[n]∉es.map (·.1):=by
   rw [U];intro z;obtain⟨j,hj,e⟩:=zmw z;rw [List.getElem_take]at e;rw [zld]at hj;exact zkP.mp nd j n ⋯ ab ⋯ e
  refine zkJ (wpAny_dictSet_heap (hsz:=by omega) (show(A.under _).units<cLine from by rw [show(A.under (Code.builtin "dict.update.loop" _)).units=A.units+1 from rfl];omega) bi dH λbm ai hs=>?_);rw [storedH_new (Jh bj)]at ai;obtain⟨o',ak,bn⟩:=zb8 ai;have I2:=I1.write (x:=d) (e:=d) (o:=atO d o') (t':=s.toks+(tupleKind (intKind X.prog X.w)).draws ks[n]) (h':=bm) (by rw [hd];exact zkS) (.inl rfl) (λb q O z=>(hs.2 b O).trans z) ⟨_,ak⟩ (Km ak);have al:it≠d:=λq=>by have:=S.1;rw [q,hd]at this;cases this
  have tk:ks.take (n+1)=ks.take n++[ks[n]]:=by rw [List.take_succ,zi8 ab];rfl
  have ty:ys.take (n+1)=ys.take n++[ys[n]]:=by rw [List.take_succ,zi8 ⋯];rfl
  refine zi4 ⟨xR _,ih (n+1) _ _ o' _ (i+1) 0 ⋯ I2 (λc o e=>?_) (by rw [zJ aq];exact Z) (b0.at λo q=>(hs.2 it al).trans q) ⟨by rw [zJ al];exact S.1,S.2⟩ zH bn ?_ ?_ ?_ λs' o3 bq a1 a2 a3 a4 I3=>hR s' o3 bq a1 a2 a3 a4 ?_⟩
  ·rw [zJ (λq=>by rw [q,ap]at e;cases e)];exact sub _ _ e
  ·rw [zjT,U,tk];rfl
  ·intro x hx
   rcases zkH.mp hx with z | z
   ·exact a0 x z
   ·rw [zlh.mp z];exact af
  ·rw [zjT,ty]
   exact a5.append (.cons be .nil)
  ·rw [vK]at I3;exact I3
theorem Yl{Q:Value->Shared->Prop}{H:Hp}{s:Shared}(I:Inv X pins σ H s)(Y:X.A.handled=none)(hu:X.A.units+64<cLine)(sub:Same H0 H)(z:H l=some (.lst xs))(hx:xs.length=ks.length)(hy:ys.length=ks.length)(nd:ks.Nodup)
 (hp : ∀(n:Nat) (h1:n<xs.length) (h2:n<ks.length) (h3:n<ys.length),∃p b,xs[n] = .ref p/\SqT X.K H0 p [.ref b,ys[n]]/\SqT X.K H0 b (ks[n].map V.int)) (hz:ks.length<=sizeLine)
 (hQ : ∀s' p o es,H p=none->(p==sysModules)=false->DObj o es->es.map (·.1)=ks->(∀x∈es,SqT X.K H0 x.2.1 (x.1.map V.int))->Vals ys (es.map (·.2.2))->Inv X pins σ (upd H p (atO p o)) s'->Q (.ref p) s'):wpAny (model X.prog X.w) X.A (call (.type "dict") [.ref l]) Q X.xe s:=by
 have O:H s.heap.objs.size=none:=I.fresh;have ac:H0 s.heap.objs.size=none:=jA sub O;have Z:l≠s.heap.objs.size:=λq=>by rw [q,O]at z;cases z
 have ad:(s.heap.objs.size==sysModules)=false:=beq_eq_false_iff_ne.mpr (zky I.big);refine callType_codes (Q₁:=λobj s₁=>obj = .ref s.heap.objs.size/\s₁ = {s with heap:=s.heap.push {cls:= .type "dict",data:= .dict #[]}}) F.kt_called_dict (F.kt_typeCall_dict_1 _) F.entry_dict_init (kt_code_dict_new _ ⟨rfl,rfl⟩) ?_;rintro obj s₁ ⟨rfl,rfl⟩;have I1:=I.laid (a:=s.heap.objs.size) (o:=atO s.heap.objs.size {cls:= .type "dict",data:= .dict #[]}) (t':=s.toks) (λ_ _ q=>zi3 {cls:= .type "dict",data:= .dict #[]} q) (zjb _) (Km (zje _ rfl));have a5:({s with heap:=s.heap.push {cls:= .type "dict",data:= .dict #[]}}:Shared).TypeIs (.ref s.heap.objs.size) "dict":=⟨_,zje _ rfl,rfl⟩;obtain⟨z1,a6,c,rv,ll,el⟩:=I.lstM z;have S:(s.heap.push {cls:= .type "dict",data:= .dict #[]}).get? l=some {cls:= .type "list",data:= .seq a6.toArray c}:=zi3 _ el;refine⟨a5,F.args_dict_init_2 _ _,?_⟩;unfold Builtin.«dict.__init__»;refine zi0 ?_;unfold Builtin.Dict.selfAndRest;refine zi0 (zk8 a5 ?_);show wpAny _ _ (pure (s.heap.objs.size,[zjy l])) _ _ _;refine zi4 ?_;show wpAny _ _ (Builtin.Dict.updateFrom "dict.__init__" s.heap.objs.size (.ref l) [] .none) _ _ _;unfold Builtin.Dict.updateFrom;refine zi0 (zl6 (T:="list") ⟨_,S,rfl⟩ ?_);rw [if_pos ⋯];refine zi0 (VB (g:=s.gens) (d:=s.drawn) (t:=s.toks) (os:=s.os) S (show X.A.in1.in1.handled=none from Y) λh' t' k=>?_);have U:Inv X pins σ (upd H s.heap.objs.size (atO s.heap.objs.size {cls:= .type "dict",data:= .dict #[]})) {s with heap:=h',toks:=t'}:=I1.kept k;have ag:=k _ _ S;simp only [Option.isNone_none,if_true];refine zi0 (zlz (zi0 (zm2 (items:=a6.toArray) ⟨_,ag,rfl,_,rfl⟩ ?_)));refine zi4 ⟨xR _,?_⟩;have I3:=U.kept (h':=h'.push {cls:= .type "list_iterator",data:= .fields #[.ref l,.int 0 0]}) (t':=t') λb o e=>zi3 _ e;have fp:=U.fpOk (b:=h'.objs.size) (H':=upd H s.heap.objs.size (atO s.heap.objs.size {cls:= .type "dict",data:= .dict #[]})) (zjb _) U.fresh;refine Yj (H0:=H0) (l:=l) (it:=h'.objs.size) (ks:=ks) (ys:=ys) (xs:=xs) (show X.A.in1.handled=none from Y) (by show X.A.in1.units+8<cLine;rw [units_in1];omega) hx hy nd hz hp ac Z ks.length 0 _ (upd H s.heap.objs.size (atO s.heap.objs.size {cls:= .type "dict",data:= .dict #[]})) {cls:= .type "dict",data:= .dict #[]} [] 0 0 (zki _) I3 (sub.trans (z5 O _)) (by rw [zJ Z];exact z) ⟨_,zje _ rfl,rfl,rfl⟩ fp zH ⟨⟨rfl,rfl,rfl⟩,#[],0,rfl,rfl,List.nodup_nil⟩ rfl (λx hx=>nomatch hx) .nil λs' o' ai a1 a2 a3 a4 I4=>?_;rw [vK]at I4;exact⟨rfl,hQ s' _ o' ai O ad a1 a2 a3 a4 I4⟩
end
theorem kB{K:PySem.W.Frag}{H:Hp}{d:D}{k:List Int}{v:V}(e:Yt d=some k)(r:Rep K H d v) : ∃b,v = .ref b/\SqT K H b (k.map V.int):=by
 cases d with
 | tup ds=>
  obtain⟨b,zs,rfl,z,I⟩:=k4 r;have:=Zp e I;refine⟨b,rfl,?_⟩;rw [this]at z;simpa [kV,zjW,zlK]using z
 | _=>cases e
theorem wZ{K:PySem.W.Frag}{H:Hp} : ∀{ps ks vs:List D} {xs:List V} {ns:List (List Int)},xO ps=some (ks,vs)->Reps K H ps xs->Ya ks=some ns->
 ∃ys,Reps K H vs ys/\ys.length=ns.length/\xs.length=ns.length/\∀(n:Nat) (h1:n<xs.length) (h2:n<ns.length) (z:n<ys.length),∃p b,xs[n] = .ref p/\SqT K H p [.ref b,ys[n]]/\SqT K H b (ns[n].map V.int)
 | [],ks,vs,xs,ns,h,r,hi=>by
  cases h;cases hi;rw [r.inv_nil];exact⟨[],Reps.nil,rfl,rfl,λn h1=>by cases h1⟩
 | d::ps,ks,vs,xs,ns,h,r,hi=>by
  unfold xO at h;split at h
  ·split at h
   ·rename_i k v
    obtain⟨⟨a,b⟩,e1,I⟩:=zB h;cases I;obtain⟨x,xr,rfl,h1,h2⟩:=r.inv_cons;obtain⟨j,O,S⟩:=bind_some hi;obtain⟨nr,U,Y⟩:=zB S;subst Y;obtain⟨ys,i1,i2,i3,Z⟩:=wZ e1 h2 U;obtain⟨q,zs,rfl,z,h4⟩:=k4 h1;obtain⟨y1,yr,rfl,h5,h6⟩:=h4.inv_cons;obtain⟨y2,ae,rfl,h7,h8⟩:=h6.inv_cons;obtain⟨kb,rfl,a7⟩:=kB O h5;rw [h8.inv_nil]at z;refine⟨y2::ys,Reps.cons h7 i1,by simp [i2],by simp [i3],λn g1 g2 g3=>?_⟩;cases n with
    | zero=>exact⟨q,kb,rfl,z,a7⟩
    | succ n=>exact Z n (by simpa using g1) (by simpa using g2) (by simpa using g3)
   ·cases h
  ·cases h
section
variable{X:Cx}{sc:Scope}{N L:List Str}{k:Nat}{a o i:Expr}{f:CO (List D)}{fd fk:CO D}{p pos:Pos}
theorem XH(h:SX X sc N L k)(cd:yD sc "dict" = true)(zd:X.mg "dict" = none)(ha:PO X a f)(hs:starEach [a] X.env=[(false,eval a X.env)]:=by rfl) :
 PV X (.Call (.Name "dict" p) [a] [] pos) (Zc f):=by
 intro pins s σ H Q I U;obtain⟨H0,γ,d,rc,O,q⟩:=U;obtain⟨ps,e1,O⟩:=bind_some O;obtain⟨⟨ds,es⟩,e2,O⟩:=bind_some O;obtain⟨ks,e3,O⟩:=bind_some O;have hh:X.A.handled=none:=I.ok.hd h.calm;by_cases Y:ks.Nodup/\ks.length<=lim
 ·rw [if_pos Y]at O
  cases O;refine Call_ (kW I (h.gl cd).1 zd PyProof.Rows.boot_dict (zkd ?_ (by rw [hs];rfl) rfl));rw [hs];show wpAny _ _ (spliced ((false,eval a X.env)::[])) _ _ s;refine zk2 (thn (ha pins s σ H (λv H1=>∃l xs z,v = .ref l/\Ext H0 H z H1/\z l=none/\H1 l=some (.lst xs)/\Reps X.K z ps xs) I ⟨H0,γ,ps,rc,e1,λl xs H1 z x1 g1 g2 Z g4=>⟨l,xs,z,rfl,x1,g2,Z,g4⟩⟩) λv s1 U=>?_);obtain⟨y,H1,I1,ry,l,xs,z,rfl,x1,g2,Z,g4⟩:=U;cases ry;refine zl2 ?_;obtain⟨ys,r1,r2,r3,r4⟩:=wZ e2 g4 e3;have:lim<=sizeLine:=by decide
  refine Yl (H0:=z) (ks:=ks) (ys:=ys) (xs:=xs) I1 hh h.u64 x1.sub Z r3 r2 Y.1 r4 ⋯ λs' p ob zs S ai a1 a2 a3 a4 I3=>?_;have a7:Same z (upd z p (atO p ob)):=z5 (jA x1.sub S) _;exact⟨.ref p,_,I3,rfl,q (.ref p) _ _ ((x1.trans (Ext.hide x1.sub S _)).show (wb x1.s1 S) (jA x1.sub S) zH rc.sub)
   (show ∃a xs,V.ref p = .ref a/\DRt X.K (upd z p _) a ks xs/\Reps X.K (upd z p _) es xs from⟨p,ys,rfl,⟨ai,ob,zs,zH,a1,a2,by have:=congrArg zmv a2;rw [zjh]at this;omega,λx hx=>sameT a7 (a3 x hx),a4⟩,r1.mono a7⟩)⟩
 ·rw [if_neg Y]at O;cases O
end
theorem Z6{K:PySem.W.Frag}{H:Hp}{i:List Int} : ∀{xs:List (List Int×Addr×Value)} {vs:List D} {ys:List V},Reps K H vs ys->Vals ys (xs.map (·.2.2))->
 (∀d,Q0 (xs.map (·.1)) vs i=some d->∃y p,atKey xs i=some p/\Rep K H d y/\RelV y p.2)/\(Q0 (xs.map (·.1)) vs i=none->atKey xs i=none)
 | [],vs,ys,r,v=>⟨(λd q=>by cases q),λ_=>rfl⟩
 | x::xs,vs,ys,r,v=>by
  cases v with
  | cons I O=>
   cases vs with
   | nil=>have:=r.inv_nil;cases this
   | cons d vs=>
    obtain⟨y,U,e,h1,h2⟩:=r.inv_cons;cases e;have S:=Z6 (i:=i) h2 O;by_cases hx:x.1=i
    ·have e1:atKey (x::xs) i=some x.2:=by unfold atKey;rw [zme (by simpa using hx)];rfl
     have z:Q0 ((x::xs).map (·.1)) (d::vs) i=some d:=by show(if x.1=i then _ else _)=_;rw [if_pos hx]
     rw [e1,z];exact⟨λd' q=>by cases q;exact⟨_,x.2,rfl,h1,I⟩,λq=>by cases q⟩
    ·have e1:atKey (x::xs) i=atKey xs i:=by unfold atKey;rw [zmf (by simpa using hx)]
     have z:Q0 ((x::xs).map (·.1)) (d::vs) i=Q0 (xs.map (·.1)) vs i:=by show(if x.1=i then _ else _)=_;rw [if_neg hx]
     rw [e1,z];exact S
section
variable{X:Cx}{sc:Scope}{N L:List Str}{k:Nat}{a b o i:Expr}{fd fk fx:CO D}{p pos apos cpos:Pos}
theorem vZ(h:SX X sc N L k)(ho:PV X o fd)(hi:PV X i fk)(hs:zh8 i:=by intro _ _;rfl):PV X (.Subscript o i pos) (qY fd fk):=by
 intro pins s σ H Q I U;obtain⟨H0,γ,d,rc,O,q⟩:=U;obtain⟨d1,e1,O⟩:=bind_some O;obtain⟨k1,e2,O⟩:=bind_some O;cases d1 with
 | dct ks vs=>
  obtain⟨j,e3,e4⟩:=bind_some O;refine YO PySem.F.slot_dict_getitem.lookup hs (thn (ho pins s σ H (λv H1=>∃z,Ext H0 H z H1/\Rep X.K z (.dct ks vs) v) I ⟨H0,γ,_,rc,e1,λv H1 z x r=>⟨z,x,r⟩⟩) λu s1 U=>?_);obtain⟨v,H1,I1,r1,z,x1,rp⟩:=U;refine thn (hi pins s1 σ H1 (λv H2=>∃S,Ext z H1 S H2/\Rep X.K S k1 v) I1 ⟨z,γ,_,rc.ext x1,e2,λv H2 S x r=>⟨S,x,r⟩⟩) λu2 s2 U=>?_;obtain⟨v2,H2,Z,r2,S,Y,ac⟩:=U;obtain⟨ad,ys,rfl,⟨g0,ob,zs,g1,g2,g3,g4,g5,g6⟩,g7⟩:=(show ∃a xs,v = .ref a/\DRt X.K z a ks xs/\Reps X.K z vs xs from rp);subst g3;cases (show u=zjy ad from r1);obtain⟨b,rfl,hb⟩:=kB e3 ac;cases (show u2=zjy b from r2);have a0:Same z H2:=Y.s0.trans Y.sub;have dH:=yU Z (a0 _ _ g1) g2 λx hx=>sameT a0 (g5 x hx);obtain⟨y,p,c1,c2,c3⟩:=(Z6 (g7.mono Y.s0) g6).1 d e4;exact⟨dH.typeIs,wpAny_getItem_heap (zl7 (by have:=h.u64;omega)) (xV Z (sameT Y.sub hb)) dH c1 ⟨y,H2,Z.tok _,c3,q y H2 S (x1.trans Y) c2⟩⟩
 | _=>cases O
theorem QF(h:SX X sc N L k)(ho:PV X o fd)(ha:PV X a fk)(hb:PV X b fx)(m:M2 X o "get" apos a b cpos:=by exact⟨by rfl,by rfl,by rfl,by rfl⟩):PV X (.Call (.Attribute o "get" apos) [a,b] [] cpos) (JH fd fk fx):=by
 intro pins s σ H Q I U;obtain⟨H0,γ,d,rc,O,q⟩:=U;obtain⟨d1,e1,O⟩:=bind_some O;obtain⟨k1,e2,O⟩:=bind_some O;obtain⟨w1,e5,O⟩:=bind_some O;cases d1 with
 | dct ks vs=>
  obtain⟨j,e3,e4⟩:=zB O;subst e4;refine wpAny_Call_method m.base m.few m.line PySem.F.plainAttrs_dict PySem.F.slot_dict_get PySem.F.type_dict_get (thn (ho pins s σ H (λv H1=>∃z,Ext H0 H z H1/\Rep X.K z (.dct ks vs) v) I ⟨H0,γ,_,rc,e1,λv H1 z x r=>⟨z,x,r⟩⟩) λu s1 U=>?_);obtain⟨v,H1,I1,r1,z,x1,rp⟩:=U;obtain⟨ad,ys,rfl,⟨g0,ob,zs,g1,g2,g3,g4,g5,g6⟩,g7⟩:=(show ∃a xs,v = .ref a/\DRt X.K z a ks xs/\Reps X.K z vs xs from rp);subst g3;cases (show u=zjy ad from r1);have a5:=yU I1 (x1.sub _ _ g1) g2 λx hx=>sameT x1.sub (g5 x hx);refine⟨a5.typeIs,dictOfH_noDict a5,?_⟩;rw [m.trees];refine Calls.callWith_builtin rfl (Calls.evalArgs_plain (zk2 (thn (ha pins s1 σ H1 (λv H2=>∃Y,Ext z H1 Y H2/\Rep X.K Y k1 v) I1 ⟨z,γ,_,rc.ext x1,e2,λv H2 Y x r=>⟨Y,x,r⟩⟩) λu2 s2 U=>?_)));obtain⟨v2,H2,I2,r2,Y,x2,ap⟩:=U;refine zk2 (thn (hb pins s2 σ H2 (λv S=>∃Z,Ext Y H2 Z S/\Rep X.K Z w1 v) I2 ⟨Y,γ,_,(rc.ext x1).ext x2,e5,λv S Z x r=>⟨Z,x,r⟩⟩) λu3 s3 U=>zl2 ?_);obtain⟨v3,S,I3,r3,Z,x3,ar⟩:=U;obtain⟨kb,rfl,as⟩:=kB e3 ap;cases (show u2=zjy kb from r2);have xx:=x2.trans x3;have a9:Same z S:=xx.s0.trans xx.sub;have dH:=yU I3 (a9 _ _ g1) g2 λx hx=>sameT a9 (g5 x hx);refine call_meetsIn PySem.F.slot_dict_get dH.typeIs PySem.F.entry_dict_get (PySem.F.args_dict_get_3 _ _ _) (meetsH_dict_get_default (tupleKind (intKind X.prog X.w)) ad kb g0 u3) ⟨zl7 (by have:=h.u64;omega),j,zs,xV I3 (sameT (x3.s0.trans x3.sub) as),dH,?_⟩;obtain⟨c1,c2⟩:=Z6 (i:=j) (g7.mono xx.s0) g6;cases hv:Q0 (zs.map (·.1)) vs j with
  | none=>
   rw [hv]at q;rw [c2 hv];exact⟨v3,S,I3.tok _,r3,q v3 S Z (x1.trans xx) ar⟩
  | some dv=>
   rw [hv]at q;obtain⟨y,p,f1,f2,f3⟩:=c1 dv hv;rw [f1];exact⟨y,S,I3.tok _,f3,q y S Z (x1.trans xx) f2⟩
 | _=>cases O
end
section
variable{prog:Program}{w:World}{A:Around}{E:Value->Shared->Prop}{s:Shared}{d it:Addr}{o:Obj}{es:Array DictEntry}{i n ep:Nat}
theorem VQ{Q:Value->Shared->Prop}(hd:(d==sysModules)=false)(z:s.heap.get? d=some o)(hx:o.ExactDict)(O:o.data = .dict es ep)(hn:es.size=n)
 (S:Q (.ref s.heap.objs.size) {s with heap:=s.heap.push {cls:= .type "dict_keyiterator",data:= .fields #[.ref d,.int 0 0,.int n 0,.int ep 0]}}):wpAny (model prog w) A (pyIter (.ref d)) Q E s:=by
 have I:s.TypeIs (.ref d) "dict":=⟨o,z,hx.1⟩;refine wpAny_pyIter_slot I F.slot_dict_iter (zj2 F.slot_dict_iter I F.entry_dict_iter ?_ (F.args_dict_iter_1 _));unfold Builtin.«dict.__iter__»;refine zi0 ?_;unfold Builtin.Dict.dictSlotNone;refine zi0 (zk8 I ?_);show wpAny _ _ (pure (zjy d)) _ _ s;refine zi4 ?_;show wpAny _ _ (zlT d >>= _) _ _ s;unfold zlT;rw [if_neg (by rw [hd];exact zjj)];refine zi0 (zi4 ?_);refine zi0 (zkM z O ?_);refine zi0 (zlV z O ?_);refine zi0 (zj1 (zi4 ⟨_,rfl,"dict_keyiterator",_,⟨_,zje _ rfl,rfl⟩,zkG.lookup,?_⟩));simpa [rawInt,hn]using S
theorem zaJ{Q:Option Value->Shared->Prop}(z:s.heap.IsKeyIter it d i n ep)(O:s.heap.get? d=some o)(S:o.data = .dict es ep)(hsz:es.size=n)(Y:i<es.size)
 (Z : ∀h',h'.IsKeyIter it d (i+1) n ep->zkE it s.heap h'->Q (some es[i].key) {s with heap:=h'}):wpAny (model prog w) A (pyNext (.ref it)) Q E s:=by
 obtain⟨o,I,hc,hd⟩:=id z;unfold pyNext;refine zi0 (zlb (zjS (name:=zjZ "__next__") z.typeIs zkG
  (zj2 zkG z.typeIs zm3 ?_ (zm1 _))))
 refine zi0 (zi4 ?_);refine zi0 ?_;refine zi0 ?_;refine zi0 (zk4 z.typeIs (zi4 ?_));refine zi0 (wpAny_fieldsOf I hd ?_);have a1:zmd "dict_keyiterator" = false:=by decide
 simp only [a1,zkB,if_false];show wpAny _ _ (if (zjy d==zkz)=true then _ else _) _ _ s;rw [if_neg (show ¬((zjy d==zkz)=true)from zjj)];refine zi0 (zi4 ?_);refine zi0 (zkM O S ?_);rw [if_neg (by rw [hsz];simp)];refine zi0 (zi4 ?_);refine zi0 (zlV O S ?_);rw [if_neg ⋯];refine zi4 ?_;simp only [show ¬((i:Int)<0)from by omega,if_false,zjM,Array.getElem?_eq_getElem Y];refine zi0 ?_;refine zi0 (zk4 z.typeIs (zi4 ?_));refine zi0 (wpAny_isOneOf_keyiter z.typeIs ?_);show wpAny _ _ (setField (.ref it) 1 (rawInt ((i:Int)+1)) >>= _) _ _ s;refine zi0 (zmM I hd ⋯ ?_);have U:(s.heap.update it (Obj.mapFields (·.setIfInBounds 1 (rawInt ((i:Int)+1))))).IsKeyIter it d (i+1) n ep:=
  ⟨_,zlx _ I (zmo (zln hd _)),(zmS ..).trans hc,by rw [zln hd];simp [rawInt]⟩
 refine zi0 (zkJ ?_);refine zi0 (wpAny_isOneOf_keyiter (s:={s with heap:=s.heap.update it (Obj.mapFields (·.setIfInBounds 1 (rawInt ((i:Int)+1))))}) U.typeIs ?_);show wpAny _ _ (pure es[i].key) _ _ _;exact zi4 (zi4 ⟨_,rfl,zi4 (Z _ U (zk6 ..))⟩)
theorem JU{Q:Option Value->Shared->Prop}(U:A.handled=none)(z:s.heap.IsKeyIter it d i n ep)(I:s.heap.get? d=some o)(O:o.data = .dict es ep)(hsz:es.size=n)(Y:es.size<=i)
 (Z : ∀h',Heap.ExtBut it s.heap h'->Q none {s with heap:=h'}):wpAny (model prog w) A (pyNext (.ref it)) Q E s:=by
 obtain⟨o,S,hc,hd⟩:=id z;unfold pyNext;refine zi0 (zlb (zjS (name:=zjZ "__next__") z.typeIs zkG
  (zj2 zkG z.typeIs zm3 ?_ (zm1 _))))
 refine zi0 (zi4 ?_);refine zi0 ?_;refine zi0 ?_;refine zi0 (zk4 z.typeIs (zi4 ?_));refine zi0 (wpAny_fieldsOf S hd ?_);have a0:zmd "dict_keyiterator" = false:=by decide
 simp only [a0,zkB,if_false];show wpAny _ _ (if (zjy d==zkz)=true then _ else _) _ _ s;rw [if_neg (show ¬((zjy d==zkz)=true)from zjj)];refine zi0 (zi4 ?_);refine zi0 (zkM I O ?_);rw [if_neg (by rw [hsz];simp)];refine zi0 (zi4 ?_);refine zi0 (zlV I O ?_);rw [if_neg ⋯];refine zi4 ?_;simp only [show ¬((i:Int)<0)from by omega,if_false,zjM,Array.getElem?_eq_none Y];refine zi0 ?_;refine zi0 (zk4 z.typeIs (zi4 ?_));show wpAny _ _ (setField (.ref it) 0 .none >>= _) _ _ s;refine zi0 (zmM S hd ⋯ ?_);show wpAny _ _ (newExc (.type "StopIteration") [] >>= _) _ _ _;refine zi0 ?_;simp only [newExc,newTuple];refine zi0 (zj1 ?_ (by size_fits));refine zi0 (m:=firstArgMember _ _) (zmQ (a:=zkz) (by first | rfl | (simp only [firstArgMember];rfl)) ?_);refine zj1 ?_ (by size_fits);simp only [raiseNew];refine zi0 (wpAny_handled ?_);rw [show A.in1.handled=none from U];refine zi0 (zi4 (wpAny_throw ?_));refine zi0 (zlH (T:="StopIteration") (b:=true) ⟨_,zje _ rfl,rfl⟩ isSubtype_stop ?_);exact zi4 (Z _ (((zk6 ..).extBut.push _).push _))
end
def Itd(a:Addr)(o:Obj)(xs:List (List Int×Addr×Value)):It:=⟨λi H=>H a=some (atO a o)/\i<xs.length,λi H x H'=>H'=H/\∃e,xs[i]? = some e/\x = .ref e.2.1,λi H=>H a=some (atO a o)/\xs.length<=i⟩
theorem YH{P:Program}{w:World}{K:PySem.W.Frag}{tg:Expr}{a:Addr}{o:Obj}{xs:List (List Int×Addr×Value)}{es:Array DictEntry}{ep:Nat}(hd:o.data = .dict es ep)(he:es.toList=xs.map (λx=>⟨YK x.1,.ref x.2.1,x.2.2⟩))(it:Addr) :
 Turn P w K tg (Itd a o xs) [it] it (λi h=>h.IsKeyIter it a i xs.length ep) where
 mem:=by simp
 obj:=λi h st b z=>by
  have e:b=it:=by simpa using z
  subst e;obtain⟨o,e,c,d⟩:=st;exact⟨o,e,λv q=>by rw [d]at q;cases q⟩
 keep:=λi h h' st k=>by obtain⟨o,e,r⟩:=st;exact⟨o,k it ⋯ o e,r⟩
 item:=by
  rintro X rfl rfl rfl hc i pins s σ H E I O st S;obtain⟨U,Y,f2,Z,f4,f5⟩:=O it ⋯;obtain⟨ha,hi⟩:=S;obtain⟨ho,_⟩:=(show ObjOk X.prog X.w H s.heap a (atO a o)from I.hok a _ ha);have hsz:es.size=xs.length:=by rw [<- zkg,he,zjh]
  have a4:i<es.size:=by omega
  have ek:es[i].key = .ref (xs[i]).2.1:=by
   have:es[i]? = some ⟨YK xs[i].1,.ref xs[i].2.1,xs[i].2.2⟩:=by rw [<- zmg,he,zjR,zi8 hi];rfl
   rw [Array.getElem?_eq_getElem a4]at this;rw [zj7 this]
  refine zaJ st ho hd hsz a4 λh' a5 sb=>⟨_,rfl,?_⟩;rw [ek];have I1:Inv X pins σ H {s with heap:=h'}:=I.turned (t':=s.toks) (λb o z e=>(sb.2 b z).trans e) U Y Z f4 f5;obtain⟨oi,e,c,d⟩:=id a5;exact za5 (s:={s with heap:=h'}) e c d ⋯ ⟨.ref xs[i].2.1,H,I1,rfl,⟨rfl,xs[i],zi8 hi,rfl⟩,a5,λb z=>(O b z).1⟩
 done:=by
  rintro X rfl rfl rfl hc i pins s σ H E I O st S;obtain⟨U,Y,f2,Z,f4,f5⟩:=O it ⋯;obtain⟨ha,hi⟩:=S;obtain⟨ho,_⟩:=(show ObjOk X.prog X.w H s.heap a (atO a o)from I.hok a _ ha);have hsz:es.size=xs.length:=by rw [<- zkg,he,zjh]
  exact JU (I.ok.hd hc) st ho hd hsz ⋯ λh' eb=>⟨rfl,I.turned (t':=s.toks) (λb o z e=>eb b o z e) U Y Z f4 f5⟩
 self:=λA i s Q E st h=>wpAny_pyIter_keyiter st h
theorem yn{K:PySem.W.Frag}{H:Hp} : ∀zs:List Int,Reps K H (zs.map D.int) (zs.map V.int)
 | []=>Reps.nil
 | z::zs=>Reps.cons (show V.int z = .int z from rfl) (yn zs)
theorem YD{K:PySem.W.Frag}{H0 Hs:Hp}{a:Addr}{o:Obj}{xs:List (List Int×Addr×Value)}(h:Hs a=some (atO a o))(I : ∀x∈xs,SqT K H0 x.2.1 (x.1.map V.int)):Walk K H0 Hs (Itd a o xs) ((xs.map (·.1)).map λk=> .tup (k.map .int)):=by
 have z:((xs.map (·.1)).map λk=>D.tup (k.map .int)).length=xs.length:=by simp
 refine⟨λi H1 s hi=>?_,λH1 s=>?_,λi H1 x H1' s hi y=>?_⟩
 ·rw [z]at hi;exact⟨s _ _ h,hi⟩
 ·rw [z];exact⟨s _ _ h,zjb _⟩
 ·obtain⟨rfl,e,he,rfl⟩:=y
  refine⟨.tup (e.1.map .int),by simp [he],λG0 s1 s2=>⟨G0,Ext.refl s2,?_⟩⟩;exact qC (sameT s1 (I e (zkD he))) (yn _)
section
variable{X:Cx}{tg a:Expr}{f:CO D}
theorem XN(ha:PV X a f):PIF X tg a (wP f):=by
 intro pins s σ H R I U;obtain⟨H0,γ,ds,rc,O,q⟩:=U;obtain⟨d,e0,O⟩:=bind_some O;cases d with
 | dct ks vs=>
  cases O;refine thn (ha pins s σ H (λv H1=>∃z,Ext H0 H z H1/\Rep X.K z (.dct ks vs) v) I ⟨H0,γ,_,rc,e0,λv H1 z x r=>⟨z,x,r⟩⟩) λu s1 U=>?_;obtain⟨v,H1,S,r1,z,x1,rp⟩:=U;obtain⟨ad,ys,rfl,⟨g0,ob,zs,Y,⟨g2,es,ep,Z,g9,_⟩,g3,g4,g5,g6⟩,g7⟩:=(show ∃a xs,v = .ref a/\DRt X.K z a ks xs/\Reps X.K z vs xs from rp);subst g3;cases (show u=zjy ad from r1);obtain⟨ho,_⟩:=(show ObjOk X.prog X.w H1 s1.heap ad (atO ad ob)from S.hok ad _ (x1.sub _ _ Y));refine VQ g0 ho g2 Z (by rw [<- zkg,g9,zjh]) ?_;refine⟨s1.heap.objs.size,[s1.heap.objs.size],_,_,H1,rfl,S.kept (t':=s1.toks) λb o e=>zi3 _ e,YH Z g9 _,⟨_,zje _ rfl,rfl,rfl⟩,λb hb=>?_,q _ H1 z x1 (YD Y g5)⟩;have e:b=s1.heap.objs.size:=by simpa using hb
  subst e;exact S.fpOk (zjb _) (S.hok.fresh (zjb _))
 | _=>cases O
end
def V2:List (List Int)->List Int->List Int->Option Int
 | k::ks,n::ns,i=>if k=i then some n else V2 ks ns i
 | _,_,_=>none
def eqT(ks:List (List Int))(ns:List Int)(z:List (List Int))(I:List Int):Bool:=decide (ks.length=z.length) && (ks.zip ns).all λx=>decide (V2 z I x.1=some x.2)
def zeg(d e:D):Option Bool:=match d with
 | .dct ks vs=>match e with
  | .dct z I=>(yO vs).bind λns=>(yO I).map λO=>eqT ks ns z O
  | _=>none
 | _=>none
@[simp] def ziZ(d e:D):Option D:=(zeg d e).map D.bl
@[simp] def zgE(d e:D):Option D:=(zeg d e).map λb=>D.bl (!b)
def IntV:List (List Int×Addr×Value)->List Int->Prop
 | [],[]=>True
 | x::xs,n::ns=>(∃t,x.2.2 = .int n t)/\IntV xs ns
 | _,_=>False
theorem QX{K:PySem.W.Frag}{H:Hp} : ∀{xs:List (List Int×Addr×Value)} {vs:List D} {ys:List V} {ns:List Int},yO vs=some ns->Reps K H vs ys->Vals ys (xs.map (·.2.2))->IntV xs ns
 | [],vs,ys,ns,e,r,v=>by
  cases v;cases vs with
  | nil=>cases e;trivial
  | cons d vs=>obtain⟨_,_,q,_⟩:=r.inv_cons;cases q
 | x::xs,vs,ys,ns,e,r,v=>by
  cases v with
  | cons z I=>
   cases vs with
   | nil=>have:=r.inv_nil;cases this
   | cons d vs=>
    obtain⟨y,U,q,h1,h2⟩:=r.inv_cons;cases q;cases d with
    | int j=>
     obtain⟨Y,O,S⟩:=zB e;subst S;rw [jz h1]at z;exact⟨z,QX O h2 I⟩
    | _=>cases e
theorem IntV.length : ∀{xs:List (List Int×Addr×Value)} {ns:List Int},IntV xs ns->ns.length=xs.length
 | [],[],_=>rfl
 | x::xs,n::ns,h=>by simp [h.2.length]
theorem IntV.at : ∀{xs:List (List Int×Addr×Value)} {ns:List Int} (h:IntV xs ns) {i:Nat} {x:List Int×Addr×Value},xs[i]? = some x->∃n t,ns[i]? = some n/\x.2.2 = .int n t
 | x::xs,n::ns,h,0,y,e=>by cases e;obtain⟨t,q⟩:=h.1;exact⟨n,t,rfl,q⟩
 | x::xs,n::ns,h,i+1,y,e=>h.2.at (i:=i) (by simpa using e)
theorem IntV.get : ∀{xs:List (List Int×Addr×Value)} {ns:List Int},IntV xs ns->(xs.map (·.1)).Nodup->∀{k:List Int},(∀(j:Nat) (p:Addr×Value),xs[j]? = some (k,p)->∃n t,V2 (xs.map (·.1)) ns k=some n/\p.2 = .int n t)/\((∀(j:Nat) (p:Addr×Value),xs[j]? ≠ some (k,p))->V2 (xs.map (·.1)) ns k=none)
 | [],[],_,_,k=>⟨λj p e=>by simp at e,λ_=>rfl⟩
 | x::xs,n::ns,h,nd,k=>by
  have z:=zkp.mp nd;obtain⟨i1,i2⟩:=h.2.get z.2 (k:=k);have O:V2 ((x::xs).map (·.1)) (n::ns) k=if x.1=k then some n else V2 (xs.map (·.1)) ns k:=rfl;rw [O];by_cases hx:x.1=k
  ·rw [if_pos hx]
   refine⟨λj p e=>?_,λq=>absurd (show(x::xs)[0]? = some (k,x.2)by rw [<- hx];rfl) (q 0 x.2)⟩;cases j with
   | zero=>
    have:x=(k,p):=by simpa using e
    obtain⟨t,I⟩:=h.1;exact⟨n,t,rfl,by rw [this]at I;exact I⟩
   | succ j=>
    exfalso;have S:xs[j]? = some (k,p):=by simpa using e
    exact z.1 (zjx.mpr ⟨(k,p),zkD S,hx.symm⟩)
  ·rw [if_neg hx]
   refine⟨λj p e=>?_,λq=>i2 λj p e=>q (j+1) p (by simpa using e)⟩;cases j with
   | zero=>
    have:x=(k,p):=by simpa using e
    exact absurd (by rw [this]) hx
   | succ j=>exact i1 j p (by simpa using e)
section
variable{prog:Program}{w:World}{A:Around}{E:Value->Shared->Prop}{s:Shared}{a b:Addr}{oa ob:Obj}{xs ys:List (List Int×Addr×Value)}{ns ms:List Int}
theorem KI{id:String}{Q:Bool->Shared->Prop}(hu:A.units<cLine)(sa:(a==sysModules)=false)(sb:(b==sysModules)=false)(ha:s.heap.get? a=some oa)(Z:s.heap.get? b=some ob)(da:DObj oa xs)(db:DObj ob ys)
 (ka : ∀x∈xs,(tupleKind (intKind prog w)).is s.heap x.1 x.2.1) (kb : ∀x∈ys,(tupleKind (intKind prog w)).is s.heap x.1 x.2.1) (va:IntV xs ns) (vb:IntV ys ms) (O:Q (eqT (xs.map (·.1)) ns (ys.map (·.1)) ms) s) :
 wpAny (model prog w) A (zlL id a b) Q E s:=by
 obtain⟨a1,es,ep,S,a3,a4⟩:=da;obtain⟨b1,fs,fp,b2,b3,b4⟩:=db;have a6:es.size=xs.length:=by rw [<- zkg,a3,zjh]
 have a7:fs.size=ys.length:=by rw [<- zkg,b3,zjh]
 unfold zlL zlT;rw [if_neg (by rw [sa];exact zjj),if_neg (by rw [sb];exact zjj)];refine zi0 (zi4 ?_);refine zi0 (zi4 ?_);refine zi0 (zkM ha S ?_);refine zi0 (zkM Z b2 ?_);by_cases U:xs.length=ys.length
 ·rw [if_neg (by rw [a6,a7,U];simp)]
  refine zi0 (zlV ha S ?_);refine zi0 ?_;rw [Std.Legacy.Range.forIn_eq_forIn_range'];simp only [Std.Legacy.Range.size,Nat.sub_zero,Nat.add_sub_cancel,Nat.div_one];let ok:List Int×Int->Bool:=λx=>decide (V2 (ys.map (·.1)) ms x.1=some x.2);have aw:((xs.map (·.1)).zip ns).length=xs.length:=by have:=va.length;simp;omega
  have a8:eqT (xs.map (·.1)) ns (ys.map (·.1)) ms=((xs.map (·.1)).zip ns).all ok:=by
   unfold eqT;rw [decide_eq_true (by simpa using U),zmG]
  refine wpAny_forIn_list _ (λrest r s'=>s'=s/\r=(none,())/\∃i,rest=zkn i (es.size - i)/\i<=es.size/\(((xs.map (·.1)).zip ns).take i).all ok=true) _ ?_ ?_ _ _ ⟨rfl,rfl,0,by simp,zkK _,rfl⟩
  ·rintro x rest r s' ⟨rfl,rfl,i,I,hi,hok⟩
   have ak:i<es.size:=by
    rcases zjl i es.size with h | h
    ·exact h
    ·rw [Nat.sub_eq_zero_of_le h]at I;simp at I
   obtain⟨rfl,al⟩:x=i/\rest=zkn (i+1) (es.size - (i+1)):=by
    have e:es.size - i=(es.size - (i+1))+1:=by omega
    rw [e,zkj]at I;injection I with h1 h2;exact⟨h1,h2⟩
   have Y:x<xs.length:=by omega
   have am:es[x]? = some ⟨YK xs[x].1,.ref xs[x].2.1,xs[x].2.2⟩:=by rw [<- zmg,a3,zjR,zi8 Y];rfl
   obtain⟨n,t,hn,hv⟩:=va.at (zi8 Y);have hz:((xs.map (·.1)).zip ns)[x]? = some (xs[x].1,n):=zla.mpr ⟨by rw [zjR,zi8 Y];rfl,hn⟩;have ao:((xs.map (·.1)).zip ns).take (x+1)=((xs.map (·.1)).zip ns).take x++[(xs[x].1,n)]:=by rw [List.take_succ,hz];rfl
   have ap:(xs[x].1,n)∈(xs.map (·.1)).zip ns:=zkD hz;refine zi0 (zkM ha S ?_);rw [am];refine zi0 (zkJ ?_);obtain⟨g1,g2⟩:=vb.get b4 (k:=xs[x].1);have aa:ok (xs[x].1,n)=false->Q false s':=λz=>by
    have:((xs.map (·.1)).zip ns).all ok=false:=List.all_eq_false.mpr ⟨_,ap,by rw [z];decide⟩;rw [<- this,<- a8];exact O
   refine zi0 (wpAny_dictFind_heap (knd:=tupleKind (intKind prog w)) hu (ka _ (zkN Y)) Z b2 b3 kb b4 (λar=>?_) λj p hj=>?_)
   ·refine zi4 ?_
    show wpAny _ _ (pure (ForInStep.done (some false,()))) _ _ _;refine zi4 (zi4 (aa ?_));show decide (V2 (ys.map (·.1)) ms xs[x].1=some n)=false;rw [g2 ar];rfl
   ·obtain⟨n',t',h1,h2⟩:=g1 j p hj
    have as:fs[j]? = some ⟨YK xs[x].1,.ref p.1,p.2⟩:=by rw [<- zmg,b3,zjR,hj];rfl
    refine zi0 (zkM Z b2 ?_);rw [as];refine zkJ ?_;dsimp only;rw [hv,h2];refine wpAny_eqBool_int ?_;have eo:ok (xs[x].1,n)=(n==n'):=by
     show decide (V2 (ys.map (·.1)) ms xs[x].1=some n)=_;rw [h1];by_cases q:n=n'
     ·subst q;simp
     ·simp [q,zj6 q]
    by_cases q:(n==n')=true
    ·rw [q]
     refine zi0 (zlV ha S ?_);rw [if_neg ⋯];refine zi4 ⟨rfl,rfl,x+1,al,ak,?_⟩;rw [ao,List.all_append,hok];simp [eo,q]
    ·rw [zmP.mpr q]
     show wpAny _ _ (pure (ForInStep.done (some false,()))) _ _ _;exact zi4 (zi4 (aa (by rw [eo];exact zmP.mpr q)))
  ·rintro r s' ⟨rfl,rfl,i,I,hi,hok⟩
   have ax:i=es.size:=by
    rcases zjl i es.size with h | h
    ·have e:es.size - i=(es.size - (i+1))+1:=by omega
     rw [e,zkj]at I;exact nomatch I
    ·exact Nat.le_antisymm hi h
   refine zi4 ?_;rw [zkt ⋯]at hok;rw [a8,hok]at O;exact O
 ·rw [if_pos (by rw [a6,a7];simpa using U)]
  have:eqT (xs.map (·.1)) ns (ys.map (·.1)) ms=false:=by
   unfold eqT;rw [decide_eq_false (by simpa using U),Bool.false_and]
  rw [this]at O;exact zi0 (zlz (zi4 O))
end
def zif(K:PySem.W.Frag):R2:=λx y H Q=>∃H0 dx z b,Same H0 H/\Rep K H0 dx x/\Rep K H0 z y/\zeg dx z=some b/\Q (.bl (!b)) H
theorem zbd{X:Cx}{pins:List (Addr×Obj)}{σ:St}{H0 H:Hp}{s:Shared}{dx z:D}{x y:V}{v u:Value}{b:Bool}(I:Inv X pins σ H s)(sub:Same H0 H)(U:Rep X.K H0 dx x)(r2:Rep X.K H0 z y)(Y:RelV x v)(Z:RelV y u)(e:zeg dx z=some b) :
 ∃a c,v = .ref a/\u = .ref c/\s.TypeIs (.ref a) "dict"/\s.TypeIs (.ref c) "dict"/\∀{A:Around} {E:Value->Shared->Prop} {Q:Bool->Shared->Prop} {id:String},A.units<cLine->Q b s->wpAny (model X.prog X.w) A (zlL id a c) Q E s:=by
 cases dx with
 | dct ks vs=>
  cases z with
  | dct a0 a1=>
   obtain⟨ns,e1,e2⟩:=bind_some e;obtain⟨ms,e3,e4⟩:=zB e2;subst e4;obtain⟨a,ys,rfl,⟨g0,oa,zs,g1,g2,g3,g4,g5,g6⟩,g7⟩:=(show ∃a xs,x = .ref a/\DRt X.K H0 a ks xs/\Reps X.K H0 vs xs from U);obtain⟨c,ai,rfl,⟨f0,oc,aj,f1,O,f3,f4,f5,f6⟩,f7⟩:=(show ∃a xs,y = .ref a/\DRt X.K H0 a a0 xs/\Reps X.K H0 a1 xs from r2);subst g3 f3;have ha:=(show ObjOk X.prog X.w H s.heap a (atO a oa)from I.hok a _ (sub _ _ g1)).1;have S:=(show ObjOk X.prog X.w H s.heap c (atO c oc)from I.hok c _ (sub _ _ f1)).1;exact⟨a,c,Y,Z,⟨oa,ha,g2.1.1⟩,⟨oc,S,O.1.1⟩,λhu hQ=>KI hu g0 f0 ha S g2 O (λx hx=>xV I (sameT sub (g5 x hx))) (λx hx=>xV I (sameT sub (f5 x hx))) (QX e1 g7 g6) (QX e3 f7 f6) hQ⟩
  | _=>cases e
 | _=>cases e
theorem zfo{X:Cx}(hu:X.A.units+64<cLine):OpR X (compareOp .NotEq) (zif X.K):=by
 intro pins s σ H x y v u Q I U Y h;obtain⟨H0,dx,dy,b,sub,Z,r2,e,q⟩:=h;obtain⟨a,c,rfl,rfl,O,S,go⟩:=zbd I sub Z r2 U Y e;show wpAny _ _ (richCompare .NotEq (.ref a) (.ref c)) _ _ s;refine wpAny_richCompare_same_room O S F.slot_dict_ne (zj2 F.slot_dict_ne O F.entry_dict_ne ?_ (F.args_dict_ne_2 _ _)) ⋯;refine zi0 (zi0 (zk8 O (zi0 (zi4 (zi4 ?_)))));refine zi0 (zlH S isSubtype_dict_dict ?_);simp only [Bool.not_true,zkB,if_false];refine zi0 (zi4 (zi0 (zi4 (zi0 (go (by rw [units_in1];omega) ?_)))));exact zi4 ⟨_,rfl,(λz=>by cases z),.bl (!b),H,I,by cases b<;>rfl,q⟩
theorem zcG{K:PySem.W.Frag}:Snd K (zif K) zgE:=λH0 H x y dx z d Q s I O S q=>by
 obtain⟨b,e1,U⟩:=zB S;subst U;exact⟨H0,dx,z,b,s,I,O,e1,q _ H H0 (Ext.refl s) rfl⟩
section
variable{X:Cx}{sc:Scope}{N T:List Str}{k:Nat}{a b:Expr}{pos:Pos}{fa fb:CO D}
theorem zc3(h:SX X sc N T k)(ha:PV X a fa)(z:PV X b fb):PTD X (.Compare a [.NotEq] [b] pos) (sB (zv zgE fa fb)):=yJ (zfo h.u64) zcG ha z (yZ b)
end
def isNestB:Cell->Bool
 | .nest _=>true
 | _=>false
def zey(i:Nat):Tg->Bool
 | .nm j=>decide (j≠i)
 | .tp z=>decide (i∉z)
theorem ZX{γ:Ctx}(h:γ.any isNestB=false) : ∀(i:Nat) rows,γ[i]? ≠ some (.nest rows):=λi rows e=>by
 have:=zlr.mp h _ (zkD e);exact this rfl
theorem ZM{γ:Ctx}(h:γ.any isNestB=false)(j:Nat)(d:D):(γ.set j (.val d)).any isNestB=false:=by
 refine zlr.mpr λc I z=>?_;rcases List.mem_or_eq_of_mem_set I with I | I
 ·exact zlr.mp h c I z
 ·rw [I]at z;cases z
theorem vU : ∀(is:List Nat) (ds:List D) {γ:Ctx},γ.any isNestB=false->(qg is ds γ).any isNestB=false
 | [],ds,γ,h=>by cases ds<;>exact h
 | i::is,[],γ,h=>h
 | i::is,d::ds,γ,h=>vU is ds (ZM h i d)
theorem Wv{T:Tg}{d:D}{γ γ1:Ctx}(e:qe T d γ=some γ1)(h:γ.any isNestB=false):γ1.any isNestB=false:=by
 cases T with
 | nm j=>cases e;exact ZM h j d
 | tp is=>
  cases d with
  | tup ds=>
   simp only [qe]at e;split at e
   ·cases e;exact vU is ds h
   ·cases e
  | _=>simp [qe]at e
section
variable{K:PySem.W.Frag}{E0 E H0 H:Hp}{σ:St}{γ:Ctx}{p:Addr}{u u':HO}
theorem RS.repl(r:RS K E0 E H0 H σ γ)(hn:γ.any isNestB=false)(S:H p=some u)(U : ∀xs,u ≠ .lst xs)(h0:H0 p=none)(he:E p=none):RS K E0 E H0 (upd H p u') σ γ:=by
 have I:Same H0 (upd H p u'):=λb o e=>by rw [zJ (λz=>by rw [z,h0]at e;cases e)];exact r.rc.sub b o e
 have ne : ∀{a:Addr} {xs:List V},H a=some (.lst xs)->a≠p:=λe z=>by rw [z,S]at e;exact U _ (zj7 e)
 refine⟨⟨I,r.rc.len,r.rc.val,λi ds e=>?_,r.rc.ne,NestOk.nil0 (ZX hn)⟩,⟨r.ext.s0,λb o e=>by rw [zJ (λz=>by rw [z,he]at e;cases e)];exact r.ext.s1 b o e,I,r.ext.new⟩,r.fresh,λi rows a xs e=>absurd e (ZX hn i rows)⟩;obtain⟨a,xs,h1,h2,O,Y⟩:=r.rc.own i ds e;exact⟨a,xs,h1,h2,by rw [zJ (ne O)];exact O,Y⟩
theorem RS.showD(r:RS K E0 E H0 H σ γ)(hn:γ.any isNestB=false)(O:H p=some u)(Y : ∀xs,u ≠ .lst xs)(h0:H0 p=none)(he:E p=none):RS K E0 E (upd H0 p u) H σ γ:=by
 have S:Same (upd H0 p u) H:=λb o e=>by
  by_cases z:b=p
  ·subst z;rw [zH]at e;rw [O];exact e
  ·rw [zJ z]at e;exact r.rc.sub b o e
 have ne : ∀{a:Addr} {xs:List V},H a=some (.lst xs)->a≠p:=λe z=>by rw [z,O]at e;exact Y _ (zj7 e)
 have s0:Same H0 (upd H0 p u):=z5 h0 _;refine⟨⟨S,r.rc.len,λi d e=>?_,λi ds e=>?_,r.rc.ne,NestOk.nil0 (ZX hn)⟩,⟨r.ext.s0.trans s0,r.ext.s1,S,λc Z I=>?_⟩,r.fresh,λi rows a xs e=>absurd e (ZX hn i rows)⟩
 ·obtain⟨v,h1,h2⟩:=r.rc.val i d e
  exact⟨v,h1,h2.mono s0⟩
 ·obtain⟨a,xs,h1,h2,U,h4⟩:=r.rc.own i ds e
  exact⟨a,xs,h1,by rw [zJ (ne U)];exact h2,U,h4.mono s0⟩
 ·rw [zJ (λz=>by rw [z,he]at I;exact I rfl)];exact r.ext.new c Z I
end
theorem Zb{i:Nat} : ∀{is:List Nat} {vs:List V} {σ:St},i∉is->(setAll is vs σ)[i]? = σ[i]?
 | [],vs,σ,_=>by cases vs<;>rfl
 | j::is,[],σ,_=>rfl
 | j::is,v::vs,σ,h=>by
  show(setAll is vs (σ.set j (some v)))[i]? = _;rw [Zb (λz=>h (zjk _ z)),zjc (λz=>h (by rw [z];exact zju))]
theorem Ym{K:PySem.W.Frag}{H0 H:Hp}{T:Tg}{d:D}{v:V}{σ:St}{γ γ1:Ctx}{i:Nat}{Q:St->Hp->Prop}(s:Same H0 H)(h:Rep K H0 d v)(e:qe T d γ=some γ1)(O:zey i T=true)
 (q : ∀z,z[i]? = σ[i]? ->(∀E0 E,RS K E0 E H0 H σ γ->RS K E0 E H0 H z γ1)->Q z H):gOf K T v σ H Q:=by
 cases T with
 | nm j=>cases e;exact q _ (zjc (of_decide_eq_true O)) λE0 E r=>r.setVal h
 | tp is=>
  cases d with
  | tup ds=>
   simp only [qe]at e;by_cases I:ds.length=is.length
   ·rw [if_pos I]at e;cases e
    obtain⟨a,xs,rfl,h1,h2⟩:=(show ∃a xs,v = .ref a/\SqT K H0 a xs/\Reps K H0 ds xs from h);have hx:xs.length=is.length:=by rw [h2.length,I]
    exact⟨a,xs,rfl,sameT s h1,hx,QY hx (q _ (Zb (of_decide_eq_true O)) λE0 E r=>r.setAll h2)⟩
   ·rw [if_neg I]at e;cases e
  | _=>simp [qe]at e
def Wc:Obj:={cls:= .type "dict",data:= .dict #[]}
def YN:TE:=λ_ H Q=>∀p,H p=none->(p==sysModules)=false->Q (.ref p) (upd H p (atO p Wc))
theorem zaC{X:Cx}{pos:Pos}:PE X (.Dict [] [] pos) YN:=λpins s σ H Q I h=>
 wpAny_Dict_empty ⟨.ref s.heap.objs.size,_,I.laid (a:=s.heap.objs.size) (o:=atO s.heap.objs.size Wc) (t':=s.toks) (λ_ _ q=>zi3 _ q) (zjb _) (Km (zje _ rfl)),rfl,h _ I.fresh (beq_eq_false_iff_ne.mpr (zky I.big))⟩
theorem zhF:DObj Wc []:=⟨⟨rfl,rfl,rfl⟩,#[],0,rfl,rfl,List.nodup_nil⟩
theorem Xd{p:Addr}{o:Obj} : ∀xs,atO p o ≠ .lst xs:=λxs z=>by cases z
abbrev XR:=Ctx×List (List Int)×List D
abbrev XF:=Ctx->List (List Int)->List D->Option XR
def KP(ks:List (List Int))(k:List Int):List (List Int):=if k∈ks then ks else ks++[k]
def vh:List (List Int)->List D->List Int->D->List D
 | k'::ks,v'::vs,k,v=>if k'=k then v::vs else v'::vh ks vs k v
 | _,_,_,v=>[v]
def zha(fk z:CO D):XF:=λγ ks vs=>(z γ).bind λv=>((fk γ).bind Yt).bind λk=>if ks.length<lim then some (γ,KP ks k,vh ks vs k v)else none
def zed(fk z:CO D):XF:=λγ ks vs=>((fk γ).bind Yt).bind λk=>((Q0 ks vs k).bind asI).bind λa=>((z γ).bind asI).bind λb=>if ks.length<lim then some (γ,ks,vh ks vs k (.int (a+b)))else none
def WQ(i j:Nat)(f:CO D):XF:=λγ ks vs=>if j=i then none else (f γ).map λd=>(γ.set j (.val d),ks,vs)
def XE(F G:XF):XF:=λγ ks vs=>(F γ ks vs).bind λr=>G r.1 r.2.1 r.2.2
def qIf(t:CO Bool)(F:XF):XF:=λγ ks vs=>(t γ).bind λb=>if b=true then F γ ks vs else some (γ,ks,vs)
def xy(T:Tg)(F:XF):List D->XF
 | [],γ,ks,vs=>some (γ,ks,vs)
 | d::ds,γ,ks,vs=>(qe T d γ).bind λγ1=>(F γ1 ks vs).bind λr=>xy T F ds r.1 r.2.1 r.2.2
def Ys(i:Nat)(src:CO (List D))(T:Tg)(F:XF):XF:=λγ ks vs=>if zey i T=true then (src γ).bind λds=>xy T F ds γ ks vs else none
def zgj(i:Nat)(F:XF):CO Fl:=λγ=>if (γ.set i .no).any isNestB=false/\i<γ.length then (F (γ.set i .no) [] []).bind λr=>if r.2.1.length<=lim then some (.next (r.1.set i (.val (.dct r.2.1 r.2.2))))else none else none
def KK(f:CO D):CO D:=λγ=>(f γ).bind λd=>match d with
 | .dct ks _=>some (.int ks.length)
 | _=>none
@[simp] theorem zhY(γ:Ctx)(f):KK f γ=(f γ).bind λd=>match d with
 | .dct ks _=>some (.int ks.length)
 | _=>none:=rfl
structure QS(K:PySem.W.Frag)(i:Nat)(p:Addr)(E0 E H0 H:Hp)(σ:St)(γ:Ctx)(ks:List (List Int))(vs:List D):Prop where
 rs:RS K E0 E H0 H σ γ
 nn:γ.any isNestB=false
 sl:σ[i]? = some (some (.ref p))
 h0:H0 p=none
 he:E p=none
 ex : ∃o es ys,H p=some (atO p o)/\DObj o es/\es.map (·.1)=ks/\(∀e∈es,SqT K H0 e.2.1 (e.1.map V.int))/\Reps K H0 vs ys/\Vals ys (es.map (·.2.2))
section
variable{K:PySem.W.Frag}{i:Nat}{p:Addr}{E0 E H0 H H0' H':Hp}{σ σ':St}{γ γ':Ctx}{ks:List (List Int)}{vs:List D}
theorem QS.step(x:QS K i p E0 E H0 H σ γ ks vs)(e:Ext H0 H H0' H'):QS K i p E0 E H0' H' σ γ ks vs:=by
 obtain⟨o,es,ys,h1,h2,I,O,S,U⟩:=x.ex;exact⟨x.rs.step e,x.nn,x.sl,e.new p x.h0 (by rw [h1];simp),x.he,o,es,ys,e.s1 _ _ h1,h2,I,λz Y=>sameT e.s0 (O z Y),S.mono e.s0,U⟩
theorem QS.names(x:QS K i p E0 E H0 H σ γ ks vs)(r:RS K E0 E H0 H σ' γ')(n:γ'.any isNestB=false)(s:σ'[i]? = σ[i]?):QS K i p E0 E H0 H σ' γ' ks vs:=⟨r,n,by rw [s];exact x.sl,x.h0,x.he,x.ex⟩
end
def tQX(K:PySem.W.Frag)(i:Nat)(F:XF):TS:=λD σ H=>∃p E0 E H0 γ ks vs r,QS K i p E0 E H0 H σ γ ks vs/\F γ ks vs=some r/\∀σ' H' H0',QS K i p E0 E H0' H' σ' r.1 r.2.1 r.2.2->D.nx σ' H'
theorem Zf{xs:List (List Int×Addr×Value)}{k:List Int}{b:Addr}{r:Value}:(storedH xs k b r).map (·.1)=KP (xs.map (·.1)) k:=by
 unfold storedH KP;by_cases h:k∈xs.map (·.1)
 ·have:(atKey xs k).isSome=true:=by
   obtain⟨x,hx,e⟩:=zjx.mp h;unfold atKey;rw [Option.isSome_map,List.find?_isSome];exact⟨x,hx,by simpa using e⟩
  rw [if_pos this,if_pos h,zjW];refine zjg λx hx=>?_;show(putAt k r x).1=x.1;unfold putAt;split<;>rfl
 ·rw [if_neg (by rw [Jh h];decide),if_neg h,zjT]
  rfl
theorem w6{xs:List (List Int×Addr×Value)}{k:List Int}{b:Addr}{r:Value}{P:List Int->Addr->Prop}(h : ∀x∈xs,P x.1 x.2.1)(O:P k b) : ∀x∈storedH xs k b r,P x.1 x.2.1:=by
 intro x hx;unfold storedH at hx;split at hx
 ·obtain⟨y,I,rfl⟩:=zjx.mp hx
  unfold putAt;split
  ·exact h y I
  ·exact h y I
 ·rcases zkH.mp hx with z | z
  ·exact h x z
  ·rw [zlh.mp z];exact O
theorem XI{k:List Int}{r:Value} : ∀{xs:List (List Int×Addr×Value)},k∉xs.map (·.1)->xs.map (putAt k r)=xs
 | [],_=>rfl
 | x::xs,h=>by
  rw [zjw,XI (λz=>h (zjk _ z))];congr 1;unfold putAt;rw [if_neg λz=>h (by rw [<- z];exact zju)]
theorem ZP{K:PySem.W.Frag}{H:Hp}{k:List Int}{b:Addr}{r:Value}{v:D}{y:V}(z:Rep K H v y)(I:RelV y r) : ∀{xs:List (List Int×Addr×Value)} {vs:List D} {ys:List V},(xs.map (·.1)).Nodup->Reps K H vs ys->Vals ys (xs.map (·.2.2))->
 ∃O,Reps K H (vh (xs.map (·.1)) vs k v) O/\Vals O ((storedH xs k b r).map (·.2.2))
 | [],vs,ys,_,h1,h2=>by
  cases h2;cases vs with
  | nil=>exact⟨[y],Reps.cons z Reps.nil,.cons I .nil⟩
  | cons d vs=>obtain⟨_,_,q,_⟩:=h1.inv_cons;cases q
 | x::xs,vs,ys,nd,h1,h2=>by
  have U:=zkp.mp nd;cases h2 with
  | cons Z Y=>
   cases vs with
   | nil=>have:=h1.inv_nil;cases this
   | cons d vs=>
    obtain⟨y0,yr,q,g1,g2⟩:=h1.inv_cons;cases q;by_cases hx:x.1=k
    ·have hk:k∉xs.map (·.1):=by rw [<- hx];exact U.1
     have e1:vh ((x::xs).map (·.1)) (d::vs) k v=v::vs:=by show(if x.1=k then _ else _)=_;rw [if_pos hx]
     have S:storedH (x::xs) k b r=(x.1,x.2.1,r)::xs:=by
      have:(atKey (x::xs) k).isSome=true:=by unfold atKey;rw [zme (by simpa using hx)];rfl
      unfold storedH;rw [if_pos this,zjw,XI hk];unfold putAt;rw [if_pos hx]
     rw [e1,S];exact⟨_,Reps.cons z g2,.cons I Y⟩
    ·obtain⟨O,i1,i2⟩:=ZP (b:=b) z I U.2 g2 Y
     have e1:vh ((x::xs).map (·.1)) (d::vs) k v=d::vh (xs.map (·.1)) vs k v:=by show(if x.1=k then _ else _)=_;rw [if_neg hx]
     have S:storedH (x::xs) k b r=x::storedH xs k b r:=by
      have:atKey (x::xs) k=atKey xs k:=by unfold atKey;rw [zmf (by simpa using hx)]
      unfold storedH;rw [this];split
      ·rw [zjw]
       congr 1;unfold putAt;rw [if_neg hx]
      ·rfl
     rw [e1,S];exact⟨_,Reps.cons g1 i1,.cons Z i2⟩
def zcQ(K:PySem.W.Frag)(I ty tv:TE):TS:=λD σ H=>tv σ H λv H1=>I σ H1 λx H2=>ty σ H2 λy z=>∃a o es k b,x = .ref a/\z a=some (atO a o)/\DObj o es/\(∀e∈es,SqT K z e.2.1 (e.1.map V.int))/\y = .ref b/\SqT K z b (k.map V.int)/\es.length<=sizeLine/\
 ∀o' r,DObj o' (storedH es k b r)->RelV v r->D.nx σ (upd z a (atO a o'))
theorem Vi{X:Cx}{o i value:Expr}{pos pos':Pos}{U ty tv:TE}(Z:X.A.units+1<cLine)(ho:PE X o U)(hi:PE X i ty)(hv:PE X value tv)(hs:swapsWith value (some (.Subscript o i pos')) pos.line X.env=pure false) :
 PS X (.Assign [.Subscript o i pos'] value pos) (zcQ X.K U ty tv):=by
 intro pins s σ H D I h;refine wpAny_Assign_Subscript (thn (hv pins s σ H _ I h) λr s1 O=>?_) hs;obtain⟨v,H1,I1,rv,q1⟩:=O;refine thn (ho pins s1 σ H1 _ I1 q1) λu s2 O=>?_;obtain⟨x,H2,I2,rx,q2⟩:=O;refine thn (hi pins s2 σ H2 _ I2 q2) λiv s3 O=>?_;obtain⟨y,H3,S,ry,a,ob,es,k,b,rfl,e1,e2,e3,rfl,e4,e6,q3⟩:=O;cases (show u=zjy a from rx);cases (show iv=zjy b from ry);have dH:=yU S e1 e2 e3;refine wpAny_setItem_heap (hsz:=e6) (zl7 Z) (xV S e4) dH λh' ah ai=>?_;obtain⟨o',Y,aj⟩:=zb8 ah;exact⟨σ,_,S.write (x:=a) (e:=a) (o:=atO a o') (t':=_) (h':=h') (by rw [e1];exact zkS) (.inl rfl) (λb q hb z=>(ai.2 b hb).trans z) ⟨_,Y⟩ (Km Y),q3 o' r aj rv⟩
section
variable{X:Cx}{i:Nat}{st:Stmt}{rest:List Stmt}{pos:Pos}
theorem zeQ{fk S:CO D}(h:PS X st (zcQ X.K (vP i) (tV X.K fk) (tV X.K S))):PS X st (tQX X.K i (zha fk S)):=qZ h λD σ H hZ=>by
 obtain⟨p,E0,E,H0,γ,ks,vs,r,xs,z,a2⟩:=hZ;obtain⟨v,e1,z⟩:=bind_some z;obtain⟨k,e2,z⟩:=bind_some z;obtain⟨kd,e3,e4⟩:=bind_some e2;split at z
 ·next ae=>
  cases z;refine⟨H0,γ,v,xs.rs.rc,e1,λv1 H1 a7 x1 r1=>⟨.ref p,xs.sl,a7,γ,kd,(xs.step x1).rs.rc,e3,λkv H2 U I r2=>?_⟩⟩;obtain⟨b,rfl,Y⟩:=kB e4 r2;have y:=(xs.step x1).step I;obtain⟨o,es,ys,h1,h2,O,Z,h5,h6⟩:=y.ex;have ah:es.length=ks.length:=by rw [<- O,zjh]
  have ai:lim<=sizeLine:=by decide
  have nd:(es.map (·.1)).Nodup:=by obtain⟨_,_,_,_,_,n⟩:=h2;exact n
  refine⟨p,o,es,k,b,rfl,h1,h2,λe he=>sameT y.rs.rc.sub (Z e he),rfl,sameT I.sub Y,by omega,λo' r' ab rr=>a2 _ _ U ?_⟩;obtain⟨ad,g1,g2⟩:=ZP (k:=k) (b:=b) (r1.mono I.s0) rr nd h5 h6;rw [O]at g1;exact⟨y.rs.repl y.nn h1 Xd y.h0 y.he,y.nn,y.sl,y.h0,y.he,o',_,ad,zH,ab,by rw [Zf,O],w6 (P:=λk b=>SqT X.K U b (k.map V.int)) Z Y,g1,g2⟩
 ·cases z
theorem zbQ{j:Nat}{f:CO D}(h:PS X st (Ky (tV X.K f) (xW j))):PS X st (tQX X.K i (WQ i j f)):=qZ h λD σ H I=>by
 obtain⟨p,E0,E,H0,γ,ks,vs,r,xs,z,O⟩:=I;unfold WQ at z;split at z
 ·cases z
 ·next S=>
  obtain⟨d,e1,U⟩:=zB z;subst U;refine⟨H0,γ,d,xs.rs.rc,e1,λv H1 Y x1 Z=>O _ _ Y ?_⟩;have y:=xs.step x1;exact y.names (y.rs.setVal Z) (ZM y.nn j d) (zjc S)
theorem zbR{F G:XF}(h1:PS X st (tQX X.K i F))(h2:PSs X rest (tQX X.K i G)):PSs X (st::rest) (tQX X.K i (XE F G)):=by
 intro pins s σ H D I O;refine(yl h1 h2) pins s σ H D I ?_;obtain⟨p,E0,E,H0,γ,ks,vs,r,xs,z,S⟩:=O;obtain⟨U,e1,z⟩:=bind_some z;exact⟨p,E0,E,H0,γ,ks,vs,U,xs,e1,λσ' H' H0' y=>⟨p,E0,E,H0',_,_,_,r,y,z,S⟩⟩
theorem zg9{c:Expr}{body:List Stmt}{t:CO Bool}{F:XF}(O:PTD X c t)(S:PSs X body (tQX X.K i F)):PS X (.If c body [] pos) (tQX X.K i (qIf t F)):=qZ (ze7 O S Vg) λD σ H U=>by
 obtain⟨p,E0,E,H0,γ,ks,vs,r,xs,z,I⟩:=U;obtain⟨b,e1,z⟩:=bind_some z;refine⟨H0,γ,b,xs.rs.rc,e1,λH' H0' x=>?_⟩;cases b with
 | true=>rw [if_pos rfl]at z ⊢;exact⟨p,E0,E,H0',γ,ks,vs,r,xs.step x,z,I⟩
 | false=>rw [if_neg zjj]at z ⊢;cases z;exact I _ _ H0' (xs.step x)
end
def zeB(K:PySem.W.Frag)(z ty:TE):TE:=λσ H Q=>z σ H λx H1=>ty σ H1 λy H2=>∃a o es k b u v,x = .ref a/\H2 a=some (atO a o)/\DObj o es/\(∀e∈es,SqT K H2 e.2.1 (e.1.map V.int))/\y = .ref b/\SqT K H2 b (k.map V.int)/\atKey es k=some u/\RelV v u.2/\Q v H2
theorem zdd{X:Cx}{o i:Expr}{pos:Pos}{S ty:TE}(Y:X.A.units+1<cLine)(Z:PE X o S)(hi:PE X i ty)(hs:zh8 i:=by intro _ _;rfl):PE X (.Subscript o i pos) (zeB X.K S ty):=by
 intro pins s σ H Q I h;refine YO PySem.F.slot_dict_getitem.lookup hs (thn (Z pins s σ H _ I h) λu1 s1 z=>?_);obtain⟨x,H1,I1,rx,q1⟩:=z;refine thn (hi pins s1 σ H1 _ I1 q1) λu2 s2 z=>?_;obtain⟨y,H2,O,ry,a,ob,es,k,b,u,v,rfl,e1,e2,e3,rfl,e4,e5,e6,q⟩:=z;cases (show u1=zjy a from rx);cases (show u2=zjy b from ry);have U:=yU O e1 e2 e3;exact⟨U.typeIs,wpAny_getItem_heap (zl7 Y) (xV O e4) U e5 ⟨v,H2,O.tok _,e6,q⟩⟩
section
variable{X:Cx}{i:Nat}{st:Stmt}{rest:List Stmt}{pos:Pos}
theorem zeR{fk fe:CO D}(h:PS X st (zcQ X.K (vP i) (tV X.K fk) (tOp (rI0 λa b=> .int (a+b)) (zeB X.K (vP i) (tV X.K fk)) (tV X.K fe)))):PS X st (tQX X.K i (zed fk fe)):=qZ h λD σ H hZ=>by
 obtain⟨p,E0,E,H0,γ,ks,vs,r,xs,I,ac⟩:=hZ;obtain⟨k,e2,I⟩:=bind_some I;obtain⟨kd,e3,e4⟩:=bind_some e2;obtain⟨a,e5,I⟩:=bind_some I;obtain⟨da,O,e7⟩:=bind_some e5;obtain⟨c,e8,I⟩:=bind_some I;obtain⟨dc,e9,ah⟩:=bind_some e8;rw [j8 e7]at O;rw [j8 ah]at e9;split at I
 ·next bc=>
  cases I;refine⟨.ref p,xs.sl,H0,γ,kd,xs.rs.rc,e3,λkv H1 ai x1 r1=>?_⟩;obtain⟨b,rfl,ak⟩:=kB e4 r1;have y:=xs.step x1;obtain⟨o,es,ys,h1,h2,h3,h4,h5,h6⟩:=y.ex;rw [<- h3]at O;obtain⟨yv,pu,S,c2,c3⟩:=(Z6 h5 h6).1 _ O;refine⟨p,o,es,k,b,pu,yv,rfl,h1,h2,λe he=>sameT y.rs.rc.sub (h4 e he),rfl,sameT x1.sub ak,S,c3,?_⟩;refine⟨ai,γ,.int c,y.rs.rc,e9,λcv H2 as x2 r2=>?_⟩;refine⟨a,c,jz c2,jz r2,?_⟩;have U:=y.step x2;refine⟨.ref p,U.sl,as,γ,kd,U.rs.rc,e3,λbf H3 Y x3 r3=>?_⟩;obtain⟨b2,rfl,a7⟩:=kB e4 r3;have z:=U.step x3;obtain⟨o3,Z,bh,g1,g2,g3,g4,g5,g6⟩:=z.ex;have bi:Z.length=ks.length:=by rw [<- g3,zjh]
  have bj:lim<=sizeLine:=by decide
  have nd:(Z.map (·.1)).Nodup:=by obtain⟨_,_,_,_,_,n⟩:=g2;exact n
  refine⟨p,o3,Z,k,b2,rfl,g1,g2,λe he=>sameT z.rs.rc.sub (g4 e he),rfl,sameT x3.sub a7,by omega,λo' r' ay rr=>ac _ _ Y ?_⟩;obtain⟨b0,f1,f2⟩:=ZP (K:=X.K) (H:=Y) (k:=k) (b:=b2) (v:= .int (a+c)) (y:= .int (a+c)) rfl rr nd g5 g6;rw [g3]at f1;have ba:k∈ks:=by
   rw [<- h3];by_cases q:k∈es.map (·.1)
   ·exact q
   ·rw [Jh q]at S;cases S
  exact⟨z.rs.repl z.nn g1 Xd z.h0 z.he,z.nn,z.sl,z.h0,z.he,o',_,b0,zH,ay,by rw [Zf,g3];unfold KP;rw [if_pos ba],w6 (P:=λk b=>SqT X.K Y b (k.map V.int)) g4 a7,f1,f2⟩
 ·cases I
theorem XD{F:XF}(h:PS X st (tQX X.K i F)):PSs X [st] (tQX X.K i F):=yK h
theorem Y5{tg iter:Expr}{body:List Stmt}{src:CO (List D)}{T:Tg}{F:XF}(hp:PassesOwn (model X.prog X.w) X.A X.env X.xe)(hc:X.calm=true)(hi:PIF X tg iter src)(hg:PG X tg (gOf X.K T))(hb:PSs X body (tQX X.K i F))
 (hs : ∀x,foldedSetIterable iter X.env x=pure x:=by intro _;rfl):PS X (.For tg iter body [] pos) (tQX X.K i (Ys i src T F)):=qZ (zbZ hp hc hi hg hb hs) λD σ H hZ=>by
 obtain⟨p,E0,E,H0,γ,ks,vs,r,xs,O,aa⟩:=hZ;unfold Ys at O;split at O
 ·next ab=>
  obtain⟨ds,e1,O⟩:=bind_some O;refine⟨H0,γ,ds,xs.rs.rc,e1,λJ H1 S x1 Z=>?_⟩;have y:=xs.step x1;have hx:=y.rs.ext;refine⟨λn m σ H=>m=ds.length - n/\n<=ds.length/\∃H0 γ ks vs,QS X.K i p S E H0 H σ γ ks vs/\xy T F (ds.drop n) γ ks vs=some r,⟨_,rfl,zkK _,S,γ,ks,vs,⟨⟨y.rs.rc,hx.base,y.rs.fresh,y.rs.fr2⟩,y.nn,y.sl,y.h0,y.he,y.ex⟩,O⟩,?_⟩;rintro n m σ3 U ⟨rfl,aq,a1,γ3,ad,ae,z,I⟩;have a0:Same S U:=z.rs.ext.s0.trans z.rs.ext.sub;by_cases Y:n<ds.length
  ·refine .inr ⟨Z.go n U a0 Y,λσ H=>n+1<=ds.length/\∃H0 γ ks vs,QS X.K i p S E H0 H σ γ ks vs/\xy T F (ds.drop (n+1)) γ ks vs=some r,λσ' H' q=>⟨ds.length - (n+1),by omega,rfl,q.1,q.2⟩,λx H' yy=>?_⟩
   obtain⟨d,hd,ag⟩:=Z.yld n U x H' a0 Y yy;obtain⟨G0,xg,rg⟩:=ag a1 z.rs.ext.s0 z.rs.rc.sub;have ai:ds.drop n=d::ds.drop (n+1):=by
    have aj:d=ds[n]:=by rw [zi8 Y]at hd;exact(zj7 hd).symm
    rw [aj];exact zlS Y
   rw [ai]at I;obtain⟨γ4,eb,I⟩:=bind_some I;obtain⟨r4,eF,I⟩:=bind_some I;refine Ym (i:=i) xg.sub rg eb ab λσ4 hσ ao=>?_;have z1:=z.step xg;exact⟨p,S,E,G0,γ4,ad,ae,r4,z1.names (ao S E z1.rs) (Wv eb z1.nn) hσ,eF,λσ5 H5 ap q=>⟨Y,ap,_,_,_,q,I⟩⟩
  ·have e:n=ds.length:=by omega
   subst e;rw [zmW]at I;cases I;exact .inl ⟨Z.stop U a0,aa σ3 U a1 ⟨⟨z.rs.rc,hx.rebase z.rs.ext,z.rs.fresh,z.rs.fr2⟩,z.nn,z.sl,z.h0,z.he,z.ex⟩⟩
 ·cases O
end
def zeT:XF:=λγ ks vs=>some (γ,ks,vs)
def tQC(K:PySem.W.Frag)(i:Nat)(F:XF)(G:CO Fl):TS:=λD σ H=>∃p E0 E H0 γ ks vs r z,(p==sysModules)=false/\QS K i p E0 E H0 H σ γ ks vs/\F γ ks vs=some r/\r.2.1.length<=lim/\G (r.1.set i (.val (.dct r.2.1 r.2.2)))=some z/\Sat K E0 E D z
section
variable{X:Cx}{i:Nat}{st:Stmt}{rest:List Stmt}
theorem zeS{G:CO Fl}(h:Yu X rest G):PSs X rest (tQC X.K i zeT G):=by
 intro pins s σ H D I Y;refine h pins s σ H D I ?_;obtain⟨p,E0,E,H0,γ,ks,vs,r,Z,a0,xs,ef,hl,eG,a4⟩:=Y;cases ef;obtain⟨o,es,ys,h1,h2,O,h4,h5,h6⟩:=xs.ex;have aa:lim<=sizeLine:=by decide
 have ab:es.length=ks.length:=by rw [<- O,zjh]
 have r4:=xs.rs.showD xs.nn h1 Xd xs.h0 xs.he;have S:Same H0 (upd H0 p (atO p o)):=z5 xs.h0 _;have U:=r4.setVal (i:=i) (d:= .dct ks vs) (v:= .ref p) (show ∃a xs,V.ref p = .ref a/\DRt X.K (upd H0 p (atO p o)) a ks xs/\Reps X.K (upd H0 p (atO p o)) vs xs from⟨p,ys,rfl,⟨a0,o,es,zH,h2,O,by have:ks.length<=lim:=hl;omega,λx hx=>sameT S (h4 x hx),h6⟩,h5.mono S⟩);have e5:σ.set i (some (.ref p))=σ:=by
  apply zl3;intro j;by_cases z:j=i
  ·subst z
   rw [zjU (by have:=zjp.mp xs.sl;exact this.1),xs.sl]
  ·rw [zjc (zj6 z)]
 rw [e5]at U;exact⟨E0,E,_,_,Z,U,eG,a4⟩
theorem Y6{F O:XF}{G:CO Fl}(h1:PS X st (tQX X.K i F))(h2:PSs X rest (tQC X.K i O G)):PSs X (st::rest) (tQC X.K i (XE F O) G):=by
 intro pins s σ H D I S;refine(yl h1 h2) pins s σ H D I ?_;obtain⟨p,E0,E,H0,γ,ks,vs,r,U,Y,xs,z,Z,eG,a1⟩:=S;obtain⟨r1,e1,z⟩:=bind_some z;exact⟨p,E0,E,H0,γ,ks,vs,r1,xs,e1,λσ' H' H0' y=>⟨p,E0,E,H0',_,_,_,r,U,Y,y,z,Z,eG,a1⟩⟩
theorem zau(i:Nat){F:XF}{G:CO Fl}(h1:PS X st (Ky YN (xW i)))(h2:PSs X rest (tQC X.K i F G)):Yu X (st::rest) (zI (zgj i F) G):=by
 intro pins s σ H D I U;refine(yl h1 h2) pins s σ H D I ?_;obtain⟨E0,E,H0,γ,Y,rs,O,Z⟩:=U;obtain⟨f1,z,O⟩:=bind_some O;unfold zgj at z;split at z
 ·next a0=>
  obtain⟨hn,a1⟩:=a0;obtain⟨r,e1,z⟩:=bind_some z;split at z
  ·next hl=>
   cases z;show YN σ H λx H1=>xW i x σ H1 _;intro p S a3;have hE:E p=none:=jA rs.ext.s1 S;have a5:H0 p=none:=jA rs.rc.sub S;have r1:RS X.K E0 E H0 (upd H p (atO p Wc)) (σ.set i (some (.ref p))) (γ.set i .no):=(rs.forget (v:=some (.ref p))).step (Ext.hide rs.rc.sub S _);have a7:(σ.set i (some (V.ref p)))[i]? = some (some (.ref p)):=by rw [zjU (by rw [rs.rc.len];exact a1)]
   exact⟨p,E0,E,H0,γ.set i .no,[],[],r,Y,a3,⟨r1,hn,a7,a5,hE,Wc,[],[],zH,zhF,rfl,(λe he=>nomatch he),Reps.nil,.nil⟩,e1,hl,O,Z⟩
  ·cases z
 ·cases z
end
theorem zdr{prog:Program}{w:World}{A:Around}{E:Value->Shared->Prop}{s:Shared}{d:Addr}{o:Obj}{es:Array DictEntry}{ep:Nat}{Q:Value->Shared->Prop}(hd:(d==sysModules)=false)(I:s.heap.get? d=some o)(hx:o.ExactDict)(O:o.data = .dict es ep)(S:(es.size:Int)<2 ^ 63)
 (h : ∀t k,Q (.int es.size t) {s with toks:=k}):wpAny (model prog w) A (call (.builtin "len") [.ref d]) Q E s:=by
 have z:s.TypeIs (.ref d) "dict":=⟨o,I,hx.1⟩;refine Calls.call_function_entry kind_len plain_len entry_len (args_len1 _) ?_;unfold Builtin.«len»;refine zi0 (m:=oneArg "len" _) (zi4 ?_);refine zi0 (m:=callSpecial? (.ref d) (zjZ "__len__")) (zjS (name:=zjZ "__len__") z F.slot_dict_len (zj2 F.slot_dict_len z F.entry_dict_len ?_ (F.args_dict_len_1 _)));unfold Builtin.«dict.__len__»;refine zi0 ?_;unfold Builtin.Dict.dictSlotNone;refine zi0 (zk8 z ?_);show wpAny _ _ (pure (zjy d)) _ _ s;refine zi4 ?_;refine zi0 (zi4 ?_);show wpAny _ _ (dictSize d >>= _) _ _ s;unfold dictSize;refine zi0 (zi0 (zkM I O (zi4 ?_)));show wpAny _ _ (Builtin.Dict.pendingCount d >>= _) _ _ s;refine zi0 (wpAny_pendingCount_other hd ?_);refine zi0 (wpAny_mkInt (zi4 ⟨_,rfl,?_⟩));rw [zmq];refine zi0 (zkJ (zi4 ?_));refine zi0 (zlm ?_);show wpAny _ _ (if ((es.size:Nat):Int)<0 then _ else _) _ _ _;rw [if_neg ⋯];show wpAny _ _ (if ((es.size:Nat):Int)>=2 ^ 63 then _ else _) _ _ _;rw [if_neg ⋯];exact zi0 (wpAny_mkInt (zi4 ⟨_,rfl,h _ _⟩))
theorem Yk{X:Cx}:vn X (.builtin "len") (λxs H Q=>∃H0 v ks vs,xs=[v]/\Same H0 H/\Rep X.K H0 (.dct ks vs) v/\Q (.int ks.length) H):=by
 intro pins s σ H xs us Q I r h;obtain⟨H0,v,ks,vs,rfl,sub,O,q⟩:=h;obtain⟨u,rfl,S⟩:=vg r;obtain⟨ad,ys,rfl,⟨g0,ob,zs,U,⟨g2,es,ep,Y,Z,_⟩,z,g4,g5,g6⟩,g7⟩:=(show ∃a xs,v = .ref a/\DRt X.K H0 a ks xs/\Reps X.K H0 vs xs from O);cases (show u=zjy ad from S);obtain⟨ho,_⟩:=(show ObjOk X.prog X.w H s.heap ad (atO ad ob)from I.hok ad _ (sub _ _ U));have hsz:es.size=ks.length:=by rw [<- zkg,Z,zjh,<- z,zjh]
 have a4:sizeLine<2 ^ 63:=by decide
 have a5:zs.length=ks.length:=by rw [<- z,zjh]
 refine zdr g0 ho g2 Y ⋯ λt k=>⟨.int ks.length,H,I.tok k,⟨t,by rw [hsz]⟩,q⟩
section
variable{X:Cx}{sc:Scope}{N T:List Str}{k:Nat}{e:Expr}{f:CO D}{p pos:Pos}
theorem Va(h:SX X sc N T k)(c:yD sc "len" = true)(z:X.mg "len" = none)(ha:PV X e f)(O:starEach [e] X.env=[(false,eval e X.env)]:=by rfl):PV X (.Call (.Name "len" p) [e] [] pos) (KK f):=
 jY (xh Yk (h.gl c).1 z PySem.boot_len (zS ha jP O) ⋯ ⋯ O rfl) λσ H Q S=>by
  obtain⟨H0,γ,d,rc,I,q⟩:=S;obtain⟨U,e1,I⟩:=bind_some I;cases U with
  | dct ks vs=>
   cases I;exact⟨H0,γ,_,rc,e1,λv H' H0' x r=>⟨H0',v,ks,vs,rfl,x.sub,r,q _ H' H0' x rfl⟩⟩
  | _=>cases I
end
def zhi:Res->Option (Int×Int)
 | .val d=>match d with
  | .tup ds=>match ds with
   | [x,y]=>(asI x).bind λi=>(asI y).map λj=>(i,j)
   | _=>none
  | _=>none
 | .own _=>none
def VJ(F:List D->Option Res):List D->Option (List (Int×Int))
 | []=>some []
 | d::r=>((F [d]).bind zhi).bind λp=>(VJ F r).map λl=>p::l
def YZ(F:List D->Option Res)(f:CO (Sk×List D)):CO (List D):=λγ=>(f γ).bind λa=>match a.1 with
 | .L=>(VJ F a.2).bind λps=>if a.2.length<64 then some ((QK ps).map λi=>a.2.getD i .non)else none
 | _=>none
def ZC:List D->Option Res:=ja 1 (zI (sIf (zad (qk (sB (sIs .str (zc 0)))) (sB (zv dGe (JF (zc 0)) (zh (.int 6))))) (j3 (zh (.bl false))) j9) (j3 (zah (jy (zD (zbJ (zc 0)) (.nm 0) 1 [] jb (zie (zc 0) (zC (zh (.tup [.str "r",.str "l"])))))))))
def vd:List D->Option Res:=ja 2 (zI (sIf (zad (qk (sB (zn Xo (za (zc 1) (za (zh (.int 2)) zu))))) (zad (qk (sB (zn F_is_room (za (zc 0) (za (sIx (zf 1) (zh (.int 0))) zu))))) (qk (sB (zn F_is_room (za (zc 0) (za (sIx (zf 1) (zh (.int 1))) zu))))))) (j3 (zh (.bl false))) j9) (j3 (zv dLe (sIx (zf 1) (zh (.int 0))) (sIx (zf 1) (zh (.int 1))))))
def WO:List D->Option Res:=ja 2 (xD (zD (Xz (zc 0)) (.tp [0,1]) 2 [1] (sB (Zd dLe dLe (sIx (zf 1) (zh (.int 0))) (zc 2) (sIx (zf 1) (zh (.int 1))))) (zc 0)))
def Xp:List D->Option Res:=ja 3 (zI (zU 2 (jp (zD (zG (zf 0)) (.nm 0) 1 [1] jb (zO (jy (zD (zG (zf 1)) (.nm 0) 1 [0] jb (JG (sB (zv dEq (zc 1) (zc 0))) (zh (.int 1)) (zh (.int 0))))))))) (j3 (jx (za (ya (zf 0)) (za (ya (zf 1)) (za (zO (zf 2)) zu))))))
def F_law_cell:List D->Option Res:=ja 5 (zI (sIf (zcS (sB (zv dGt (ya (zf 0)) (zh (.int 1)))) (sB (zv dEq (zv qL (sIx (zf 0) (zh (.int 0))) (zh (.int 2))) (zh (.int 1))))) (zI (zU 2 (sIx (zf 0) (zv jj (zh (.int 1)) (zv qL (zc 1) (zv xC (ya (zf 0)) (zh (.int 1))))))) (zI (yX (zX (Qy (zh (.int 60)) (zv Qb (zc 1) (zv xC (ya (zf 0)) (zh (.int 1)))))) (.nm 3) (zU 2 (zv Qb (zc 2) (zv zdL (zh (.int 10)) (zh (.int 9)))))) (j3 (zv qL (zc 2) (zv zdL (zh (.int 10)) (zh (.int 9))))))) j9) (zI (zU 4 (zc 1)) (zI (sIf (sB (zv dGt (ya (zf 0)) (zh (.int 0)))) (zU 4 (sIx (zf 0) (zv qL (zc 1) (ya (zf 0))))) j9) (j3 (zv qL (zv qV (zv qL (zv jj (zv jj (zv jj (zv qV (zv qL (zc 4) (zv zdL (zh (.int 10)) (zh (.int 30)))) (zh (.int 48271))) (zv qV (zv qV (zh (.int 7)) (zc 1)) (zc 1))) (zv qV (zh (.int 13)) (zc 1))) (zh (.int 5))) (zh (.int 2147483647))) (zh (.int 69621))) (zh (.int 1000000007)))))))
def F_tables_joined:List D->Option Res:=ja 5 (zI (zU 3 (jp (zD (wK (sIx (zf 0) (zh (.int 2))) (sIx (zf 2) (zh (.int 2)))) (.tp [0,1]) 2 [] jb (zv jj (zc 0) (zc 1))))) (zI (zU 4 (jp (zD (zG (zC (sIx (zf 1) (zh (.int 2))))) (.nm 0) 1 [0] jb (zv jj (zv qV (jx (za (zh (.int 0)) zu)) (sIx (zf 1) (zh (.int 1)))) (zc 0))))) (j3 (jx (za (zv jj (sIx (zf 0) (zh (.int 0))) (sIx (zf 1) (zh (.int 0)))) (za (zv jj (sIx (zf 0) (zh (.int 1))) (sIx (zf 1) (zh (.int 1)))) (za (zO (zC (jp (yj (zf 3) (zf 4))))) zu)))))))
def F_no_join:List D->Option Res:=ja 2 (j3 (zn F_nought_table (za (sIx (zf 0) (zh (.int 0))) (za (sIx (zf 1) (zh (.int 1))) zu))))
def F_tables_beside_5:List D->Option Res:=ja 2 (j3 (zn F_tables_joined (za (zc 0) (za (zc 1) (za (zn F_no_join (za (zc 0) (za (zc 1) zu))) zu)))))
def F_led_on:List D->Option Res:=ja 3 (xD (jg F_base_of (za (zc 0) (za (sIx (zf 1) (zh (.int 0))) (za (jp (zD (zG (zf 2)) (.nm 0) 1 [0,1] jb (zn F_led (za (zc 1) (za (zc 2) (za (zc 0) zu)))))) zu)))))
def F_link:List D->Option Res:=ja 6 (zI (zU 3 (zn F_same_table (za (sIx (zC (sIx (zf 0) (zh (.int 1)))) (zc 1)) zu))) (zI (xm 4 (zD (zG (zC (sIx (zf 3) (zh (.int 2))))) (.nm 0) 1 [] jb (zv jj (zc 0) (zc 0)))) (zI (yX (zG (zC (Qs (sIx (zf 0) (zh (.int 2))) (sBd (zc 1)) (sBd (zc 2))))) (.nm 5) (zd9 4 (xm 4 (XA F_led_on F_led_into (za (sIx (zf 0) (zh (.int 0))) (za (sIx (zf 5) (zh (.int 0))) (za (zn F_tables_beside_5 (za (zc 3) (za (sIx (zf 5) (zh (.int 1))) zu))) (za (zc 4) zu)))))))) (k5 4))))
def F_law_ends_k22:List D->Option Res:=ja 2 (zI (sIf (sB (zv dEq (zc 1) (zh (.str "r")))) (j3 (jx (za (zc 0) (za (zv jj (zc 0) (zh (.int 1))) zu)))) j9) (j3 (jx (za (zv jj (zc 0) (zh (.int 1))) (za (zc 0) zu)))))
def F_law_row_k22:List D->Option Res:=ja 9 (zI (xm 4 (qB zu)) (zI (yX (yY (zc 1)) (.tp [5,6]) (zI (Qx (.tp [7,8]) (zn F_law_ends_k22 (za (zc 5) (za (zc 6) zu)))) (qR 4 (jx (za (zc 6) (za (jx (za (sIx (zf 2) (zc 8)) (za (sIx (zf 2) (zc 7)) (za (zO (jy (zD (zG (zC (sIx (zf 3) (zc 5)))) (.nm 0) 1 [] jb (zO (zf 0))))) zu)))) zu)))))) (j3 (jx (za (zc 0) (za (zO (zf 2)) (za (zO (zf 4)) zu)))))))
def F_law_ways_k22:List D->Option Res:=ja 4 (zI (zU 2 (zh (.str ""))) (zI (yX (zX (zv xC (zc 1) (zh (.int 1)))) (.nm 3) (zI (zU 2 (zag (zc 2) (JE (zh (.str "rl")) (zv qL (zc 0) (zh (.int 2)))))) (zU 0 (zv Qb (zc 0) (zh (.int 2)))))) (k5 2)))
def F_law_rows_k22:List D->Option Res:=ja 8 (zI (xm 5 (qB zu)) (zI (yX (zX (zc 3)) (.nm 6) (zI (zU 7 (jp (zD (zX (zc 4)) (.nm 0) 1 [0,1,4,6] jb (zn F_law_cell (za (zc 1) (za (zv jj (zv jj (zc 2) (zv qV (zc 4) (zc 3))) (zc 0)) zu)))))) (qR 5 (jp (zD (zG (zf 7)) (.nm 0) 1 [2] jb (zv qV (zv qL (zv Qb (zc 0) (zh (.int 4))) (zc 1)) (Y1 (zv dGt (zv qL (zc 0) (zh (.int 4))) (zh (.int 0)))))))))) (k5 5)))
def F_law_drawn_k22:List D->Option Res:=ja 11 (zI (zU 5 (jp (zD (zX (zv jj (JF (zc 3)) (zh (.int 1)))) (.nm 0) 1 [0,1,4] jb (zv qL (zn F_law_cell (za (zc 1) (za (zv jj (zc 2) (zc 0)) zu))) (zv jj (zc 3) (zh (.int 1))))))) (zI (xm 6 (qB zu)) (zI (yX (yY (zc 3)) (.tp [7,8]) (zI (Qx (.tp [9,10]) (zn F_law_ends_k22 (za (zc 7) (za (zc 8) zu)))) (qR 6 (jp (jg F_law_rows_k22 (za (zc 0) (za (zv jj (zv jj (zc 1) (zh (.int 10))) (zv qV (zh (.int 20)) (zc 7))) (za (zc 2) (za (sIx (zf 5) (zc 10)) (za (sIx (zf 5) (zc 9)) zu)))))))))) (zd9 6 (j3 (zn F_law_row_k22 (za (zc 2) (za (zc 3) (za (zc 5) (za (zc 6) zu))))))))))
abbrev dsq(k:Sk)(xs:List D):D:=match k with | .T=>D.tup xs | .L=>D.lst xs
@[simp] theorem zin(k xs):je (dsq k xs)=some (k,xs):=by cases k<;>rfl
theorem Zz{p:Int}{n:Nat}(k:Sk)(f:Nat->Int)(z:0<p)(hn:n<=lim) :
 F_rests [.int p,dsq k (zz n f)]=some (.val (.tup (zz n λi=>f i%p))):=by
 simp [F_rests,ja,zP,jd,hn,qx];unfold zz;rw [zo (r:=λi=>D.int (f i%p))]
 ·simp
 ·intro i hi
  refine zq rfl rfl ?_;simp [z]
theorem WM{p:Int}{n:Nat}(f:Nat->Int)(z:0<p)(hn:n<=lim) :
 F_rests [.int p,.tup (zz n f)]=some (.val (.tup (zz n λi=>f i%p))):=Zz .T f z hn
theorem wG{p:Int}{n:Nat}(f:Nat->Int)(z:0<p)(hn:n<=lim) :
 F_rests [.int p,.lst (zz n f)]=some (.val (.tup (zz n λi=>f i%p))):=Zz .L f z hn
theorem Jp{p:Int}{h w:Nat}(k:Sk)(f:Nat->Nat->Int)(g:Nat->Int)(I:0<p)(z:h<=lim)(hw:w<=lim)(O : ∀i j,i<h->j<w->0<=f i j/\f i j<100) :
 F_led [.int p,jI h w f,dsq k (zz w g)]=some (.val (.tup (zz h λi=>sumTo (λj=>f i j*g j) w%p))):=by
 simp [F_led,ja,zP,jd,z,qx,jI,zi5];unfold zN;rw [zo (r:=λi=>D.int (sumTo (λj=>f i j*g j) w))]
 ·simp
  rw [show(List.map (λi=>D.int (sumTo (λj=>f i j*g j) w)) (zi2 h))=zz h λi=>sumTo (λj=>f i j*g j) w from rfl,wG _ I z];rfl
 ·intro i hi
  refine zq rfl rfl ?_;simp [jd,yb,hw];rw [zo (r:=λj=>D.int (f i j*g j))]
  ·simp
   rw [show(List.map (λj=>D.int (f i j*g j)) (zi2 w))=zz w λj=>f i j*g j from rfl,ye]
  ·intro j S
   refine zq rfl rfl ?_;have:=O i j (zi6.mp hi) (zi6.mp S);simp [ke (f i j) (g j) ⋯ ⋯]
theorem yA{h w:Nat}(f:Nat->Nat->Int)(z:h<=lim)(hw:w<=lim):F_turned_over [jI h w f]=some (.val (jI w h λi j=>f j i)):=by
 simp [F_turned_over,ja,zP,jd,z,hw,qx,jI,zi5,zR,jD];rw [z6 w λi=>(i:Int)];rw [zo (r:=λj=>D.tup (zz h λi=>f i j))]
 ·simp
  rfl
 ·intro j I
  refine zq rfl rfl ?_;simp [jd,z,qx];unfold zN;rw [zo (r:=λi=>D.int (f i j))]
  ·simp
   rfl
  ·intro i hi
   refine zq rfl rfl ?_;have h1:=zi6.mp I;simp [h1,xj _ h1]
theorem kh{n:Nat}(hn:n<=lim):F_same_table [.int n]=some (.val (jI n n λi j=>if i=j then 1 else 0)):=by
 simp [F_same_table,ja,zP,zR,hn,jd,qx,zi5,jD];rw [z6 n λi=>(i:Int)];rw [zo (r:=λi=>D.tup (zz n λj=>if i=j then 1 else 0))]
 ·simp
  rfl
 ·intro i hi
  refine zq rfl rfl ?_;simp [hn,jd,zi5,jD,qx];rw [z6 n λi=>(i:Int)];rw [zo (r:=λj=>D.int (if i=j then 1 else 0))]
  ·simp
   rfl
  ·intro j z
   refine zq rfl rfl ?_;simp;by_cases e:i=j
   ·simp [e]
   ·rw [if_neg ⋯,if_neg e]
theorem xQ(d:D)(w:Nat):zi5 w d=(zi2 w).map λ_=>d:=by
 induction w with
 | zero=>rfl
 | succ n z=>rw [List.replicate_succ',z,zkh,zjT];simp
theorem wH{h w:Nat}(z:h<=lim)(hw:w<=lim):F_nought_table [.int h,.int w]=some (.val (jI h w λ_ _=>0)):=by
 simp [F_nought_table,ja,zP,zR,qV,z,hw];rw [xQ,xQ];rfl
def qO(ns:List Int):D:= .lst (ns.map D.int)
mutual
theorem eqD_refl : ∀d:D,eqD d d=true
 | .non=>rfl
 | .bl b=>by simp [eqD]
 | .int i=>by simp [eqD]
 | .str x=>by simp [eqD]
 | .tup xs=>by simp only [eqD];exact eqDs_refl xs
 | .lst xs=>by simp only [eqD];exact eqDs_refl xs
 | .exc c n=>by simp [eqD]
 | .dic a b=>by simp only [eqD];rw [eqDs_refl a,eqDs_refl b];rfl
 | .dct a b=>by simp only [eqD];rw [eqDs_refl b];simp
theorem eqDs_refl : ∀ds:List D,eqDs ds ds=true
 | []=>rfl
 | d::ds=>by simp only [eqDs,eqD_refl d,eqDs_refl ds,Bool.and_self]
end
theorem zfv{d:D}{n:Nat}(h:deep d<=n)(hn:n<=20)(h2:okS d=true):okD d=true:=by
 unfold okD;rw [h2,Bool.and_true];exact decide_eq_true (zj9 h hn)
theorem Kd{d:D}(h:okD d=true):dEq d d=some (.bl true):=by unfold dEq;rw [if_pos ⟨h,h⟩,eqD_refl]
theorem zbg{d:D}(h:okD d=true):dNe d d=some (.bl false):=by unfold dNe;rw [if_pos ⟨h,h⟩,eqD_refl];rfl
theorem Jy{α:Type}(l:List α):yE (l.map λ_=>D.bl true)=some (l.map λ_=>true):=by
 induction l with
 | nil=>rfl
 | cons a l z=>simp [yE,zgi,z]
def wch(b:Bool):Nat:=if b then 108 else 114
def qm(c:Nat):Str:=⟨#[c]⟩
theorem Zl : ∀(l:List Nat),(zmK "" (l.map qm)).cps.toList=l
 | []=>rfl
 | [c]=>rfl
 | c::d::l=>by
  have z:=Zl (d::l);show((qm c++("" : Str))++zmK "" ((d::l).map qm)).cps.toList=_;have e : ∀a b:Str,(a++b).cps.toList=a.cps.toList++b.cps.toList:=λa b=>by
   show(a.cps++b.cps).toList=_;simp
  rw [e,e,z];rfl
def qM(m:Nat)(w:Nat->Bool):Str:=zmK "" ((zi2 m).map λk=>qm (wch (w k)))
theorem qj(m w):(qM m w).cps.toList=(zi2 m).map λk=>wch (w k):=by
 have:=Zl ((zi2 m).map λk=>wch (w k));rw [zjW]at this;exact this
theorem ZE(m w):(qM m w).length=m:=by
 show(qM m w).cps.size=m;rw [<- zkg,qj];simp
theorem km{m:Nat}(w)(hm:m<=1000):jf (qM m w)=true:=decide_eq_true (by rw [ZE];exact hm)
theorem Xx{α:Type}(g:α->Str) : ∀l:List α,wO (l.map λx=>D.str (g x))=some (l.map g)
 | []=>rfl
 | a::l=>by simp [wO,Xx g l]
def hiW(w:Nat->Bool)(wd:Nat->Nat)(k:Nat):Nat:=if w k then wd k else wd (k+1)
def wiW(w:Nat->Bool)(wd:Nat->Nat)(k:Nat):Nat:=if w k then wd (k+1)else wd k
def qf(w:Nat->Bool)(wd:Nat->Nat)(T:Nat->Nat->Nat->Int)(k:Nat):D:= .tup [.str (qm (wch (w k))),jI (hiW w wd k) (wiW w wd k) (T k)]
def jS(m:Nat)(w:Nat->Bool)(wd:Nat->Nat)(T:Nat->Nat->Nat->Int):List D:=(zi2 m).map (qf w wd T)
def zT(p:Int)(m:Nat)(w:Nat->Bool)(wd:Nat->Nat)(T:Nat->Nat->Nat->Int):D:= .tup [.int p,.tup (zz (m+1) λk=>(wd k:Int)),.tup (jS m w wd T)]
@[simp] theorem WB(m w wd T):(jS m w wd T).length=m:=by simp [jS]
theorem zfu(b:Bool):okD (.str (qm (wch b)))=true:=by cases b<;>decide +kernel
theorem zdF(b:Bool):dEq (.str (qm (wch b))) (.str "r")=some (.bl (!b)):=by
 have e : ∀b:Bool,(qm (wch b)==(zjZ "r")) = !b:=by decide +kernel
 have z:okD (.str (zjZ "r"))=true:=by decide +kernel
 unfold dEq;rw [if_pos ⟨zfu b,z⟩];show some (D.bl (qm (wch b)==zjZ "r"))=_;rw [e]
theorem wV(i:Int):F_is_whole [.int i]=some (.val (.bl true)):=by
 simp [F_is_whole,ja,zP,zce]
theorem ve(n k:Int):F_is_room [.int n,.int k]=some (.val (.bl (decide (0<=k) && decide (k<n)))):=by
 by_cases h:0<=k<;>simp [F_is_room,ja,zP,wV,Zd,h]
theorem Qc{n i j:Nat}(f:Nat->D)(h1:i<=j)(h2:j<=n):Q8 ((zi2 n).map f) (some (i:Int)) (some (j:Int))=(zi2 (j - i)).map λk=>f (i+k):=by
 have c : ∀(d k:Nat),k<=n->Q9 n d (some (k:Int))=k:=λd k I=>by
  show(if (k:Int)<0 then ((k:Int)+n).toNat else min (k:Int).toNat n)=k;rw [if_neg ⋯];simp only [zjM];omega
 have z:((zi2 n).map f).length=n:=by simp
 unfold Q8;rw [z,c 0 i ⋯,c n j h2];apply List.ext_getElem
 ·simp;omega
 ·intro k O g2
  simp
section
variable{p:Int}{m:Nat}{w:Nat->Bool}{wd:Nat->Nat}{T:Nat->Nat->Nat->Int}
def zhN(p:Int)(i j:Nat)(w:Nat->Bool)(wd:Nat->Nat)(T:Nat->Nat->Nat->Int):D:=zT p (j - i) (λk=>w (i+k)) (λk=>wd (i+k)) (λk=>T (i+k))
theorem zf1{i j:Nat}(h1:i<=j)(h2:j<=m):Q8 (zz (m+1) λk=>(wd k:Int)) (some (i:Int)) (some ((j:Int)+1))=zz (j - i+1) λk=>((wd (i+k):Nat):Int):=by
 have:=Qc (n:=m+1) (i:=i) (j:=j+1) (λk=>D.int (wd k)) ⋯ ⋯;rw [show((j+1:Nat):Int)=(j:Int)+1 by omega,show j+1 - i=j - i+1 by omega]at this;exact this
theorem zch{i j:Nat}(h1:i<=j)(h2:j<=m):Q8 (jS m w wd T) (some (i:Int)) (some (j:Int))=jS (j - i) (λk=>w (i+k)) (λk=>wd (i+k)) (λk=>T (i+k)):=by
 unfold jS;rw [Qc _ h1 h2];apply zjg;intro k z;unfold qf hiW wiW;rfl
theorem zbv{i j:Nat}(hm:m<=900)(h1:i<=j)(h2:j<=m):F_cut [zT p m w wd T,.int i,.int j]=some (.val (zhN p i j w wd T))/\zgh [zT p m w wd T,.int i,.int j]=none:=by
 have z:je (zT p m w wd T)=some (.T,[.int p,.tup (zz (m+1) λk=>(wd k:Int)),.tup (jS m w wd T)]):=rfl;have I:=ve ((m:Int)+1) i;have O:=ve ((m:Int)+1) j;have b1:(0:Int)<=i:=by omega
 have b2:(i:Int)<(m:Int)+1:=by omega
 have b3:(0:Int)<=j:=by omega
 have b4:(j:Int)<(m:Int)+1:=by omega
 have b5 : ¬((j:Int)<(i:Int)):=by omega
 simp only [b1,b2,b3,b4,decide_true,Bool.and_self]at I O;have b6 : ¬(j<i):=by omega
 have S:F_ask_rooms [zT p m w wd T,.int i,.int j]=some (.val .non):=by
  simp [F_ask_rooms,ja,zP,zR,z,I,O,b5,b6,zi5]
 have U:k8 [zT p m w wd T,.int i,.int j]=none:=by
  simp [k8,QC,zP,zcr,xNo,xIf,z,I,O,b5,b6,zi5]
 refine⟨?_,?_⟩
 ·simp [F_cut,ja,zP,zR,z,S,zi5,zf1 h1 h2,zch h1 h2]
  simp [zhN,zT]
 ·simp [zgh,QC,zP,yc,U]
end
section
variable{p:Int}
def xp(h w:Nat)(f:Nat->Nat->Int):List D:=(zi2 h).map λi=>D.lst (zz w (f i))
@[simp] theorem zfX(h w f):(xp h w f).length=h:=by simp [xp]
end
theorem zw{f g:Nat->Int} : ∀{n:Nat},(∀k,k<n->f k=g k)->sumTo f n=sumTo g n
 | 0,_=>rfl
 | n+1,h=>by
  simp only [sumTo];rw [zw (n:=n) λk z=>h k ⋯,h n ⋯]
theorem zF(n:Nat):sumTo (λ_=>0) n=0:=by
 induction n with
 | zero=>rfl
 | succ n z=>simp [sumTo,z]
theorem jm{f:Nat->Int}{n i:Nat}(hi:i<n)(h : ∀k,k<n->k≠i->f k=0):sumTo f n=f i:=by
 induction n with
 | zero=>omega
 | succ n z=>
  simp only [sumTo];by_cases e:i=n
  ·subst e
   rw [zw (g:=λ_=>0) (λk I=>h k ⋯ ⋯),zF];omega
  ·rw [z ⋯ λk I=>h k ⋯,h n ⋯ ⋯]
   omega
theorem jO(f g:Nat->Int)(n:Nat):sumTo (λk=>f k+g k) n=sumTo f n+sumTo g n:=by
 induction n with
 | zero=>rfl
 | succ n z=>simp only [sumTo,z];omega
theorem kr(f:Nat->Int)(c:Int)(n:Nat):sumTo (λk=>f k*c) n=sumTo f n*c:=by
 induction n with
 | zero=>simp [sumTo]
 | succ n z=>simp only [sumTo,z,Int.add_mul]
theorem jW(f:Nat->Int)(c:Int)(n:Nat):sumTo (λk=>c*f k) n=c*sumTo f n:=by
 induction n with
 | zero=>simp [sumTo]
 | succ n z=>simp only [sumTo,z,zmb]
theorem kq(f:Nat->Nat->Int)(n m:Nat):sumTo (λi=>sumTo (λj=>f i j) m) n=sumTo (λj=>sumTo (λi=>f i j) n) m:=by
 induction n with
 | zero=>simp [sumTo,zF]
 | succ n z=>simp only [sumTo];rw [z,<- jO]
theorem z7{p:Int}{f g:Nat->Int} : ∀{n:Nat},(∀k,k<n->f k%p=g k%p)->sumTo f n%p=sumTo g n%p
 | 0,_=>rfl
 | n+1,h=>by
  simp only [sumTo];rw [zjD,z7 (n:=n) (λk z=>h k ⋯),h n ⋯,<- zjD]
theorem Vy(p x y:Int):(x*(y%p))%p=(x*y)%p:=by rw [zjf,zjL,<- zjf]
abbrev Vc:=Nat->Int
def Pr(p:Int):Prop:=p=2\/p=3\/p=5\/p=7
theorem Pr.pos{p:Int}(h:Pr p):0<p:=by unfold Pr at h;omega
theorem Pr.two{p:Int}(h:Pr p):2<=p:=by unfold Pr at h;omega
theorem Pr.le{p:Int}(h:Pr p):p<=7:=by unfold Pr at h;omega
theorem Pr.one{p:Int}(h:Pr p):(1:Int)%p=1:=zkx ⋯ (by have:=h.two;omega)
inductive Span(p:Int)(n:Nat)(G:Vc->Prop):Vc->Prop where
 | zero {v:Vc}:(∀i,i<n->v i%p=0)->Span p n G v
 | step {v w g:Vc} {c:Int}:G g->Span p n G w->(∀i,i<n->v i%p=(w i+c*g i)%p)->Span p n G v
section
variable{p:Int}{n:Nat}{G G':Vc->Prop}
theorem Span.congr{v z:Vc}(h:Span p n G v)(e : ∀i,i<n->z i%p=v i%p):Span p n G z:=by
 cases h with
 | zero h=>exact .zero λi hi=>by rw [e i hi,h i hi]
 | step I hw h=>exact .step I hw λi hi=>by rw [e i hi,h i hi]
theorem Span.gen{g:Vc}(h:G g):Span p n G g:= .step (c:=1) h (.zero (v:=λ_=>0) λi _=>by simp) λi _=>by simp
theorem Span.add{v w:Vc}(I:Span p n G v)(hw:Span p n G w) : ∀c:Int,Span p n G λi=>w i+c*v i:=by
 induction I with
 | zero h=>
  intro c;refine hw.congr λi hi=>?_;rw [zjD,zjf,h i hi];simp
 | @step v w' g z O U h S=>
  intro c;refine .step (c:=c*z) O (S c) λi hi=>?_;have e:(c*v i)%p=(c*(w' i+z*g i))%p:=by rw [zjf,h i hi,<- zjf]
  rw [zjD,e,<- zjD];congr 1;rw [zmb,<- zk7,Int.add_assoc]
theorem Span.smul{v:Vc}(z:Span p n G v)(c:Int):Span p n G λi=>c*v i:=
 (z.add (w:=λ_=>0) (.zero λi _=>by simp) c).congr λi _=>by simp
theorem Span.le{v:Vc}(h:Span p n G v)(z : ∀g,G g->Span p n G' g):Span p n G' v:=by
 induction h with
 | zero h=>exact .zero h
 | step I hw h O=>exact((z _ I).add O _).congr h
end
structure IsB(p:Int)(n r:Nat)(B:Nat->Vc)(l:Nat->Nat):Prop where
 lt : ∀k,k<r->l k<n
 mono : ∀k m,k<m->m<r->l k<l m
 one : ∀k,k<r->B k (l k)=1
 bef : ∀k j,k<r->j<l k->B k j=0
 oth : ∀k m,k<r->m<r->m≠k->B k (l m)=0
 rng : ∀k i,k<r->i<n->0<=B k i/\B k i<p
def Fam(r:Nat)(B:Nat->Vc):Vc->Prop:=λv=>∃k,k<r/\v=B k
section
variable{p:Int}{n r r':Nat}{B B':Nat->Vc}{l l':Nat->Nat}
theorem vj(I:IsB p n r B l){v:Vc}(h:Span p n (Fam r B) v) : ∀i,i<n->v i%p=sumTo (λk=>v (l k)*B k i) r%p:=by
 induction h with
 | @zero v h=>
  intro i hi;rw [h i hi];have:sumTo (λk=>v (l k)*B k i) r%p=sumTo (λ_=>0) r%p:=z7 λk z=>by rw [zjf,h _ (I.lt k z)];simp
  rw [this,zF];rfl
 | @step v w g c O hw h S=>
  intro i hi;obtain⟨m,hm,rfl⟩:=O;rw [h i hi];have e1:sumTo (λk=>v (l k)*B k i) r%p=sumTo (λk=>w (l k)*B k i+c*B m (l k)*B k i) r%p:=z7 λk z=>by
   rw [zjf,h _ (I.lt k z),<- zjf,Int.add_mul]
  have U:sumTo (λk=>c*B m (l k)*B k i) r=c*B m i:=by
   rw [jm (i:=m) hm λk z Y=>by rw [I.oth m k hm z Y];simp,I.one m hm];simp
  rw [e1,jO,U,zjD,S i hi,<- zjD]
theorem QU(z:IsB p n r B l){v:Vc}(h:Span p n (Fam r B) v){j:Nat}(O:j<n)(h0:v j%p≠0)(S : ∀i,i<j->v i%p=0) : ∃k,k<r/\l k=j:=by
 apply zka;intro U;apply h0;rw [vj z h j O];have:sumTo (λk=>v (l k)*B k j) r%p=sumTo (λ_=>0) r%p:=z7 λk I=>by
  have Y:l k≠j:=λe=>U ⟨k,I,e⟩;rcases zjl (l k) j with q | q
  ·rw [zjf,S _ q];simp
  ·rw [z.bef k j I ⋯];simp
 rw [this,zF];rfl
theorem X1(O : ∀k m,k<m->m<r->l k<l m)(S : ∀k m,k<m->m<r'->l' k<l' m)(s1 : ∀k,k<r->∃m,m<r'/\l' m=l k)(s2 : ∀k,k<r'->∃m,m<r/\l m=l' k) :
 ∀k,k<r->k<r'/\l k=l' k:=by
 intro k
 induction k using Nat.strongRecOn with
 | ind k U=>
  intro Y;obtain⟨m,hm,Z⟩:=s1 k Y;have a1:k<=m:=by
   rcases zjl m k with q | q
   ·have:=(U m q ⋯).2
    have:=O m k q Y;omega
   ·exact q
  have I:k<r':=by omega
  refine⟨I,?_⟩;obtain⟨q,hq,eq⟩:=s2 k I;have a3:k<=q:=by
   rcases zjl q k with z | z
   ·have:=(U q z ⋯).2
    have:=S q k z I;omega
   ·exact z
  rcases zjl k m with z | z
  ·have h1:=S k m z hm
   have h2:l k<=l q:=by
    rcases zjl k q with y | y
    ·exact zmp (O k q y hq)
    ·have:k=q:=by omega
     subst this;exact zjb _
   omega
  ·have:m=k:=by omega
   subst this;exact Z.symm
theorem Qk(Y:Pr p)(I:IsB p n r B l)(O:IsB p n r' B' l')(h1 : ∀v,Span p n (Fam r B) v->Span p n (Fam r' B') v)(h2 : ∀v,Span p n (Fam r' B') v->Span p n (Fam r B) v) :
 r=r'/\(∀k,k<r->l k=l' k)/\∀k i,k<r->i<n->B k i=B' k i:=by
 have one:=Y.one;have s1 : ∀k,k<r->∃m,m<r'/\l' m=l k:=λk z=>QU O (h1 _ (.gen ⟨k,z,rfl⟩)) (I.lt k z) (by rw [I.one k z,one];decide) λi hi=>by rw [I.bef k i z hi];simp
 have s2 : ∀k,k<r'->∃m,m<r/\l m=l' k:=λk z=>QU I (h2 _ (.gen ⟨k,z,rfl⟩)) (O.lt k z) (by rw [O.one k z,one];decide) λi hi=>by rw [O.bef k i z hi];simp
 have e1:=X1 I.mono O.mono s1 s2;have Z:=X1 O.mono I.mono s2 s1;have er:r=r':=by
  rcases zlu r r' with q | q | q
  ·exact absurd (Z r q).1 (zjP _)
  ·exact q
  ·exact absurd (e1 r' q).1 (zjP _)
 subst er;refine⟨rfl,λk z=>(e1 k z).2,λk i z hi=>?_⟩;have c:=vj O (h1 _ (.gen ⟨k,z,rfl⟩)) i hi;rw [jm (i:=k) z λm hm a1=>by rw [<- (e1 m hm).2,I.oth k m z hm a1];simp,<- (e1 k z).2,I.one k z,Int.one_mul]at c;have S:=I.rng k i z hi;have U:=O.rng k i z hi;rw [zkx S.1 S.2,zkx U.1 U.2]at c;exact c
end
theorem ji{α:Type}{T:Tg}{k:CO Bool}{f:CO D}{γ:Ctx}{g:α->D}(q:α->Bool)(r:α->D) : ∀(l:List α),(∀x∈l,∃γ1,qe T (g x) γ=some γ1/\k γ1=some (q x)/\(q x=true->f γ1=some (r x)))->
 zL T k f γ (l.map g)=some ((l.filter q).map r)
 | [],_=>rfl
 | x::l,h=>by
  obtain⟨γ1,h1,h2,I⟩:=h x zju;have z:=ji q r l λy O=>h y (zjk _ O);simp only [zjw,zL,h1,h2,zi7];cases e:q x with
  | true=>simp [I e,z,e]
  | false=>simp [z,e]
theorem zfR{p x:Int}(z:Pr p)(h0:0<x)(h1:x<p) : ∃y:Nat,1<=y/\(y:Int)<p/\(y:Int)*x%p=1:=by
 rcases z with rfl | rfl | rfl | rfl
 ·obtain rfl:x=1:=by omega
  exact⟨1,by decide,by decide,by decide⟩
 ·rcases (show x=1\/x=2 by omega)with rfl | rfl
  ·exact⟨1,by decide,by decide,by decide⟩
  ·exact⟨2,by decide,by decide,by decide⟩
 ·rcases (show x=1\/x=2\/x=3\/x=4 by omega)with rfl | rfl | rfl | rfl
  ·exact⟨1,by decide,by decide,by decide⟩
  ·exact⟨3,by decide,by decide,by decide⟩
  ·exact⟨2,by decide,by decide,by decide⟩
  ·exact⟨4,by decide,by decide,by decide⟩
 ·rcases (show x=1\/x=2\/x=3\/x=4\/x=5\/x=6 by omega)with rfl | rfl | rfl | rfl | rfl | rfl
  ·exact⟨1,by decide,by decide,by decide⟩
  ·exact⟨4,by decide,by decide,by decide⟩
  ·exact⟨5,by decide,by decide,by decide⟩
  ·exact⟨2,by decide,by decide,by decide⟩
  ·exact⟨3,by decide,by decide,by decide⟩
  ·exact⟨6,by decide,by decide,by decide⟩
theorem xY{q:Nat->Bool}{n a:Nat}{rest:List Nat}(h:(zi2 n).filter q=a::rest):a<n/\q a=true/\∀i,i<a->q i=false:=by
 have hm:a∈(zi2 n).filter q:=by rw [h];exact zju
 refine⟨zi6.mp (zjz.mp hm).1,(zjz.mp hm).2,λi hi=>?_⟩;apply zka;intro z;have I:q i=true:=by simpa using z
 have O:i∈a::rest:=by rw [<- h];exact zjz.mpr ⟨zi6.mpr (by have:=zi6.mp (zjz.mp hm).1;omega),I⟩
 have S:(a::rest).Pairwise (· < ·):=by rw [<- h];exact zl1 _ zlp
 rcases zjm.mp O with e | e
 ·omega
 ·have:=(List.pairwise_cons.mp S).1 i e;omega
theorem we{q:Nat->Bool}{n:Nat}(h:(zi2 n).filter q=[]) : ∀i,i<n->q i=false:=λi hi=>by
 apply zka;intro z;have:i∈(zi2 n).filter q:=zjz.mpr ⟨zi6.mpr hi,by simpa using z⟩;rw [h]at this;simp at this
theorem Qr{p x:Int}(z:Pr p)(h0:0<x)(h1:x<p) : ∃y,F_inverse [.int p,.int x]=some (.val (.int y))/\1<=y/\y<p/\x*y%p=1:=by
 rcases z with rfl | rfl | rfl | rfl
 ·have:x=1:=by omega
  subst this;exact⟨1,rfl,by decide,by decide,by decide⟩
 ·have:x=1\/x=2:=by omega
  rcases this with rfl | rfl
  ·exact⟨1,rfl,by decide,by decide,by decide⟩
  ·exact⟨2,rfl,by decide,by decide,by decide⟩
 ·have:x=1\/x=2\/x=3\/x=4:=by omega
  rcases this with rfl | rfl | rfl | rfl
  ·exact⟨1,rfl,by decide,by decide,by decide⟩
  ·exact⟨3,rfl,by decide,by decide,by decide⟩
  ·exact⟨2,rfl,by decide,by decide,by decide⟩
  ·exact⟨4,rfl,by decide,by decide,by decide⟩
 ·have:x=1\/x=2\/x=3\/x=4\/x=5\/x=6:=by omega
  rcases this with rfl | rfl | rfl | rfl | rfl | rfl
  ·exact⟨1,rfl,by decide,by decide,by decide⟩
  ·exact⟨4,rfl,by decide,by decide,by decide⟩
  ·exact⟨5,rfl,by decide,by decide,by decide⟩
  ·exact⟨2,rfl,by decide,by decide,by decide⟩
  ·exact⟨3,rfl,by decide,by decide,by decide⟩
  ·exact⟨6,rfl,by decide,by decide,by decide⟩
theorem vf{p:Int}(I:Pr p){n t:Nat}(hn:n<=lim)(z:t<n)(w P:Nat->Int)(hw : ∀i,i<n->0<=w i/\w i<p) :
 F_cleared [.int p,.tup (zz n w),.tup (zz n P),.int t]=some (.val (.tup (zz n λi=>(w i - w t*P i)%p))):=by
 have S:=hw t z;have U:=I.le;have O : ∀x,Zu (w t) x=true:=λx=>ke _ _ ⋯ ⋯;by_cases h0:w t=0
 ·simp [F_cleared,ja,zP,zR,z,h0]
  apply kE;intro i hi;rw [zkx (hw i hi).1 (hw i hi).2]
 ·simp [F_cleared,ja,zP,zR,z,h0,yb,hn,jd,qx,zi5]
  rw [zo (r:=λi=>D.int (w i - w t*P i))]
  ·rw [<- z6]
   simp [wG _ I.pos hn]
  ·intro i hi
   refine zq rfl rfl ?_;simp [O]
theorem QN{l:Nat->Nat}{r t:Nat}(hm : ∀k m,k<m->m<r->l k<l m)(z : ∀k,k<r->l k<t):r<=t:=by
 have I : ∀k,k<r->k<=l k:=by
  intro k
  induction k with
  | zero=>intro _;exact zkK _
  | succ k O=>
   intro S;have h1:=O ⋯;have h2:=hm k (k+1) ⋯ S;omega
 cases r with
 | zero=>exact zkK _
 | succ r=>
  have h1:=I r ⋯;have h2:=z r ⋯;omega
def vF:CO Fl:=(zI (zU 6 (jp (zD (zG (zf 3)) (.nm 0) 1 [5] (sB (zv dNe (sIx (zf 0) (zc 1)) (zh (.int 0)))) (zc 0)))) (zI (sIf (qk (zac (zf 6))) zaf j9) (zI (zU 7 (zn F_inverse (za (zc 0) (za (sIx (zC (sIx (zf 6) (zh (.int 0)))) (zc 5)) zu)))) (zI (zU 8 (zn F_rests (za (zc 0) (za (jp (zD (zG (zC (sIx (zf 6) (zh (.int 0))))) (.nm 0) 1 [7] jb (zv qV (zc 1) (zc 0)))) zu)))) (zI (zU 3 (jp (zD (zG (zf 3)) (.nm 0) 1 [0,5,8] jb (zn F_cleared (za (zc 1) (za (zc 0) (za (zc 3) (za (zc 2) zu)))))))) (xm 4 (yj (jy (zD (zG (zf 4)) (.nm 0) 1 [0,5,8] jb (zn F_cleared (za (zc 1) (za (zc 0) (za (zc 3) (za (zc 2) zu))))))) (jy (qB (za (zc 8) zu))))))))))
def Un(r:Nat)(B:Nat->Vc)(m:Nat)(W:Nat->Vc):Vc->Prop:=λv=>Fam r B v\/Fam m W v
structure BInv(p:Int)(n m:Nat)(W:Nat->Vc)(t r:Nat)(B:Nat->Vc)(l:Nat->Nat)(Wt:Nat->Vc):Prop where
 rng : ∀j i,j<m->i<n->0<=Wt j i/\Wt j i<p
 zer : ∀j i,j<m->i<t->Wt j i=0
 isb:IsB p n r B l
 lt : ∀k,k<r->l k<t
 span : ∀v,Span p n (Un r B m Wt) v↔Span p n (Fam m W) v
section
variable{p:Int}{n m:Nat}{W:Nat->Vc}{t r:Nat}{B:Nat->Vc}{l:Nat->Nat}{Wt:Nat->Vc}
theorem BInv.skip(h:BInv p n m W t r B l Wt)(I : ∀j,j<m->Wt j t=0):BInv p n m W (t+1) r B l Wt:=
 ⟨h.rng,λj i z hi=>by
  rcases zjl i t with q | q
  ·exact h.zer j i z q
  ·have:i=t:=by omega
   subst this;exact I j z,h.isb,λk O=>zkc (h.lt k O),h.span⟩
def clr(p:Int)(P:Vc)(t:Nat)(w:Vc):Vc:=λi=>(w i - w t*P i)%p
def K0(p:Int)(P:Vc)(t r:Nat)(B:Nat->Vc):Nat->Vc:=λk=>if k<r then clr p P t (B k)else P
def zb9(t r:Nat)(l:Nat->Nat):Nat->Nat:=λk=>if k<r then l k else t
theorem vD{G:Vc->Prop}{P w:Vc}(z:Span p n G P)(hw:Span p n G w):Span p n G (clr p P t w):=
 (z.add hw (-(w t))).congr λi _=>by unfold clr;rw [zjL];congr 1;rw [Int.neg_mul];omega
theorem Xs{G:Vc->Prop}{P w:Vc}(z:Span p n G P)(hw:Span p n G (clr p P t w)):Span p n G w:=
 (z.add hw (w t)).congr λi _=>by
   unfold clr;rw [zjD,zjL,<- zjD];congr 1;omega
theorem BInv.next(hp:Pr p)(h:BInv p n m W t r B l Wt)(ht:t<n){S:Nat}(a6:S<m){y:Int}(hy:Wt S t*y%p=1){P:Vc}(U : ∀i,i<n->P i=y*Wt S i%p) :
 BInv p n m W (t+1) (r+1) (K0 p P t r B) (zb9 t r l) (λj=>clr p P t (Wt j)):=by
 have p0:=hp.pos;have one:=hp.one;have Pt:P t=1:=by rw [U t ht,zkY];exact hy
 have Pz : ∀i,i<t->P i=0:=λi hi=>by rw [U i ⋯,h.zer S i a6 hi];simp
 have ac : ∀i,i<n->0<=P i/\P i<p:=λi hi=>by rw [U i hi];exact⟨zj0 _ ⋯,zjJ _ p0⟩
 have cr : ∀(w:Vc) i,0<=clr p P t w i/\clr p P t w i<p:=λw i=>⟨zj0 _ ⋯,zjJ _ p0⟩;have Y : ∀(w:Vc) i,i<t->0<=w i->w i<p->clr p P t w i=w i:=λw i hi h1 h2=>by
  unfold clr;rw [Pz i hi,zmZ,Int.sub_zero];exact zkx h1 h2
 have ct : ∀w:Vc,clr p P t w t=0:=λw=>by unfold clr;rw [Pt,Int.mul_one,Int.sub_self];simp
 refine⟨λj i O hi=>cr _ _,λj i O hi=>?_,⟨λk I=>?_,λk q ad hq=>?_,λk I=>?_,λk j I O=>?_,λk q I hq af=>?_,λk i I hi=>?_⟩,λk I=>?_,λv=>?_⟩
 ·rcases zjl i t with q | q
  ·have e:=h.zer j i O q
   rw [Y _ i q ⋯ ⋯];exact e
  ·have:i=t:=by omega
   subst this;exact ct _
 ·unfold zb9;split
  ·rename_i q;exact h.isb.lt k q
  ·exact ht
 ·unfold zb9
  have I:k<r:=by omega
  rw [if_pos I];split
  ·rename_i z;exact h.isb.mono k q ad z
  ·exact h.lt k I
 ·unfold zb9 K0;split
  ·rename_i q
   have e:=h.isb.one k q;have Z:=h.lt k q;rw [Y _ _ Z ⋯ (by have:=hp.two;omega)];exact e
  ·exact Pt
 ·unfold K0;unfold zb9 at O;split at O
  ·rename_i q
   have e:=h.isb.bef k j q O;have Z:=h.lt k q;rw [if_pos q,Y _ _ ⋯ ⋯ ⋯];exact e
  ·rename_i q
   rw [if_neg q];exact Pz j O
 ·unfold K0 zb9
  by_cases z1:k<r
  ·rw [if_pos z1]
   by_cases z2:q<r
   ·rw [if_pos z2]
    have e:=h.isb.oth k q z1 z2 af;have Z:=h.lt q z2;rw [Y _ _ Z ⋯ ⋯];exact e
   ·rw [if_neg z2];exact ct _
  ·rw [if_neg z1]
   have z2:q<r:=by omega
   rw [if_pos z2];exact Pz _ (h.lt q z2)
 ·unfold K0;split
  ·exact cr _ _
  ·exact ac i hi
 ·unfold zb9;split
  ·rename_i q;exact zkc (h.lt k q)
  ·exact zkr _
 ·rw [<- h.span v]
  have a2:Span p n (Un r B m Wt) P:=((Span.gen (p:=p) (n:=n) (G:=Un r B m Wt) (g:=Wt S) (.inr ⟨S,a6,rfl⟩)).smul y).congr λi hi=>by rw [U i hi,zjL]
  have aa:Span p n (Un (r+1) (K0 p P t r B) m λj=>clr p P t (Wt j)) P:= .gen (.inl ⟨r,zkr r,by unfold K0;rw [if_neg (zjP r)]⟩);constructor
  ·refine λhv=>hv.le λg hg=>?_
   rcases hg with⟨k,I,rfl⟩ | ⟨j,O,rfl⟩
   ·unfold K0;split
    ·rename_i q;exact vD a2 (.gen (.inl ⟨k,q,rfl⟩))
    ·exact a2
   ·exact vD a2 (.gen (.inr ⟨j,O,rfl⟩))
  ·refine λhv=>hv.le λg hg=>?_
   rcases hg with⟨k,I,rfl⟩ | ⟨j,O,rfl⟩
   ·refine Xs (t:=t) aa (.gen (.inl ⟨k,zkc I,?_⟩))
    unfold K0;rw [if_pos I]
   ·exact Xs (t:=t) aa (.gen (.inr ⟨j,O,rfl⟩))
theorem BInv.done(h:BInv p n m W n r B l Wt)(v:Vc):Span p n (Fam r B) v↔Span p n (Fam m W) v:=by
 rw [<- h.span v];constructor
 ·exact λI=>I.le λg z=> .gen (.inl z)
 ·refine λI=>I.le λg z=>?_
  rcases z with z | ⟨j,O,rfl⟩
  ·exact .gen z
  ·exact .zero λi hi=>by rw [h.zer j i O hi];simp
theorem Wb(I:True)(P:Vc):zN (r+1) n (K0 p P t r B)=zN r n (λk=>clr p P t (B k))++[.tup (zz n P)]:=by
 unfold zN;rw [zkh,zjT];congr 1
 ·apply zjg
  intro k z;have:=zi6.mp z;simp [K0,this]
 ·simp [K0]
end
theorem qb{p:Int}(Y:Pr p){n m:Nat}(hn:n<=100)(hm:m<=lim)(kk:Sk)(W:Nat->Vc) :
 ∃r B l,F_base_of [.int p,.int n,dsq kk (zN m n W)]=some (.own (zN r n B))/\IsB p n r B l/\∀v,Span p n (Fam r B) v↔Span p n (Fam m W) v:=by
 have hl:=z9;have Z:n<=lim:=by omega
 have p0:=Y.pos;have a7:=xX (T:= .nm 5) (F:=vF)
  (λt γ=>∃r B l Wt c5 c6 c7 c8,γ=[.val (.int p),.val (.int n),.val (dsq kk (zN m n W)),.val (.lst (zN m n Wt)),.own (zN r n B),c5,c6,c7,c8]/\BInv p n m W t r B l Wt)
  ((zi2 n).map λ(i:Nat)=>D.int i) 0 [.val (.int p),.val (.int n),.val (dsq kk (zN m n W)),.val (.lst (zN m n λj i=>W j i%p)),.own [],.no,.no,.no,.no]
  ⟨0,λ_ _=>0,λ_=>0,λj i=>W j i%p,.no,.no,.no,.no,rfl,λj i _ _=>⟨zj0 _ ⋯,zjJ _ p0⟩,λj i _ hi=>absurd hi (zjA _),
   ⟨λk I=>absurd I (zjA _),λk q _ I=>absurd I (zjA _),λk I=>absurd I (zjA _),λk j I=>absurd I (zjA _),λk q I=>absurd I (zjA _),λk i I=>absurd I (zjA _)⟩,
   λk I=>absurd I (zjA _),λv=>⟨λhv=>hv.le λg hg=>by
    rcases hg with⟨k,I,_⟩ | ⟨j,S,rfl⟩
    ·exact absurd I (zjA _)
    ·exact(Span.gen (p:=p) (n:=n) (G:=Fam m W) (g:=W j) ⟨j,S,rfl⟩).congr λi _=>zjL _ _,λhv=>hv.le λg hg=>by
    obtain⟨j,S,rfl⟩:=hg;exact(Span.gen (p:=p) (n:=n) (G:=Un 0 (λ_ _=>0) m λj i=>W j i%p) (g:=λi=>W j i%p) (.inr ⟨j,S,rfl⟩)).congr λi _=>(zjL _ _).symm⟩⟩ (by
   rintro t d γ hd ⟨r,B,l,Wt,c5,c6,c7,c8,rfl,O⟩;rw [zki]at O ⊢;have U:t<n:=by have:=(zjp.mp hd).1;simpa using this
   have a8:d = .int t:=by simp [U]at hd;exact hd.symm
   subst a8;have a0:zL (.nm 0) (sB (zv dNe (sIx (zf 0) (zc 1)) (zh (.int 0)))) (zc 0) [Cell.no,Cell.val (.int t)] (zN m n Wt)=some (((zi2 m).filter λj=> !decide (Wt j t=0)).map λj=>D.tup (zz n (Wt j))):=by
    unfold zN;refine ji _ _ _ λj S=>⟨_,rfl,?_,λ_=>rfl⟩;simp [U]
   have hr:r<=t:=QN O.isb.mono O.lt;have a9:r<=lim:=by omega
   cases hf:(zi2 m).filter λj=> !decide (Wt j t=0)with
   | nil=>
    have hz : ∀j,j<m->Wt j t=0:=λj S=>by
     apply zka;intro a4;have:j∈(zi2 m).filter λj=> !decide (Wt j t=0):=zjz.mpr ⟨zi6.mpr S,by simp [a4]⟩;rw [hf]at this;simp at this
    rw [hf]at a0;refine⟨_,.inr ?_,r,B,l,Wt,.val (.int t),.val (.lst []),c7,c8,rfl,O.skip hz⟩;simp only [kF,zi7,zjI,zjH,vF];rw [zR];simp [zR,jd,qx,zi5,a0,hm]
   | cons z rest=>
    have a5:z∈(zi2 m).filter λj=> !decide (Wt j t=0):=by rw [hf];exact zju
    have a6:z<m:=zi6.mp (zjz.mp a5).1;have a4:Wt z t≠0:=by simpa using (zjz.mp a5).2
    have ab:=O.rng z t a6 U;obtain⟨y,ey,y1,y2,yy⟩:=Qr Y (x:=Wt z t) ⋯ ab.2;rw [hf]at a0;have nx:=O.next Y U a6 yy (P:=λi=>y*Wt z i%p) λi _=>rfl;refine⟨_,.inl ?_,r+1,K0 p (λi=>y*Wt z i%p) t r B,zb9 t r l,λj=>clr p (λi=>y*Wt z i%p) t (Wt j),.val (.int t),.val (.lst ((z::rest).map λj=>D.tup (zz n (Wt j)))),.val (.int y),.val (.tup (zz n λi=>y*Wt z i%p)),rfl,nx⟩;have ap:=Y.le;have cy : ∀x,Zu y x=true:=λx=>ke _ _ ⋯ ⋯;have af:zL (.nm 0) jb (zv qV (zc 1) (zc 0)) [Cell.no,Cell.val (.int y)] (zz n (Wt z))=some (zz n λi=>y*Wt z i):=by
     rw [z6,z6];refine zo _ _ λi hi=>zq rfl rfl ?_;simp [cy]
    have ag:zL (.nm 0) jb (zn F_cleared (za (zc 1) (za (zc 0) (za (zc 3) (za (zc 2) zu))))) [Cell.no,Cell.val (.int p),Cell.val (.int t),Cell.val (.tup (zz n λi=>y*Wt z i%p))] (zN m n Wt)=some (zN m n λj=>clr p (λi=>y*Wt z i%p) t (Wt j)):=by
     unfold zN;refine zo _ _ λj S=>zq rfl rfl ?_;simp [vf Y Z U (Wt j) (λi=>y*Wt z i%p) λi hi=>O.rng j i (zi6.mp S) hi];rfl
    have ah:zL (.nm 0) jb (zn F_cleared (za (zc 1) (za (zc 0) (za (zc 3) (za (zc 2) zu))))) [Cell.no,Cell.val (.int p),Cell.val (.int t),Cell.val (.tup (zz n λi=>y*Wt z i%p))] (zN r n B)=some (zN r n λj=>clr p (λi=>y*Wt z i%p) t (B j)):=by
     unfold zN;refine zo _ _ λj S=>zq rfl rfl ?_;simp [vf Y Z U (B j) (λi=>y*Wt z i%p) λi hi=>O.isb.rng j i (zi6.mp S) hi];rfl
    have ai:r+1<=lim:=by omega
    rw [Wb trivial];simp only [kF,zi7,zjI,zjH,vF];rw [zR];simp [zR,jd,qx,zi5,a0,hm,Z,U,ey,af,wG _ p0 Z,ag,ah,a9,ai])
 obtain⟨γ',e1,r,B,l,Wt,c5,c6,c7,c8,rfl,O⟩:=a7;simp only [zjh,zkU,zki]at O;refine⟨r,B,l,?_,O.isb,O.done⟩;have aj:zL (.nm 0) jb (zn F_rests (za (zc 1) (za (zc 0) zu))) [Cell.no,Cell.val (.int p)] (zN m n W)=some (zN m n λj i=>W j i%p):=by
  unfold zN;refine zo _ _ λj S=>zq rfl rfl ?_;simp [WM _ p0 Z]
 have e0:F_base_of [.int p,.int n,dsq kk (zN m n W)]=ja 9 (zI (zU 3 (jp (zD (zG (zf 2)) (.nm 0) 1 [0] jb (zn F_rests (za (zc 1) (za (zc 0) zu)))))) (zI (xm 4 (qB zu)) (zI (yX (zX (zc 1)) (.nm 5) vF) (k5 4)))) [.int p,.int n,dsq kk (zN m n W)]:=rfl;rw [e0];simp [ja,zP,zR,hm,jd,qx,zi5,aj,Z,jD];rw [z6 n λi=>(i:Int),e1];simp
@[simp] theorem zga(γ:Ctx)(f):Qw f γ=(f γ).bind λa=>match a.1 with
 | .L=>W8 a.2
 | _=>none:=rfl
def kM(n r:Nat)(B:Nat->Vc)(l:Nat->Nat):List D:=(zi2 r).map λk=>D.tup [.int (l k),.lst (zz n (B k))]
@[simp] theorem Ka(n r B l):(kM n r B l).length=r:=by simp [kM]
def kX{α:Type}(q:Nat)(x:α)(f:Nat->α):Nat->α:=λk=>if k<q then f k else if k=q then x else f (k - 1)
theorem VI(n:Nat)(B:Nat->Vc)(l:Nat->Nat)(ks:List Nat):wS (ks.map λk=>D.tup [.int (l k),.lst (zz n (B k))])=some (ks.map λk=>(l k:Int)):=by
 induction ks with
 | nil=>rfl
 | cons k ks z=>simp [wS,zgB,z]
theorem X2 : ∀(ds:List D) (e:D) (k:Int) (z:List Int),wS ds=some z->zgB e=some k->wS (ds++[e])=some (z++[k])
 | [],e,k,z,h,he=>by cases h;simp [wS,he]
 | d::ds,e,k,z,h,he=>by
  simp only [wS]at h;cases e1:zgB d with
  | none=>rw [e1]at h;simp at h
  | some a=>
   rw [e1]at h;cases e2:wS ds with
   | none=>rw [e2]at h;simp at h
   | some r=>
    rw [e2]at h;simp at h;subst h;simp [wS,e1,X2 ds e k r e2 he]
theorem Ql{l:Nat->Nat} : ∀(m a:Nat),(∀k,a<=k->k+1<a+m->l k<l (k+1))->zf9 ((zkn a m).map λk=>(l k:Int))=true
 | 0,a,_=>rfl
 | 1,a,_=>rfl
 | m+2,a,h=>by
  rw [zkj,zjw];have e:zkn (a+1) (m+1)=(a+1)::zkn (a+1+1) m:=zkj ..;rw [e,zjw];simp only [zf9];have h1:l a<l (a+1):=h a (zjb _) ⋯;rw [Bool.and_eq_true];refine⟨decide_eq_true ⋯,?_⟩;have:=Ql (m+1) (a+1) λk z I=>h k ⋯ ⋯;rw [e,zjw]at this;exact this
def yu(l:Nat->Nat)(r x:Nat):Nat:=((zi2 r).filter λk=>decide (l k<x)).length
theorem vC{l:Nat->Nat}{x:Nat} : ∀{r:Nat},(∀k m,k<m->m<r->l k<l m)->(∀k,k<r->l k≠x)->yu l r x<=r/\(∀k,k<yu l r x->l k<x)/\∀k,yu l r x<=k->k<r->x<l k
 | 0,_,_=>⟨zjb _,λk I=>absurd I (by simp [yu]),λk _ I=>absurd I (zjA _)⟩
 | r+1,hm,hne=>by
  obtain⟨h1,h2,O⟩:=vC (r:=r) (x:=x) (λk m a b=>hm k m a ⋯) λk I=>hne k ⋯;have e:yu l (r+1) x=yu l r x+if l r<x then 1 else 0:=by
   unfold yu;rw [zkh,zlO,zjY];by_cases q:l r<x<;>simp [q]
  by_cases q:l r<x
  ·rw [e,if_pos q]
   have S:yu l r x=r:=by
    rcases zjl (yu l r x) r with z | z
    ·have U:=O (yu l r x) (zjb _) z
     have Y:=hm (yu l r x) r z (zkr r);omega
    ·omega
   rw [S];refine⟨zjb _,λk I=>?_,λk a b=>absurd b ⋯⟩;rcases zjl k r with z | z
   ·exact h2 k ⋯
   ·have:k=r:=by omega
    subst this;exact q
  ·rw [e,if_neg q,zmq]
   refine⟨by omega,h2,λk a b=>?_⟩;rcases zjl k r with z | z
   ·exact O k a z
   ·have:k=r:=by omega
    subst this;have:=hne k b;omega
theorem VU{α:Type}(f:Nat->α)(x:α){q r:Nat}(Y:q<=r):((zi2 r).map f).take q++(x::((zi2 r).map f).drop q)=(zi2 (r+1)).map (kX q x f):=by
 apply zl3;intro i;have I:(((zi2 r).map f).take q).length=q:=by simp;omega
 have S : ∀k,((zi2 (r+1)).map (kX q x f))[k]? = if k<r+1 then some (kX q x f k)else none:=λk=>by
  by_cases z:k<r+1
  ·rw [if_pos z,zi8 (by simpa using z)];simp
  ·rw [if_neg z,List.getElem?_eq_none (by simpa using z)]
 have O : ∀k,((zi2 r).map f)[k]? = if k<r then some (f k)else none:=λk=>by
  by_cases z:k<r
  ·rw [if_pos z,zi8 (by simpa using z)];simp
  ·rw [if_neg z,List.getElem?_eq_none (by simpa using z)]
 rw [S];rcases zlu i q with h | h | h
 ·rw [zkb ⋯,List.getElem?_take,if_pos h,O,if_pos ⋯,if_pos ⋯]
  unfold kX;rw [if_pos h]
 ·subst h
  rw [zjV ⋯,I,Nat.sub_self,if_pos ⋯];unfold kX;rw [if_neg (zjP _),if_pos rfl];rfl
 ·obtain⟨d,rfl⟩ : ∃d,i=q+1+d:=⟨i - (q+1),by omega⟩
  rw [zjV ⋯,I,show q+1+d - q=d+1 by omega,zja,List.getElem?_drop,O];have U:q+1+d - 1=q+d:=by omega
  by_cases hd:q+d<r
  ·rw [if_pos hd,if_pos ⋯]
   unfold kX;rw [if_neg ⋯,if_neg ⋯,U]
  ·rw [if_neg hd,if_neg ⋯]
theorem YS{n r x:Nat}{B:Nat->Vc}{l:Nat->Nat}{R:Vc}(hr:r<=7)(hm : ∀k m,k<m->m<r->l k<l m)(z : ∀k,k<r->l k≠x) :
 W8 (kM n r B l++[.tup [.int x,.lst (zz n R)]])=some (kM n (r+1) (kX (yu l r x) R B) (kX (yu l r x) x l)):=by
 have U:=X2 (kM n r B l) (.tup [.int x,.lst (zz n R)]) x _ (VI n B l (zi2 r)) rfl;unfold W8;rw [U];simp only [zi7];have Y:zf9 ((zi2 r).map λk=>(l k:Int))=true:=by
  rw [zkk];exact Ql r 0 λk _ I=>hm k (k+1) ⋯ ⋯
 have Z : ¬((x:Int)∈(zi2 r).map λk=>(l k:Int)):=by
  intro h;obtain⟨k,I,e⟩:=zjx.mp h;exact z k (zi6.mp I) ⋯
 have O:((zi2 r).map (λk=>(l k:Int))++[(x:Int)]).dropLast=(zi2 r).map λk=>(l k:Int):=by simp
 have S:((zi2 r).map (λk=>(l k:Int))++[(x:Int)]).getLast?.getD 0=(x:Int):=by simp
 rw [O,S,if_pos ⟨⟨by simp,by simp;omega⟩,Y,decide_eq_false Z⟩];have a0:zhf ((zi2 r).map (λk=>(l k:Int))++[(x:Int)])=yu l r x:=by
  unfold zhf yu;rw [O,S,List.filter_map,zjh];congr 1;apply List.filter_congr;intro k _;simp
 rw [a0];unfold zik;have hq:=(vC hm z).1;have e1:(kM n r B l++[D.tup [.int x,.lst (zz n R)]]).dropLast=kM n r B l:=by simp
 have e2:(kM n r B l++[D.tup [.int x,.lst (zz n R)]]).drop ((kM n r B l++[D.tup [.int x,.lst (zz n R)]]).length - 1)=[D.tup [.int x,.lst (zz n R)]]:=by simp
 rw [e1,e2];have:=VU (λk=>D.tup [.int (l k),.lst (zz n (B k))]) (D.tup [.int x,.lst (zz n R)]) hq;unfold kM;refine congrArg some (Eq.trans this ?_);apply zjg;intro k _;unfold kX;split
 ·rfl
 ·split<;>rfl
section
variable{p:Int}{n r:Nat}{B:Nat->Vc}{l:Nat->Nat}{w:Vc}
structure RInv(p:Int)(n r:Nat)(B:Nat->Vc)(l:Nat->Nat)(w:Vc)(k:Nat)(R:Vc):Prop where
 rng : ∀i,i<n->0<=R i/\R i<p
 zer : ∀q,q<k->R (l q)=0
 eqv : ∀G,(∀k,k<r->Span p n G (B k))->(Span p n G w↔Span p n G R)
theorem RInv.next(Y:Pr p)(U:IsB p n r B l){k:Nat}{R:Vc}(h:RInv p n r B l w k R)(I:k<r):RInv p n r B l w (k+1) (clr p (B k) (l k) R):=by
 have Z:=Y.pos;refine⟨λi _=>⟨zj0 _ ⋯,zjJ _ Z⟩,λq hq=>?_,λG O=>?_⟩
 ·unfold clr
  rcases zjl q k with z | z
  ·rw [h.zer q z,U.oth k q I ⋯ ⋯];simp
  ·have:q=k:=by omega
   subst this;rw [U.one q I];simp
 ·rw [h.eqv G O]
  exact⟨λS=>vD (O k I) S,λS=>Xs (O k I) S⟩
theorem J3{α:Type}{q:Nat}{x:α}{f:Nat->α}{k:Nat}(O:q<=r)(S:k<r+1):(k=q/\kX q x f k=x)\/∃I,I<r/\kX q x f k=f I/\((k<q/\I=k)\/(q<k/\I+1=k)):=by
 unfold kX;rcases zlu k q with z | z | z
 ·right;exact⟨k,by omega,by rw [if_pos z],.inl ⟨z,rfl⟩⟩
 ·left;subst z;exact⟨rfl,by rw [if_neg (zjP _),if_pos rfl]⟩
 ·right;exact⟨k - 1,by omega,by rw [if_neg ⋯,if_neg ⋯],.inr ⟨z,by omega⟩⟩
theorem ins_at_q{α:Type}{q:Nat}{x:α}{f:Nat->α}:kX q x f q=x:=by unfold kX;rw [if_neg (zjP _),if_pos rfl]
theorem zdv{α:Type}{q:Nat}{x:α}{f:Nat->α}{k:Nat} : ∃I,(I<q/\I=k\/q<I/\I=k+1)/\kX q x f I=f k:=by
 rcases zjl k q with z | z
 ·exact⟨k,.inl ⟨z,rfl⟩,by unfold kX;rw [if_pos z]⟩
 ·exact⟨k+1,.inr ⟨by omega,rfl⟩,by unfold kX;rw [if_neg ⋯,if_neg ⋯];rfl⟩
theorem zdw(hp:Pr p)(Y:IsB p n r B l){a:Nat}{R:Vc}(ha:a<n)(h1:R a=1)(hz : ∀i,i<a->R i=0)(hl : ∀k,k<r->R (l k)=0)(hR : ∀i,i<n->0<=R i/\R i<p) :
 IsB p n (r+1) (kX (yu l r a) R λk=>clr p R a (B k)) (kX (yu l r a) a l):=by
 have p0:=hp.pos;have a9 : ∀k,k<r->l k≠a:=λk O e=>by have:=hl k O;rw [e,h1]at this;omega
 obtain⟨hq,q1,q2⟩:=vC Y.mono a9;have cr : ∀(w:Vc) i,0<=clr p R a w i/\clr p R a w i<p:=λw i=>⟨zj0 _ ⋯,zjJ _ p0⟩;have ca : ∀w:Vc,clr p R a w a=0:=λw=>by unfold clr;rw [h1,Int.mul_one,Int.sub_self];simp
 have cl : ∀(w:Vc) k,k<r->0<=w (l k)->w (l k)<p->clr p R a w (l k)=w (l k):=λw k O h1 h2=>by
  unfold clr;rw [hl k O,zmZ,Int.sub_zero];exact zkx h1 h2
 have cb : ∀k j,k<r->j<l k->clr p R a (B k) j=0:=λk j O hj=>by
  unfold clr;rw [Y.bef k j O hj];rcases zjl a (l k)with z | z
  ·rw [Y.bef k a O z];simp
  ·rw [hz j ⋯];simp
 have two:=hp.two;have U : ∀k,k<r+1->(k=yu l r a/\kX (yu l r a) R (λk=>clr p R a (B k)) k=R/\kX (yu l r a) a l k=a)\/
  ∃I,I<r/\kX (yu l r a) R (λk=>clr p R a (B k)) k=clr p R a (B I)/\kX (yu l r a) a l k=l I/\((k<yu l r a/\I=k)\/(yu l r a<k/\I+1=k)):=by
  intro k O;rcases J3 (x:=R) (f:=λk=>clr p R a (B k)) hq O with⟨e1,e2⟩ | ⟨I,S,e1,e2⟩
  ·left;refine⟨e1,e2,?_⟩;subst e1;exact ins_at_q
  ·right
   refine⟨I,S,e1,?_,e2⟩;rcases e2 with⟨z1,z2⟩ | ⟨z1,z2⟩
   ·unfold kX;rw [if_pos z1,z2]
   ·unfold kX;rw [if_neg ⋯,if_neg ⋯];congr 1;omega
 refine⟨λk O=>?_,λk m af hm=>?_,λk O=>?_,λk j O hj=>?_,λk m O hm ag=>?_,λk i O hi=>?_⟩
 ·rcases U k O with⟨_,_,e⟩ | ⟨I,S,_,e,_⟩
  ·rw [e];exact ha
  ·rw [e];exact Y.lt I S
 ·rcases U k ⋯with⟨z,_,e⟩ | ⟨I,S,_,e,z⟩<;>rcases U m hm with⟨z',_,e'⟩ | ⟨m',Z,_,e',z'⟩<;>rw [e,e']
  ·omega
  ·exact q2 m' ⋯ Z
  ·exact q1 I ⋯
  ·exact Y.mono I m' ⋯ Z
 ·rcases U k O with⟨_,e1,e⟩ | ⟨I,S,e1,e,_⟩<;>rw [e1,e]
  ·exact h1
  ·have o:=Y.one I S
   rw [cl _ I S ⋯ ⋯];exact o
 ·rcases U k O with⟨_,e1,e⟩ | ⟨I,S,e1,e,_⟩<;>rw [e1]<;>rw [e]at hj
  ·exact hz j hj
  ·exact cb I j S hj
 ·rcases U k O with⟨z,e1,_⟩ | ⟨I,S,e1,_,z⟩<;>rcases U m hm with⟨z',_,e'⟩ | ⟨m',Z,_,e',z'⟩<;>rw [e1,e']
  ·omega
  ·exact hl m' Z
  ·exact ca _
  ·have o:=Y.oth I m' S Z ⋯
   rw [cl _ m' Z ⋯ ⋯];exact o
 ·rcases U k O with⟨_,e1,_⟩ | ⟨I,S,e1,_,_⟩<;>rw [e1]
  ·exact hR i hi
  ·exact cr _ _
theorem zdx{G:Vc->Prop}{q:Nat}{R:Vc}{F:Nat->Vc}(z:q<=r)(I:Span p n G R)(O : ∀k,k<r->Span p n G (F k)) : ∀g,Fam (r+1) (kX q R F) g->Span p n G g:=by
 rintro g ⟨k,S,rfl⟩;rcases J3 (x:=R) (f:=F) z S with⟨_,e⟩ | ⟨U,Y,e,_⟩<;>rw [e]
 ·exact I
 ·exact O U Y
theorem zdp{q:Nat}{R:Vc}{F:Nat->Vc}(I:q<=r):Fam (r+1) (kX q R F) R/\∀k,k<r->Fam (r+1) (kX q R F) (F k):=by
 refine⟨⟨q,by omega,ins_at_q.symm⟩,λk O=>?_⟩;obtain⟨z,h,e⟩:=zdv (q:=q) (x:=R) (f:=F) (k:=k);exact⟨z,by omega,e.symm⟩
theorem za1(hp:Pr p){W:Nat->Vc}{j a:Nat}{R R':Vc}{y:Int}(hb:IsB p n r B l)(ha:a<n)(S : ∀v,Span p n (Fam r B) v↔Span p n (Fam j W) v)(U:RInv p n r B l (W j) r R)(hy:y*R a%p=1)(Y : ∀i,i<n->R' i=y*R i%p)(Z:yu l r a<=r)(v:Vc) :
 Span p n (Fam (r+1) (kX (yu l r a) R' λk=>clr p R' a (B k))) v↔Span p n (Fam (j+1) W) v:=by
 have up : ∀v,Span p n (Fam j W) v->Span p n (Fam (j+1) W) v:=λv O=>O.le λg ⟨i,hi,e⟩=> .gen ⟨i,by omega,e⟩;have a0 : ∀k,k<r->Span p n (Fam (j+1) W) (B k):=λk I=>up _ ((S _).mp (.gen ⟨k,I,rfl⟩));have a6:Span p n (Fam (j+1) W) R:=(U.eqv _ a0).mp (.gen ⟨j,by omega,rfl⟩);have a1:Span p n (Fam (j+1) W) R':=(a6.smul y).congr λi hi=>by rw [Y i hi,zjL]
 obtain⟨m1,m2⟩:=zdp (R:=R') (F:=λk=>clr p R' a (B k)) Z;have a2:Span p n (Fam (r+1) (kX (yu l r a) R' λk=>clr p R' a (B k))) R':= .gen m1;have gB : ∀k,k<r->Span p n (Fam (r+1) (kX (yu l r a) R' λk=>clr p R' a (B k))) (B k):=λk I=>Xs (t:=a) a2 (.gen (m2 k I));have gR:Span p n (Fam (r+1) (kX (yu l r a) R' λk=>clr p R' a (B k))) R:=(a2.smul (R a)).congr λi hi=>by
  rw [Y i hi,Vy,<- zk7,zkY (R a) y,zjf,hy,Int.one_mul,zjL]
 constructor
 ·exact λO=>O.le (zdx Z a1 λk I=>vD a1 (a0 k I))
 ·refine λO=>O.le ?_
  rintro g ⟨i,hi,rfl⟩;rcases zjl i j with z | z
  ·exact((S _).mpr (.gen ⟨i,z,rfl⟩)).le λg hZ=>by obtain⟨k,I,e⟩:=hZ;rw [e];exact gB k I
  ·have:i=j:=by omega
   subst this;exact(U.eqv _ gB).mpr gR
theorem YW{W:Nat->Vc}{j:Nat}{R:Vc}(O : ∀v,Span p n (Fam r B) v↔Span p n (Fam j W) v)(S:RInv p n r B l (W j) r R)(h0 : ∀i,i<n->R i=0)(v:Vc):Span p n (Fam r B) v↔Span p n (Fam (j+1) W) v:=by
 constructor
 ·exact λI=>((O v).mp I).le λg ⟨i,hi,e⟩=> .gen ⟨i,by omega,e⟩
 ·refine λI=>I.le ?_
  rintro g ⟨i,hi,rfl⟩;rcases zjl i j with z | z
  ·exact(O _).mpr (.gen ⟨i,z,rfl⟩)
  ·have:i=j:=by omega
   subst this;exact(S.eqv _ λk U=> .gen ⟨k,U,rfl⟩).mpr (.zero λi hi=>by rw [h0 i hi];simp)
end
def Jf:CO Fl:=(zI (zU 8 (sIx (zf 5) (zc 6))) (zU 5 (jp (zD (wK (zc 5) (zc 7)) (.tp [0,1]) 2 [0,8] jb (zv qL (zv xC (zc 0) (zv qV (zc 3) (zc 1))) (zc 2))))))
def vE:CO Fl:=(zI (zU 8 (sIx (zf 7) (zc 6))) (qR 11 (jx (za (zc 12) (za (jp (zD (wK (zc 7) (zc 5)) (.tp [0,1]) 2 [0,8] jb (zv qL (zv xC (zc 0) (zv qV (zc 3) (zc 1))) (zc 2)))) zu)))))
def Wu:CO Fl:=(zI (zU 6 (sIx (zf 9) (zh (.int 0)))) (zI (zU 10 (sIx (jy (zD (qQ (zh (.int 1)) (zc 0)) (.nm 0) 1 [0,5,6] (sB (zv dEq (zv qL (zv qV (zc 0) (sIx (zf 2) (zc 3))) (zc 1)) (zh (.int 1)))) (zc 0))) (zh (.int 0)))) (zI (zU 5 (jp (zD (zG (zf 5)) (.nm 0) 1 [0,10] jb (zv qL (zv qV (zc 2) (zc 0)) (zc 1))))) (zI (xm 11 (qB zu)) (zI (yX (zG (zC (zc 3))) (.tp [12,7]) vE) (zU 3 (jp (Qw (jy (yj (zf 11) (jy (qB (za (jx (za (zc 6) (za (zc 5) zu))) zu)))))))))))))
def Kk:CO Fl:=(zI (zU 5 (jp (Qz (zf 4)))) (zI (yX (zG (zC (zc 3))) (.tp [6,7]) Jf) (zI (zU 9 (jp (zD (zX (zc 1)) (.nm 0) 1 [5] (sB (zv dNe (sIx (zf 1) (zc 0)) (zh (.int 0)))) (zc 0)))) (sIf (sB (zv dGt (ya (zf 9)) (zh (.int 0)))) Wu j9))))
section
variable{p:Int}{n m:Nat}{kk:Sk}{W:Nat->Vc}{r:Nat}{B:Nat->Vc}{l:Nat->Nat}
theorem Kh{n:Nat}{p:Int}(z:Pr p)(hn:n<=lim)(x y:Vc)(t:Nat)(O:0<=x t/\x t<p) :
 zL (.tp [0,1]) jb (zv qL (zv xC (zc 0) (zv qV (zc 3) (zc 1))) (zc 2)) [Cell.no,Cell.no,Cell.val (.int p),Cell.val (.int (x t))] ((zi2 n).map λi=>D.tup [.int (x i),.int (y i)])=some (zz n (clr p y t x)):=by
 have I:=z.pos;have S:=z.le;rw [z6];refine zo _ _ λi hi=>zq rfl rfl ?_;simp [ke (x t) (y i) ⋯ ⋯,I,clr]
theorem zal(Y:Pr p)(hn:n<=lim)(Z:IsB p n r B l)(w:Vc)(hw : ∀i,i<n->0<=w i/\w i<p)(I c4 c6 c7 c8 c9 c10 O S:Cell) :
 ∃R d6 d7 d8,RInv p n r B l w r R/\qo (.tp [6,7]) Jf (kM n r B l) [.val (.int p),.val (.int n),I,.val (.lst (kM n r B l)),c4,.val (.lst (zz n w)),c6,c7,c8,c9,c10,O,S] =
  some (.next [.val (.int p),.val (.int n),I,.val (.lst (kM n r B l)),c4,.val (.lst (zz n R)),d6,d7,d8,c9,c10,O,S]):=by
 have a5:=xX (T:= .tp [6,7]) (F:=Jf)
  (λk γ=>∃R c6 c7 c8,γ=[.val (.int p),.val (.int n),I,.val (.lst (kM n r B l)),c4,.val (.lst (zz n R)),c6,c7,c8,c9,c10,O,S]/\RInv p n r B l w k R)
  (kM n r B l) 0 [.val (.int p),.val (.int n),I,.val (.lst (kM n r B l)),c4,.val (.lst (zz n w)),c6,c7,c8,c9,c10,O,S]
  ⟨w,c6,c7,c8,rfl,hw,λq hq=>absurd hq (zjA _),λG _=>Iff.rfl⟩ (by
   rintro k d γ hd ⟨R,c6,c7,c8,rfl,z⟩;rw [zki]at z ⊢;have U:k<r:=by have:=(zjp.mp hd).1;simpa using this
   have a7:d = .tup [.int (l k),.lst (zz n (B k))]:=by simp [kM,U]at hd;exact hd.symm
   subst a7;have a0:=Z.lt k U;refine⟨_,.inl ?_,clr p (B k) (l k) R,.val (.int (l k)),.val (.lst (zz n (B k))),.val (.int (R (l k))),rfl,z.next Y Z U⟩;have cc:=Kh Y hn R (B k) (l k) (z.rng _ a0);simp only [kf,zi7,zjI,zjH,Jf];simp [zR,a0,yb,hn,jd,qx,zi5,cc])
 obtain⟨γ',e,R,c6,c7,c8,rfl,z⟩:=a5;rw [zki,Ka]at z;exact⟨R,c6,c7,c8,z,e⟩
theorem YQ(S:Pr p)(hn:n<=lim)(hr:r<=8)(U:IsB p n r B l)(R:Vc){a:Nat}(ha:a<n)(I c4 c7 c8 c9 c10 z:Cell) :
 ∃Y Z a0,qo (.tp [12,7]) vE (kM n r B l) [.val (.int p),.val (.int n),I,.val (.lst (kM n r B l)),c4,.val (.lst (zz n R)),.val (.int a),c7,c8,c9,c10,.own [],z] =
  some (.next [.val (.int p),.val (.int n),I,.val (.lst (kM n r B l)),c4,.val (.lst (zz n R)),.val (.int a),Y,Z,c9,c10,.own (kM n r (λk=>clr p R a (B k)) l),a0]):=by
 have hl:=z9;have a1:=xX (T:= .tp [12,7]) (F:=vE)
  (λk γ=>∃c7 c8 z,γ=[.val (.int p),.val (.int n),I,.val (.lst (kM n r B l)),c4,.val (.lst (zz n R)),.val (.int a),c7,c8,c9,c10,.own (kM n k (λk=>clr p R a (B k)) l),z])
  (kM n r B l) 0 [.val (.int p),.val (.int n),I,.val (.lst (kM n r B l)),c4,.val (.lst (zz n R)),.val (.int a),c7,c8,c9,c10,.own [],z]
  ⟨c7,c8,z,rfl⟩ (by
   rintro k d γ hd ⟨c7,c8,z,rfl⟩;have O:k<r:=by have:=(zjp.mp hd).1;simpa using this
   have a3:d = .tup [.int (l k),.lst (zz n (B k))]:=by simp [kM,O]at hd;exact hd.symm
   subst a3;refine⟨_,.inl ?_,.val (.lst (zz n (B k))),.val (.int (B k a)),.val (.int (l k)),rfl⟩;have cc:=Kh S hn (B k) R a (U.rng k a O ha);have a5:kM n (0+k+1) (λk=>clr p R a (B k)) l=kM n (0+k) (λk=>clr p R a (B k)) l++[.tup [.int (l k),.lst (zz n (clr p R a (B k)))]]:=by
    simp [kM,zkh]
   rw [a5];have a6:k<lim:=by omega
   simp only [kf,zi7,zjI,zjH,vE];simp [zR,ha,yb,hn,jd,qx,zi5,cc,a6])
 obtain⟨γ',e,c7,c8,z,rfl⟩:=a1;rw [zki,Ka]at e;exact⟨c7,c8,z,e⟩
theorem Jq(O:Pr p)(hn:n<=100)(hm:m<=8)(kk:Sk)(W:Nat->Vc)(hW : ∀j i,j<m->i<n->0<=W j i/\W j i<p) :
 ∃r B l,ZA [.int p,.int n,dsq kk (zN m n W)]=some (.own (zN r n B))/\IsB p n r B l/\r<=m/\∀v,Span p n (Fam r B) v↔Span p n (Fam m W) v:=by
 have hl:=z9;have Y:n<=lim:=by omega
 have p0:=O.pos;have two:=O.two;have bd:=O.le;have ag:=xX (T:= .nm 4) (F:=Kk)
  (λj γ=>∃r B l c4 c5 c6 c7 c8 c9 c10 Z S,γ=[.val (.int p),.val (.int n),.val (dsq kk (zN m n W)),.val (.lst (kM n r B l)),c4,c5,c6,c7,c8,c9,c10,Z,S]/\IsB p n r B l/\r<=j/\∀v,Span p n (Fam r B) v↔Span p n (Fam j W) v)
  (zN m n W) 0 [.val (.int p),.val (.int n),.val (dsq kk (zN m n W)),.val (.lst []),.no,.no,.no,.no,.no,.no,.no,.no,.no]
  ⟨0,λ_ _=>0,λ_=>0,.no,.no,.no,.no,.no,.no,.no,.no,.no,rfl,
   ⟨λk z=>absurd z (zjA _),λk q _ z=>absurd z (zjA _),λk z=>absurd z (zjA _),λk j z=>absurd z (zjA _),λk q z=>absurd z (zjA _),λk i z=>absurd z (zjA _)⟩,
   zjb _,λv=>⟨λhv=>hv.le λg ⟨k,z,_⟩=>absurd z (zjA _),λhv=>hv.le λg ⟨k,z,_⟩=>absurd z (zjA _)⟩⟩ (by
   rintro j d γ hd ⟨r,B,l,c4,c5,c6,c7,c8,c9,c10,Z,S,rfl,I,a1,U⟩;rw [zki]at a1 U ⊢;have hj:j<m:=by have:=(zjp.mp hd).1;simpa using this
   have ah:d = .tup (zz n (W j)):=by simp [hj]at hd;exact hd.symm
   subst ah;have ai:r<=7:=by omega
   obtain⟨R,aj,a9,aa,ri,el⟩:=zal O Y I (W j) (λi hi=>hW j i hj hi) (.val (dsq kk (zN m n W))) (.val (.tup (zz n (W j)))) c6 c7 c8 c9 c10 Z S;have a2:zL (.nm 0) (sB (zv dNe (sIx (zf 1) (zc 0)) (zh (.int 0)))) (zc 0) [Cell.no,Cell.val (.lst (zz n R))] ((zi2 n).map λ(i:Nat)=>D.int i)=some (((zi2 n).filter λi=> !decide (R i=0)).map λ(i:Nat)=>D.int i):=by
    refine ji _ _ _ λi hi=>⟨_,rfl,?_,λ_=>rfl⟩;simp [zi6.mp hi]
   cases hf:(zi2 n).filter λi=> !decide (R i=0)with
   | nil=>
    have h0 : ∀i,i<n->R i=0:=λi hi=>by have:=we hf i hi;simpa using this
    rw [hf]at a2;refine⟨_,.inl ?_,r,B,l,.val (.tup (zz n (W j))),.val (.lst (zz n R)),aj,a9,aa,.val (.lst []),c10,Z,S,rfl,I,by omega,YW U ri h0⟩;simp only [kF,zi7,zjI,zjH,Kk];rw [zR];simp [zR];rw [el];simp [Y,jD,jd,qx,zi5];rw [z6 n λi=>(i:Int),a2];simp
   | cons a rest=>
    obtain⟨ha,ak,al⟩:=xY hf;have am:R a≠0:=by simpa using ak
    have an : ∀i,i<a->R i=0:=λi hi=>by have:=al i hi;simpa using this
    have ao:=ri.rng a ha;rw [hf]at a2;have a5:zL (.nm 0) (sB (zv dEq (zv qL (zv qV (zc 0) (sIx (zf 2) (zc 3))) (zc 1)) (zh (.int 1)))) (zc 0) [Cell.no,Cell.val (.int p),Cell.val (.lst (zz n R)),Cell.val (.int a)] (qi 1 (p - 1).toNat)=some (((zi2 (p - 1).toNat).filter λ(i:Nat)=>decide ((1+(i:Int))*R a%p=1)).map λ(i:Nat)=>D.int (1+(i:Int))):=by
     unfold qi;refine ji _ _ _ λi hi=>⟨_,rfl,?_,λ_=>rfl⟩;have be:=zi6.mp hi;simp [ha,ke (1+(i:Int)) (R a) ⋯ ⋯,p0]
    obtain⟨y0,bf,bg,ap⟩:=zfR O (x:=R a) ⋯ ao.2;cases hg:(zi2 (p - 1).toNat).filter λ(i:Nat)=>decide ((1+(i:Int))*R a%p=1)with
    | nil=>
     have:=we hg (y0 - 1) ⋯;rw [show(1:Int)+((y0 - 1:Nat):Int)=y0 by omega]at this;simp [ap]at this
    | cons b bh=>
     obtain⟨bi,aq,_⟩:=xY hg;rw [hg]at a5;have ac:(1+(b:Int))*R a%p=1:=by simpa using aq
     have cy : ∀x,Zu (1+(b:Int)) x=true:=λx=>ke _ _ ⋯ ⋯;have as:zL (.nm 0) jb (zv qL (zv qV (zc 2) (zc 0)) (zc 1)) [Cell.no,Cell.val (.int p),Cell.val (.int (1+(b:Int)))] (zz n R)=some (zz n λi=>(1+(b:Int))*R i%p):=by
      rw [z6,z6];refine zo _ _ λi hi=>zq rfl rfl ?_;simp [cy,p0]
     have au:(1+(b:Int))*R a%p=1:=ac;have ad : ∀k,k<r->l k≠a:=λk z e=>by have:=ri.zer k z;rw [e]at this;exact am this
     have isb:=zdw O I (R:=λi=>(1+(b:Int))*R i%p) ha au (λi hi=>by rw [an i hi];simp) (λk z=>by rw [ri.zer k z];simp) λi _=>⟨zj0 _ ⋯,zjJ _ p0⟩;have sp:=za1 O (R':=λi=>(1+(b:Int))*R i%p) I ha U ri ac (λi _=>rfl) (vC I.mono ad).1;obtain⟨av,aw,ax,es⟩:=YQ O Y ⋯ I (λi=>(1+(b:Int))*R i%p) ha (.val (dsq kk (zN m n W))) (.val (.tup (zz n (W j)))) a9 aa (.val (.lst ((a::rest).map λ(i:Nat)=>D.int i))) (.val (.int (1+(b:Int)))) S;have so:=YS (n:=n) (x:=a) (B:=λk=>clr p (λi=>(1+(b:Int))*R i%p) a (B k)) (R:=λi=>(1+(b:Int))*R i%p) ai I.mono ad;refine⟨_,.inl ?_,r+1,_,_,.val (.tup (zz n (W j))),.val (.lst (zz n λi=>(1+(b:Int))*R i%p)),.val (.int a),av,aw,.val (.lst ((a::rest).map λ(i:Nat)=>D.int i)),.val (.int (1+(b:Int))),.own (kM n r (λk=>clr p (λi=>(1+(b:Int))*R i%p) a (B k)) l),ax,rfl,isb,by omega,sp⟩;simp only [kF,zi7,zjI,zjH,Kk];rw [zR];simp [zR];rw [el];simp [Y,jD,jd,qx,zi5];rw [z6 n λi=>(i:Int),a2];have az:inR p=true:=y9 ⋯ ⋯;have i1:inR 1=true:=by decide
     have lp:(qi 1 (p - 1).toNat).length<=lim:=by simp [qi];omega
     have b0:(0:Int)<(rest.length:Int)+1:=by omega
     have b9:(p - 1).toNat=p.toNat - 1:=by omega
     rw [b9]at a5 lp;simp [Wu,zR,b0,az,i1,lp,jd,qx,zi5,a5,as,Y];simp at es;rw [es];have a7:r+1<=lim:=by omega
     simp [a7,so])
 obtain⟨γ',e1,r,B,l,c4,c5,c6,c7,c8,c9,c10,Z,S,rfl,I,a1,U⟩:=ag;rw [zki,Ja]at a1 U;refine⟨r,B,l,?_,I,a1,U⟩;have e0:ZA [.int p,.int n,dsq kk (zN m n W)]=ja 13 (zI (zU 3 (jp (qB zu))) (zI (yX (zG (zC (zc 2))) (.nm 4) Kk) (xD (zD (zG (zf 3)) (.tp [0,1]) 2 [] jb (zO (zf 1)))))) [.int p,.int n,dsq kk (zN m n W)]:=rfl;have bb:zL (.tp [0,1]) jb (zO (zf 1)) [Cell.no,Cell.no] (kM n r B l)=some (zN r n B):=by
  unfold kM zN;refine zo _ _ λk z=>zq rfl rfl ?_;simp
 have a7:r<=lim:=by omega
 rw [e0];simp [ja,zP,zR,zi5];rw [e1];simp [a7,jd,zi5,bb]
end
@[simp] theorem Zr(h w f):(xp h w f).length=h:=by simp [xp]
section
variable{p:Int}{n m r:Nat}{G:Vc->Prop}
theorem Span.sum{u:Nat->Vc}(c:Nat->Int) : ∀{m:Nat},(∀k,k<m->Span p n G (u k))->Span p n G λi=>sumTo (λk=>c k*u k i) m
 | 0,_=> .zero λi _=>by simp [sumTo]
 | m+1,h=>(((h m ⋯).add (Span.sum c (m:=m) λk z=>h k ⋯) (c m))).congr λi _=>by simp [sumTo]
def Rk(p:Int)(n m:Nat)(W:Nat->Vc)(r:Nat):Prop:=∃B l,IsB p n r B l/\∀v,Span p n (Fam r B) v↔Span p n (Fam m W) v
theorem k6(S:Pr p){W:Nat->Vc}{r r':Nat}(h:Rk p n m W r)(h':Rk p n m W r'):r=r':=by
 obtain⟨B,l,U,I⟩:=h;obtain⟨B',l',Y,O⟩:=h';exact(Qk S U Y (λv z=>(O v).mpr ((I v).mp z)) (λv z=>(I v).mpr ((O v).mp z))).1
theorem KM(z:Pr p)(hn:n<=100)(hm:m<=8)(W:Nat->Vc) : ∃r,r<=m/\Rk p n m W r:=by
 obtain⟨r,B,l,_,O,S,U⟩:=Jq z hn hm .L (λj i=>W j i%p) (λj i _ _=>⟨zj0 _ (by have:=z.pos;omega),zjJ _ z.pos⟩);refine⟨r,S,B,l,O,λv=>(U v).trans ⟨λh=>h.le λg ⟨k,I,e⟩=>?_,λh=>h.le λg ⟨k,I,e⟩=>?_⟩⟩
 ·subst e;exact(Span.gen (g:=W k) ⟨k,I,rfl⟩).congr λi _=>by rw [zjL]
 ·subst e;exact(Span.gen (g:=λi=>W k i%p) ⟨k,I,rfl⟩).congr λi _=>by rw [zjL]
theorem zeN(hp:Pr p){m' r r':Nat}{W U:Nat->Vc}(h:Rk p n m W r)(h':Rk p n m' U r')(hw : ∀j,j<m->Span p n (Fam m' U) (W j)):r<=r':=by
 obtain⟨B,l,S,hs⟩:=h;obtain⟨B',l',Y,a3⟩:=h';have s1 : ∀k,k<r->∃q,q<r'/\l' q=l k:=λk I=>QU Y ((a3 _).mpr (((hs _).mp (.gen ⟨k,I,rfl⟩)).le λg ⟨j,hj,e⟩=>e ▸ hw j hj)) (S.lt k I) (by rw [S.one k I,hp.one];decide) λi hi=>by rw [S.bef k i I hi];simp
 have a5 : ∀k,k<r->∀q,q<r'->l' q=l k->k<=q:=by
  intro k
  induction k with
  | zero=>intro _ q _ _;exact zkK _
  | succ k ih=>
   intro I q Z e;obtain⟨O,a0,e0⟩:=s1 k ⋯;have h1:=ih ⋯ O a0 e0;have h2:=S.mono k (k+1) ⋯ I;rcases zjl O q with z | z
   ·omega
   ·rcases zjl q O with y | y
    ·have:=Y.mono q O y a0
     omega
    ·have:q=O:=by omega
     subst this;omega
 rcases Nat.eq_zero_or_pos r with z | z
 ·omega
 ·obtain⟨q,Z,e⟩:=s1 (r - 1) ⋯
  have:=a5 (r - 1) ⋯ q Z e;omega
end
section
variable{p:Int}{n m r h w:Nat}
theorem kt{l:Nat->Nat}(h:Nat) : ∀{r:Nat},(∀k m,k<m->m<r->l k<l m)->∃s,s<=r/\(∀k,k<s->l k<h)/\∀k,s<=k->k<r->h<=l k
 | 0,_=>⟨0,zjb _,λk I=>absurd I (zjA _),λk _ I=>absurd I (zjA _)⟩
 | r+1,hm=>by
  obtain⟨s,h1,h2,O⟩:=kt h (r:=r) λk m I S=>hm k m I ⋯;by_cases e:l r<h
  ·refine⟨r+1,zjb _,λk I=>?_,λk h1 h2=>by omega⟩
   rcases zjl k r with z | z
   ·have:=hm k r z ⋯;omega
   ·have:k=r:=by omega
    subst this;exact e
  ·refine⟨s,by omega,h2,λk I U=>?_⟩
   rcases zjl k r with z | z
   ·exact O k I z
   ·have:k=r:=by omega
    subst this;omega
theorem Q1{q:Nat->Bool}{s r:Nat}(O:s<=r)(h1 : ∀k,k<s->q k=false)(h2 : ∀k,s<=k->k<r->q k=true):(zi2 r).filter q=(zi2 (r - s)).map (s + ·):=by
 obtain⟨d,rfl⟩ : ∃d,r=s+d:=⟨r - s,by omega⟩;rw [zlv,zlO];have e1:(zi2 s).filter q=[]:=List.filter_eq_nil_iff.mpr λk z=>by rw [h1 k (zi6.mp z)];decide
 have I:((zi2 d).map (s + ·)).filter q=(zi2 d).map (s + ·):=List.filter_eq_self.mpr λk z=>by
  obtain⟨i,hi,rfl⟩:=zjx.mp z;exact h2 _ ⋯ (by have:=zi6.mp hi;omega)
 rw [e1,I,zjs];rfl
def jv(h:Nat)(u v:Vc):Vc:=λi=>if i<h then u i else v (i - h)
def jH(j:Nat):Vc:=λk=>if j=k then 1 else 0
theorem zK{u v:Vc}{i:Nat}(hi:i<h):jv h u v i=u i:=if_pos hi
theorem zQ{u v:Vc}(i:Nat):jv h u v (h+i)=v i:=by unfold jv;rw [if_neg ⋯,zjs]
theorem qK(h w:Nat)(u v:Vc):zz h u++zz w v=zz (h+w) (jv h u v):=by
 unfold zz;rw [zlv,zjT];congr 1
 ·exact zjg λi hi=>by rw [zK (zi6.mp hi)]
 ·rw [zjW]
  exact zjg λi _=>by simp only [Function.comp];rw [zQ]
theorem V7(h w:Nat)(v:Vc):(zz (h+w) v).take h=zz h v:=by
 unfold zz;rw [<- List.map_take,List.take_range,zlJ (zjB h w)]
theorem V8(h w:Nat)(v:Vc):(zz (h+w) v).drop h=zz w λj=>v (h+j):=by
 unfold zz;rw [zlv,zjT,List.drop_append_of_le_length ⋯,List.drop_eq_nil_of_le ⋯,zjW];rfl
theorem Kf(h w:Nat)(v:Vc):Q8 (zz (h+w) v) none (some (h:Int))=zz h v:=by
 have c : ¬((h:Int)<0):=by omega
 have e:min h (h+w)=h:=zlJ (zjB h w);simp [Q8,Q9,c,e,V7]
theorem Ke(h w:Nat)(v:Vc):Q8 (zz (h+w) v) (some (h:Int)) none=zz w λj=>v (h+j):=by
 have c : ¬((h:Int)<0):=by omega
 have e:min h (h+w)=h:=zlJ (zjB h w);have t : ∀g:Vc,(zz w g).take w=zz w g:=λg=>zkt ⋯;simp [Q8,Q9,c,e,V8,t]
theorem Xu(v:Vc) : ∀n,yE (zz n v)=some ((zi2 n).map λi=>v i != 0)
 | 0=>rfl
 | n+1=>by
  have z : ∀l:List Nat,yE (l.map λi=>D.int (v i))=some (l.map λi=>v i != 0):=by
   intro l
   induction l with
   | nil=>rfl
   | cons a l I=>simp [yE,zgi,I]
  exact z _
theorem xJ{B:Nat->Vc}{l:Nat->Nat}(I:IsB p (h+w) r B l)(S:r<=lim){s:Nat}(U:s<=r)(h1 : ∀k,k<s->l k<h)(h2 : ∀k,s<=k->k<r->h<=l k) :
 F_behind_noughts [.int h,.lst (zN r (h+w) B)]=some (.own (zN (r - s) w λk j=>B (s+k) (h+j))):=by
 have O:zL (.nm 0) (qk (sB (zbL (zC (Qs (zc 0) Yr (sBd (zc 1))))))) (Qs (zc 0) (sBd (zc 1)) Yr) [Cell.no,Cell.val (.int h)] (zN r (h+w) B)=some (((zi2 r).filter λk=>decide (h<=l k)).map λk=>D.tup (zz w λj=>B k (h+j))):=by
  unfold zN;refine ji (λk=>decide (h<=l k)) _ _ λk z=>⟨_,rfl,?_,λY=>?_⟩
  ·have z:=zi6.mp z
   simp [Kf,Xu];by_cases e:h<=l k
   ·simp [e]
    intro i hi;have:=I.bef k i z ⋯;simp [this]
   ·simp [e]
    exact⟨l k,by omega,by rw [I.one k z];decide⟩
  ·simp [Ke]
 rw [Q1 U (λk z=>decide_eq_false (by have:=h1 k z;omega)) (λk a b=>decide_eq_true (h2 k a b))]at O;simp [F_behind_noughts,ja,zP,S,jd,qx,zi5,O];unfold zN;rfl
def Ker(p:Int)(h w:Nat)(f:Nat->Nat->Int)(v:Vc):Prop:=∀i,i<h->sumTo (λj=>f i j*v j) w%p=0
theorem zaE{f:Nat->Nat->Int}{v:Vc}(I:Span p (h+w) (Fam w λj=>jv h (λi=>f i j) (jH j)) v) : ∀i,i<h->v i%p=sumTo (λj=>f i j*v (h+j)) w%p:=by
 induction I with
 | @zero v z=>
  intro i hi;rw [z i ⋯];have:sumTo (λj=>f i j*v (h+j)) w%p=sumTo (λ_=>0) w%p:=z7 λj O=>by rw [zjf,z (h+j) ⋯];simp
  rw [this,zF];rfl
 | @step v u g c S Z he U=>
  intro i hi;obtain⟨m,hm,rfl⟩:=S;rw [he i ⋯,zjD,U i hi,<- zjD];have e1:sumTo (λj=>f i j*v (h+j)) w%p=sumTo (λj=>f i j*u (h+j)+c*(f i j*jH m j)) w%p:=z7 λj O=>by
   rw [zjf,he (h+j) ⋯,<- zjf];simp only [zQ];rw [zmb,zmT]
  rw [e1,jO,jW,jm (f:=λj=>f i j*jH m j) hm λj _ Y=>by simp [jH,zj6 Y]];simp [jH,zK hi]
theorem Xr(I:Pr p)(w:Nat):IsB p w w jH id where
 lt:=λk z=>z
 mono:=λk m z _=>z
 one:=λk _=>if_pos rfl
 bef:=λk j _ O=>if_neg (by simp only [id]at O;omega)
 oth:=λk m _ _ S=>if_neg (by simp only [id];omega)
 rng:=λk i _ _=>by have:=I.two;unfold jH;split<;>omega
theorem Span.map{n':Nat}{G G':Vc->Prop}(t:Nat->Nat)(z : ∀i,i<n'->t i<n)(I : ∀g,G g->Span p n' G' λi=>g (t i)){v:Vc}(O:Span p n G v):Span p n' G' λi=>v (t i):=by
 induction O with
 | @zero v S=>exact .zero λi hi=>S _ (z i hi)
 | @step v u g c U Z he Y=>exact((I _ U).add Y c).congr λi hi=>he _ (z i hi)
theorem qX(Z:Pr p)(hh:h<=20)(hw:w<=8)(f:Nat->Nat->Int) :
 ∃q K l s,xI [.int p,jI h w f]=some (.own (zN q w K))/\IsB p w q K l/\(∀v,Span p w (Fam q K) v↔Ker p h w f v)/\Rk p h w (λj i=>f i j) s/\q+s=w:=by
 have hl:=z9;have a7:h<=lim:=by omega
 have a1:w<=lim:=by omega
 have a8:h+w<=lim:=by omega
 obtain⟨r,B,l,e,O,a0⟩:=qb Z (show h+w<=100 by omega) a1 .L λj=>jv h (λi=>f i j) (jH j);have a9 : ∀v,Span p (h+w) (Fam r B) v->∀i,i<h->v i%p=sumTo (λj=>f i j*v (h+j)) w%p:=λv U=>zaE ((a0 v).mp U);have aa:r<=w:=by
  obtain⟨r',h1,h2⟩:=KM Z (n:=h+w) ⋯ hw λj=>jv h (λi=>f i j) (jH j);rw [k6 Z ⟨B,l,O,a0⟩ h2];exact h1
 have ab:w<=r:=by
  obtain⟨r',h1,h2⟩:=KM Z (n:=w) ⋯ (show r<=8 by omega) λk j=>B k (h+j);refine zj9 (zeN Z (m:=w) (W:=jH) ⟨jH,id,Xr Z w,λv=>Iff.rfl⟩ h2 λj S=>?_) h1;have:=Span.map (n':=w) (G':=Fam r λk j=>B k (h+j)) (λi=>h+i) (λi hi=>by omega) (λg ⟨k,I,Y⟩=> .gen ⟨k,I,by rw [Y]⟩) ((a0 (jv h (λi=>f i j) (jH j))).mpr (.gen ⟨j,S,rfl⟩));exact this.congr λi _=>by rw [zQ]
 have er:r=w:=Nat.le_antisymm aa ab;subst er;obtain⟨s,hs,s1,s2⟩:=kt h O.mono;have eb:=xJ O a1 hs s1 s2;have af:IsB p r (r - s) (λk j=>B (s+k) (h+j)) (λk=>l (s+k) - h):={
  lt:=λk I=>by have:=O.lt (s+k) ⋯;have:=s2 (s+k) ⋯ ⋯;omega
  mono:=λk m I hm=>by have:=O.mono (s+k) (s+m) ⋯ ⋯;have:=s2 (s+k) ⋯ ⋯;omega
  one:=λk I=>by
   have:=s2 (s+k) ⋯ ⋯;rw [show h+(l (s+k) - h)=l (s+k)by omega];exact O.one _ ⋯
  bef:=λk j I S=>O.bef _ _ ⋯ ⋯
  oth:=λk m I hm a2=>by
   have:=s2 (s+m) ⋯ ⋯;rw [show h+(l (s+m) - h)=l (s+m)by omega];exact O.oth _ _ ⋯ ⋯ ⋯
  rng:=λk i I hi=>O.rng _ _ ⋯ ⋯}
 refine⟨r - s,_,_,s,?_,af,λv=>⟨λU=>?_,λU=>?_⟩,?_,by omega⟩
 ·have ov:=yA f a7 a1
  have sm:=kh (n:=r) a1;have ag:zL (.tp [0,1]) jb (zv jj (zc 0) (zc 1)) [Cell.no,Cell.no] ((zi2 r).map λj=>D.tup [.tup (zz h λi=>f i j),.tup (zz r λk=>if j=k then 1 else 0)])=some (zN r (h+r) λj=>jv h (λi=>f i j) (jH j)):=by
   unfold zN;refine zo _ _ λj S=>zq rfl rfl ?_;simp [jj,a8,qK];rfl
  have zp:yC (zN r h λi j=>f j i) (zN r r λi j=>if i=j then 1 else 0)=(zi2 r).map λj=>D.tup [.tup (zz h λi=>f i j),.tup (zz r λk=>if j=k then 1 else 0)]:=by
   unfold yC zN;rw [zkO];simp
  have c1:((h:Int)+(r:Int))=((h+r:Nat):Int):=by omega
  simp only [dsq]at e;rw [<- c1]at e;unfold jI at ov sm ⊢;have nl : ∀T t f γ,zL T t f γ []=some []:=λ_ _ _ _=>rfl;simp [xI,F_led_into,ja,zP,zR,ov,sm,zp,a1,jd,zi5,ag,nl,e,eb]
 ·intro i hi
  induction U with
  | @zero v hz=>
   have:sumTo (λj=>f i j*v j) r%p=sumTo (λ_=>0) r%p:=z7 λj S=>by rw [zjf,hz j S];simp
   rw [this,zF];rfl
  | @step v u g c hg hu he ih=>
   obtain⟨k,I,rfl⟩:=hg;have e1:sumTo (λj=>f i j*v j) r%p=sumTo (λj=>f i j*u j+c*(f i j*B (s+k) (h+j))) r%p:=z7 λj S=>by
    rw [zjf,he j S,<- zjf,zmb,zmT]
   have e2:=a9 (B (s+k)) (.gen ⟨s+k,by omega,rfl⟩) i hi;have e3:B (s+k) i=0:=O.bef _ _ ⋯ (by have:=s2 (s+k) ⋯ ⋯;omega);rw [e3]at e2;rw [e1,jO,jW,zjD,ih,zjf,<- e2];simp
 ·
  have an:Span p (h+r) (Fam r B) (jv h (λ_=>0) v):=by
   refine(a0 _).mpr ((Span.sum (u:=λj=>jv h (λi=>f i j) (jH j)) v (m:=r) λj S=> .gen ⟨j,S,rfl⟩).congr λi hi=>?_);rcases zjl i h with z | z
   ·simp only [zK z]
    rw [zw (g:=λj=>f i j*v j) λj _=>zkY _ _,U i z];simp
   ·obtain⟨k,rfl⟩ : ∃k,i=h+k:=⟨i - h,by omega⟩
    simp only [zQ];rw [jm (f:=λj=>v j*jH j k) (i:=k) ⋯ λj _ a2=>by simp [jH,a2]];simp [jH]
  have co:=vj O an;refine(Span.sum (u:=λk j=>B (s+k) (h+j)) (λk=>jv h (λ_=>0) v (l (s+k))) (m:=r - s) λk I=> .gen ⟨k,I,rfl⟩).congr λj S=>?_;have:=co (h+j) ⋯;rw [zQ]at this;rw [this];obtain⟨d,rfl⟩ : ∃d,r=s+d:=⟨r - s,by omega⟩;rw [zjs];have sp : ∀(F:Nat->Int) (d:Nat),(∀k,k<s->F k=0)->sumTo F (s+d)=sumTo (λk=>F (s+k)) d:=by
   intro F d hF
   induction d with
   | zero=>
    show sumTo F s=0;rw [zw (g:=λ_=>0) hF,zF]
   | succ d ih=>rw [<- zl8];simp only [sumTo];rw [ih]
  rw [sp _ d λk I=>by rw [zK (s1 k I)];simp]
 ·
  refine⟨λk i=>B k i,l,⟨λk I=>s1 k I,λk m I hm=>O.mono k m I ⋯,λk I=>O.one k ⋯,λk j I S=>O.bef k j ⋯ S,λk m I hm a2=>O.oth k m ⋯ ⋯ a2,λk i I hi=>O.rng k i ⋯ ⋯⟩,λv=>⟨λU=>U.le λg ⟨k,I,Y⟩=>?_,λU=>U.le λg ⟨j,S,Y⟩=>?_⟩⟩
  ·subst Y
   exact Span.map (n':=h) (G':=Fam r λj i=>f i j) (λi=>i) (λi hi=>by omega) (λg ⟨j,S,Y⟩=>(Span.gen (g:=λi=>f i j) ⟨j,S,rfl⟩).congr λi hi=>by rw [Y];simp only [zK hi]) ((a0 (B k)).mp (.gen ⟨k,by omega,rfl⟩))
  ·subst Y
   have:=Span.map (n':=h) (G':=Fam s λk i=>B k i) (λi=>i) (λi hi=>by omega) (λg hZ=>by
    obtain⟨k,I,Y⟩:=hZ;subst Y;rcases zjl k s with z | z
    ·exact .gen ⟨k,z,rfl⟩
    ·exact .zero λi hi=>by rw [O.bef k i I (by have:=s2 k z I;omega)];simp) ((a0 (jv h (λi=>f i j) (jH j))).mpr (.gen ⟨j,S,rfl⟩))
   exact this.congr λi hi=>by rw [zK hi]
end
section
variable{p:Int}{h w q r:Nat}
def app(f:Nat->Nat->Int)(w:Nat)(v:Vc):Vc:=λi=>sumTo (λj=>f i j*v j) w
theorem wB{f:Nat->Nat->Int}{u g v:Vc}{c:Int}(he : ∀j,j<w->v j%p=(u j+c*g j)%p)(i:Nat):app f w v i%p=(app f w u i+c*app f w g i)%p:=by
 unfold app;have e:sumTo (λj=>f i j*v j) w%p=sumTo (λj=>f i j*u j+c*(f i j*g j)) w%p:=z7 λj z=>by
  rw [zjf,he j z,<- zjf,zmb,zmT]
 rw [e,jO,jW]
theorem vG{f:Nat->Nat->Int}{v:Vc}(z : ∀j,j<w->v j%p=0)(i:Nat):app f w v i%p=0:=by
 unfold app;have:sumTo (λj=>f i j*v j) w%p=sumTo (λ_=>0) w%p:=z7 λj I=>by rw [zjf,z j I];simp
 rw [this,zF];rfl
theorem jT{f:Nat->Nat->Int}{u v:Vc}(he : ∀j,j<w->v j%p=u j%p)(i:Nat):app f w v i%p=app f w u i%p:=by
 unfold app;exact z7 λj z=>by rw [zjf,he j z,<- zjf]
theorem Xm(Z:Pr p)(hh:h<=100)(hw:w<=lim)(hq:q<=lim)(f:Nat->Nat->Int)(hf : ∀i j,i<h->j<w->0<=f i j/\f i j<100)(K:Nat->Vc) :
 ∃r B l,F_led_on [.int p,jI h w f,.lst (zN q w K)]=some (.own (zN r h B))/\IsB p h r B l/\∀v,Span p h (Fam r B) v ↔ ∃y,Span p w (Fam q K) y/\∀i,i<h->v i%p=app f w y i%p:=by
 have hl:=z9;obtain⟨r,B,l,e,hb,a5⟩:=qb Z hh hq .L λk i=>app f w (K k) i%p;refine⟨r,B,l,?_,hb,λv=>(a5 v).trans ⟨λz=>?_,λ⟨y,O,z⟩=>?_⟩⟩
 ·have a6:zL (.nm 0) jb (zn F_led (za (zc 1) (za (zc 2) (za (zc 0) zu)))) [Cell.no,Cell.val (.int p),Cell.val (jI h w f)] (zN q w K)=some (zN q h λk i=>app f w (K k) i%p):=by
   unfold zN;refine zo _ _ λk I=>zq rfl rfl ?_;have:=Jp (p:=p) .T f (K k) Z.pos (show h<=lim by omega) hw hf;simp only [dsq]at this;simp [this];rfl
  simp only [dsq]at e;have sq:je (jI h w f)=some (.T,[.int h,.int w,.tup (zN h w f)]):=rfl;simp [F_led_on,ja,zP,hq,jd,qx,zi5,a6,sq,e]
 ·induction z with
  | @zero v S=>exact⟨λ_=>0,.zero λi _=>by simp,λi hi=>by rw [S i hi,vG (p:=p) (λ_ _=>by simp)]⟩
  | @step v u g c U hu he Y=>
   obtain⟨y,O,a7⟩:=Y;obtain⟨k,I,rfl⟩:=U;refine⟨λj=>y j+c*K k j,(Span.gen (g:=K k) ⟨k,I,rfl⟩).add O c,λi hi=>?_⟩;rw [wB (p:=p) (u:=y) (g:=K k) (c:=c) (λ_ _=>rfl) i,he i hi,zjD,a7 i hi,zjf,zjL,<- zjf,<- zjD]
 ·induction O generalizing v with
  | @zero y S=>exact .zero λi hi=>by rw [z i hi];exact vG S i
  | @step y u g c U hu he Y=>
   obtain⟨k,I,rfl⟩:=U;have h1:=Y (app f w u) ⟨u,hu,λ_ _=>rfl⟩ λi hi=>rfl;refine((Span.gen (g:=λi=>app f w (K k) i%p) ⟨k,I,rfl⟩).add h1 c).congr λi hi=>?_;rw [z i hi,wB (p:=p) he i,zjD,zjf,<- zjL (app f w (K k) i),<- zjf,<- zjD,zjL]
theorem w5(O:IsB p (h+w) r B l){s:Nat}(hs:s<=r)(s1 : ∀k,k<s->l k<h)(s2 : ∀k,s<=k->k<r->h<=l k) :
 IsB p w (r - s) (λk j=>B (s+k) (h+j)) (λk=>l (s+k) - h)/\∀v,Span p w (Fam (r - s) λk j=>B (s+k) (h+j)) v↔Span p (h+w) (Fam r B) (jv h (λ_=>0) v):=by
 refine⟨{
  lt:=λk I=>by have:=O.lt (s+k) ⋯;have:=s2 (s+k) ⋯ ⋯;omega
  mono:=λk m I hm=>by have:=O.mono (s+k) (s+m) ⋯ ⋯;have:=s2 (s+k) ⋯ ⋯;omega
  one:=λk I=>by
   have:=s2 (s+k) ⋯ ⋯;rw [show h+(l (s+k) - h)=l (s+k)by omega];exact O.one _ ⋯
  bef:=λk j I Y=>O.bef _ _ ⋯ ⋯
  oth:=λk m I hm a3=>by
   have:=s2 (s+m) ⋯ ⋯;rw [show h+(l (s+m) - h)=l (s+m)by omega];exact O.oth _ _ ⋯ ⋯ ⋯
  rng:=λk i I hi=>O.rng _ _ ⋯ ⋯},λv=>⟨λS=>?_,λS=>?_⟩⟩
 ·induction S with
  | @zero v Z=>
   refine .zero λi hi=>?_;rcases zjl i h with z | z
   ·rw [zK z];simp
   ·obtain⟨k,rfl⟩ : ∃k,i=h+k:=⟨i - h,by omega⟩
    rw [zQ];exact Z k ⋯
  | @step v u g c hg hu he U=>
   obtain⟨k,I,rfl⟩:=hg;refine .step (g:=B (s+k)) (c:=c) ⟨s+k,by omega,rfl⟩ U λi hi=>?_;rcases zjl i h with z | z
   ·rw [zK z,zK z,O.bef (s+k) i ⋯ (by have:=s2 (s+k) ⋯ ⋯;omega)];simp
   ·obtain⟨j,rfl⟩ : ∃k,i=h+k:=⟨i - h,by omega⟩
    rw [zQ,zQ];exact he j ⋯
 ·have co:=vj O S
  refine(Span.sum (u:=λk j=>B (s+k) (h+j)) (λk=>jv h (λ_=>0) v (l (s+k))) (m:=r - s) λk I=> .gen ⟨k,I,rfl⟩).congr λj Y=>?_;have:=co (h+j) ⋯;rw [zQ]at this;rw [this];obtain⟨d,rfl⟩ : ∃d,r=s+d:=⟨r - s,by omega⟩;rw [zjs];have sp : ∀(F:Nat->Int) (d:Nat),(∀k,k<s->F k=0)->sumTo F (s+d)=sumTo (λk=>F (s+k)) d:=by
   intro F d hF
   induction d with
   | zero=>
    show sumTo F s=0;rw [zw (g:=λ_=>0) hF,zF]
   | succ d U=>rw [<- zl8];simp only [sumTo];rw [U]
  rw [sp _ d λk I=>by rw [zK (s1 k I)];simp]
end
section
variable{p:Int}{h w q:Nat}
def qc(h w:Nat)(f:Nat->Nat->Int)(g:Nat->Vc):Nat->Vc:=λm=>if m<w then jv h (λi=>f i m) (jH m)else jv h (g (m - w)) (λ_=>0)
theorem Wa(f:Nat->Nat->Int)(g:Nat->Vc):zN w (h+w) (λj=>jv h (λi=>f i j) (jH j))++zN q (h+w) (λk=>jv h (g k) λ_=>0)=zN (w+q) (h+w) (qc h w f g):=by
 unfold zN;rw [zlv,zjT,zjW];congr 1
 ·refine zjg λm hm=>?_
  unfold qc;rw [if_pos (zi6.mp hm)]
 ·refine zjg λm hm=>?_
  simp only [Function.comp];unfold qc;rw [if_neg ⋯,zjs]
theorem Jj(f:Nat->Nat->Int){j:Nat}(z:j<w)(i:Nat):app f w (jH j) i=f i j:=by
 unfold app;rw [jm (f:=λk=>f i k*jH j k) z λk _ I=>by simp [jH,zj6 I]];simp [jH]
theorem Vr{f:Nat->Nat->Int}{g:Nat->Vc}{z:Vc}(I:Span p (h+w) (Fam (w+q) (qc h w f g)) z):Span p h (Fam q g) λi=>z i - app f w (λj=>z (h+j)) i:=by
 induction I with
 | @zero z I=>
  refine .zero λi hi=>?_;rw [zkF,I i ⋯,vG (p:=p) (λj Z=>I (h+j) ⋯) i];simp
 | @step z u g' c hg hu he U=>
  obtain⟨m,hm,rfl⟩:=hg;have e2:=λi=>wB (p:=p) (w:=w) (f:=f) (u:=λj=>u (h+j)) (g:=λj=>qc h w f g m (h+j)) (v:=λj=>z (h+j)) (c:=c) (λj Z=>he (h+j) ⋯) i;have Y : ∀i,i<h->(z i - app f w (λj=>z (h+j)) i)%p=((u i - app f w (λj=>u (h+j)) i)+c*(qc h w f g m i - app f w (λj=>qc h w f g m (h+j)) i))%p:=λi hi=>by
   rw [zkF,he i ⋯,e2 i,<- zkF];congr 1;rw [Int.mul_sub];omega
  rcases zjl m w with O | O
  ·refine U.congr λi hi=>?_
   rw [Y i hi];have t:app f w (λj=>qc h w f g m (h+j)) i=f i m:=by
    have:(λj=>qc h w f g m (h+j))=jH m:=by
     funext j;unfold qc;rw [if_pos O,zQ]
    rw [this,Jj f O]
   have S:qc h w f g m i=f i m:=by unfold qc;rw [if_pos O,zK hi]
   rw [t,S];simp
  ·refine .step (g:=g (m - w)) (c:=c) ⟨m - w,by omega,rfl⟩ U λi hi=>?_
   rw [Y i hi];have t:app f w (λj=>qc h w f g m (h+j)) i=0:=by
    have:(λj=>qc h w f g m (h+j))=λ_=>0:=by
     funext j;unfold qc;rw [if_neg ⋯,zQ]
    rw [this];unfold app;simp [zF]
   have S:qc h w f g m i=g (m - w) i:=by unfold qc;rw [if_neg ⋯,zK hi]
   rw [t,S];simp
theorem zdC{f:Nat->Nat->Int}{g:Nat->Vc}{y:Vc}(I:Span p h (Fam q g) y):Span p (h+w) (Fam (w+q) (qc h w f g)) (jv h y λ_=>0):=by
 induction I with
 | @zero y O=>
  refine .zero λi hi=>?_;rcases zjl i h with z | z
  ·rw [zK z];exact O i z
  ·obtain⟨k,rfl⟩ : ∃k,i=h+k:=⟨i - h,by omega⟩
   rw [zQ];simp
 | @step y u g' c S Y he U=>
  obtain⟨k,Z,rfl⟩:=S;refine .step (g:=qc h w f g (w+k)) (c:=c) ⟨w+k,by omega,rfl⟩ U λi hi=>?_;have e:qc h w f g (w+k)=jv h (g k) λ_=>0:=by
   unfold qc;rw [if_neg ⋯,zjs]
  rw [e];rcases zjl i h with z | z
  ·rw [zK z,zK z,zK z];exact he i z
  ·obtain⟨j,rfl⟩ : ∃k,i=h+k:=⟨i - h,by omega⟩
   rw [zQ,zQ,zQ];simp
theorem yB(hp:Pr p)(hh:h<=20)(hw:w<=20)(hq:q<=100)(f:Nat->Nat->Int)(g:Nat->Vc) :
 ∃r B l,F_led_into [.int p,jI h w f,.lst (zN q h g)]=some (.own (zN r w B))/\IsB p w r B l/\∀v,Span p w (Fam r B) v↔Span p h (Fam q g) (app f w v):=by
 have hl:=z9;have ac:h<=lim:=by omega
 have I:w<=lim:=by omega
 have S:h+w<=lim:=by omega
 have ad:q<=lim:=by omega
 have U:w+q<=lim:=by omega
 obtain⟨r,B,l,e,O,a3⟩:=qb hp (show h+w<=100 by omega) U .L (qc h w f g);have ae:r<=h+w:=QN O.mono O.lt;obtain⟨s,Y,s1,s2⟩:=kt h O.mono;have eb:=xJ O ⋯ Y s1 s2;obtain⟨a5,tl⟩:=w5 O Y s1 s2;refine⟨r - s,_,_,?_,a5,λv=>(tl v).trans ((a3 _).trans ⟨λZ=>?_,λZ=>?_⟩)⟩
 ·have ov:=yA f ac I
  have sm:=kh (n:=w) I;have a6:zL (.tp [0,1]) jb (zv jj (zc 0) (zc 1)) [Cell.no,Cell.no] ((zi2 w).map λj=>D.tup [.tup (zz h λi=>f i j),.tup (zz w λk=>if j=k then 1 else 0)])=some (zN w (h+w) λj=>jv h (λi=>f i j) (jH j)):=by
   unfold zN;refine zo _ _ λj hj=>zq rfl rfl ?_;simp [jj,S,qK];rfl
  have zp:yC (zN w h λi j=>f j i) (zN w w λi j=>if i=j then 1 else 0)=(zi2 w).map λj=>D.tup [.tup (zz h λi=>f i j),.tup (zz w λk=>if j=k then 1 else 0)]:=by
   unfold yC zN;rw [zkO];simp
  have a8:inR (w:Int)=true:=yP I;have zr:qV (.tup [.int 0]) (.int w)=some (.tup (zz w λ_=>0)):=by
   show(if [D.int 0].length*(w:Int).toNat<=lim/\inR (w:Int)=true then some (D.tup (zi5 (w:Int).toNat [D.int 0]).flatten)else none)=_;rw [if_pos ⟨by simpa using I,a8⟩];congr 2;rw [zjM];clear a6 zp sm ov eb a5 tl a3 O e a8 U S I hw hq s1 s2 Y ae
   induction w with
   | zero=>rfl
   | succ w ih=>rw [List.replicate_succ',List.flatten_append,ih];unfold zz;rw [zkh,zjT];rfl
  have fr:zL (.nm 0) jb (zv jj (zc 0) (zv qV (jx (za (zh (.int 0)) zu)) (sIx (zf 1) (zh (.int 1))))) [Cell.no,Cell.val (jI h w f)] (zN q h g)=some (zN q (h+w) λk=>jv h (g k) λ_=>0):=by
   unfold zN;refine zo _ _ λk hk=>zq rfl rfl ?_;have sq:je (jI h w f)=some (.T,[.int h,.int w,.tup (zN h w f)]):=rfl;simp [sq,zr,jj,S,qK]
  have c1:((h:Int)+(w:Int))=((h+w:Nat):Int):=by omega
  simp only [dsq]at e;rw [<- c1,<- Wa]at e;have sq:je (jI h w f)=some (.T,[.int h,.int w,.tup (zN h w f)]):=rfl;unfold jI at ov sm fr ⊢;simp [F_led_into,ja,zP,zR,ov,sm,zp,I,ad,U,jd,qx,zi5,a6,fr,e,eb]
 ·have:=Vr Z
  refine(this.smul (-1)).congr λi hi=>?_;congr 1;show app f w v i = -1*(jv h (λ_=>0) v i - app f w (λj=>jv h (λ_=>0) v (h+j)) i);rw [zK hi,show(λj=>jv h (λ_=>0) v (h+j))=v from funext λj=>zQ j];omega
 ·have a:=Span.sum (p:=p) (n:=h+w) (G:=Fam (w+q) (qc h w f g)) (u:=λj=>qc h w f g j) v (m:=w) λj hj=> .gen ⟨j,by omega,rfl⟩
  have b:=zdC (w:=w) (f:=f) Z;refine(b.add a (-1)).congr λi hi=>?_;congr 1;rcases zjl i h with z | z
  ·rw [zK z,zK z]
   have:sumTo (λk=>v k*qc h w f g k i) w=app f w v i:=by
    unfold app;exact zw λk hk=>by unfold qc;rw [if_pos hk,zK z,zkY]
   rw [this];omega
  ·obtain⟨k,rfl⟩ : ∃k,i=h+k:=⟨i - h,by omega⟩
   rw [zQ,zQ];have:sumTo (λj=>v j*qc h w f g j (h+k)) w=v k:=by
    rw [jm (f:=λj=>v j*qc h w f g j (h+k)) (i:=k) ⋯ λj hj ai=>by unfold qc;rw [if_pos hj,zQ];simp [jH,ai]];unfold qc;rw [if_pos (show k<w by omega),zQ];simp [jH]
   rw [this];simp
end
@[simp] theorem zee(r):qx (.nest r) = .no:=rfl
@[simp] theorem zfz(r):qx (.own r) = .no:=rfl
@[simp] theorem zfy(d):qx (.val d) = .val d:=rfl
@[simp] theorem zgo:qx .no = .no:=rfl
def begR(w:Nat->Bool)(k:Nat):Nat:=if w k then k+1 else k
def endR(w:Nat->Bool)(k:Nat):Nat:=if w k then k else k+1
theorem X4(w:Nat->Bool)(wd:Nat->Nat)(k):hiW w wd k=wd (endR w k):=by unfold hiW endR;split<;>rfl
theorem Yy(w:Nat->Bool)(wd:Nat->Nat)(k):wiW w wd k=wd (begR w k):=by unfold wiW begR;split<;>rfl
theorem Xb(w:Nat->Bool){k m:Nat}(h:k<m):begR w k<m+1:=by unfold begR;split<;>omega
theorem Q5(w:Nat->Bool){k m:Nat}(h:k<m):endR w k<m+1:=by unfold endR;split<;>omega
structure Bar where
 s:Nat
 n:Nat
 v:Nat->Vc
def Bar.has(b:Bar)(r:Nat):Bool:=decide (b.s<=r) && decide (r<b.s+b.n)
theorem has_iff{b:Bar}{r:Nat}:b.has r=true↔b.s<=r/\r<b.s+b.n:=by simp [Bar.has]
def WP:Bar:=⟨0,0,λ_ _=>0⟩
structure BarOk(p:Int)(w:Nat->Bool)(wd:Nat->Nat)(T:Nat->Nat->Nat->Int)(k:Nat)(b:Bar):Prop where
 n1:1<=b.n
 le:b.s+b.n<=k+1
 rng : ∀r i,b.has r=true->i<wd r->0<=b.v r i/\b.v r i<p
 arr : ∀j,j<k->b.has (begR w j)=true->∀i,i<wd (endR w j)->app (T j) (wd (begR w j)) (b.v (begR w j)) i%p=(if b.has (endR w j)=true then b.v (endR w j) i else 0)%p
def Ord(w:Nat->Bool)(a b:Bar):Prop:=(a.s<b.s->w (b.s - 1)=true)/\(b.s<a.s->w (a.s - 1)=false)
def GenB(bars:List Bar)(r:Nat):Vc->Prop:=λg=>∃b,b∈bars/\b.has r=true/\g=b.v r
def mxV(p:Int)(A:Nat->Bar)(N:Nat)(t:Vc)(r:Nat):Vc:=λc=>sumTo (λj=>if (A j).has r=true then t j*(A j).v r c else 0) N%p
def mxB(p:Int)(A:Nat->Bar)(N:Nat)(t:Vc)(i:Nat):Bar:=⟨(A i).s,(A i).n,mxV p A N t⟩
section
variable{p:Int}{w:Nat->Bool}{wd:Nat->Nat}{T:Nat->Nat->Nat->Int}{k N:Nat}{A:Nat->Bar}
theorem yW(f:Nat->Nat->Int)(h:Nat)(t:Vc)(u:Nat->Vc)(n:Nat)(i:Nat):app f h (λc=>sumTo (λj=>t j*u j c) n) i=sumTo (λj=>t j*app f h (u j) i) n:=by
 unfold app;have e:sumTo (λj=>f i j*sumTo (λk=>t k*u k j) n) h=sumTo (λj=>sumTo (λk=>t k*(f i j*u k j)) n) h:=zw λj _=>by
  rw [<- jW];exact zw λk _=>by rw [<- zk7,<- zk7,zkY (f i j)]
 rw [e,kq];exact zw λj _=>jW ..
theorem zdu(c:Prop) [Decidable c](x y:Int):(if c then x*y else 0)=x*(if c then y else 0):=by split<;>simp
theorem WC(f:Nat->Nat->Int)(h r:Nat)(t:Vc)(i:Nat):app f h (mxV p A N t r) i%p=sumTo (λj=>t j*(if (A j).has r=true then app f h ((A j).v r) i else 0)) N%p:=by
 have e:app f h (mxV p A N t r) i%p=app f h (λc=>sumTo (λj=>t j*(if (A j).has r=true then (A j).v r c else 0)) N) i%p:=jT (λc _=>by
  unfold mxV;rw [zjL];congr 1;exact zw λj _=>zdu ..) i
 rw [e,yW];congr 1;refine zw λj _=>?_;congr 1;by_cases z:(A j).has r=true
 ·simp only [if_pos z]
 ·simp only [if_neg z]
  unfold app;simp [zF]
theorem zfC(p0:0<p)(Z : ∀j,j<N->BarOk p w wd T k (A j))(hk : ∀j,j<N->(A j).has k=true){t:Vc}{i:Nat}(hi:i<N)(hO : ∀c,i<c->c<N->Ord w (A i) (A c))(tz : ∀c,c<i->t c=0) :
 BarOk p w wd T k (mxB p A N t i):=by
 refine⟨(Z i hi).n1,(Z i hi).le,λr c _ _=>⟨zj0 _ ⋯,zjJ _ p0⟩,λj hj O c hc=>?_⟩;have O:(A i).has (begR w j)=true:=O;show app (T j) (wd (begR w j)) (mxV p A N t (begR w j)) c%p=(if (A i).has (endR w j)=true then mxV p A N t (endR w j) c else 0)%p;rw [WC];have a8 : ∀I,I<N->t I≠0->((A i).has (endR w j)=true->(A I).has (endR w j)=true->(A I).has (begR w j)=true)/\((A i).has (endR w j)=false->(A I).has (begR w j)=true->(A I).has (endR w j)=false):=λI S ht=>by
  have h1:=has_iff.mp (hk i hi);have h2:=has_iff.mp (hk I S);have U:i<=I:=Nat.not_lt.mp λz=>ht (tz I z);rcases Nat.lt_or_eq_of_le U with U | U
  ·obtain⟨o1,o2⟩:=hO I U S
   have O:=has_iff.mp O;cases hw:w j with
   | false=>
    have Y:begR w j=j:=by unfold begR;rw [hw];rfl
    have ee:endR w j=j+1:=by unfold endR;rw [hw];rfl
    rw [Y]at O;rw [Y,ee];refine⟨λ_ q=>has_iff.mpr ?_,λq _=>?_⟩
    ·have q:=has_iff.mp q
     refine⟨Nat.not_lt.mp λz=>?_,by omega⟩;have es:(A I).s=j+1:=by omega
     have:=o1 ⋯;rw [es]at this;simp [hw]at this
    ·exfalso
     have:(A i).has (j+1)=true:=has_iff.mpr ⋯;rw [this]at q;cases q
   | true=>
    have Y:begR w j=j+1:=by unfold begR;rw [hw];rfl
    have ee:endR w j=j:=by unfold endR;rw [hw];rfl
    rw [Y]at O;rw [Y,ee];refine⟨λ_ q=>has_iff.mpr ?_,λq _=>?_⟩
    ·have q:=has_iff.mp q
     omega
    ·cases hx:(A I).has j with
     | false=>rfl
     | true=>
      exfalso;have hx:=has_iff.mp hx;have es:(A i).s=j+1:=by
       have : ¬((A i).s<=j):=λz=>by
        have:(A i).has j=true:=has_iff.mpr ⋯;rw [this]at q;cases q
       omega
      have:=o2 ⋯;rw [es]at this;simp [hw]at this
  ·subst U
   exact⟨λ_ _=>O,λq _=>q⟩
 have e1:sumTo (λI=>t I*(if (A I).has (begR w j)=true then app (T j) (wd (begR w j)) ((A I).v (begR w j)) c else 0)) N%p
  = sumTo (λI=>if (A i).has (endR w j)=true then (if (A I).has (endR w j)=true then t I*(A I).v (endR w j) c else 0)else 0) N%p:=z7 λI S=>by
  by_cases ht:t I=0
  ·simp [ht]
  obtain⟨k1,k2⟩:=a8 I S ht;cases hx:(A i).has (endR w j)with
  | false=>
   cases hy:(A I).has (begR w j)with
   | false=>simp
   | true=>
    have q:=(Z I S).arr j hj hy c hc;rw [k2 hx hy]at q;simp only [if_true];rw [zjf,q];simp
  | true=>
   cases hy:(A I).has (begR w j)with
   | false=>
    cases hz:(A I).has (endR w j)with
    | false=>simp
    | true=>rw [k1 hx hz]at hy;cases hy
   | true=>
    have q:=(Z I S).arr j hj hy c hc;simp only [if_true];rw [zjf,q,<- zjf];congr 1;cases hz:(A I).has (endR w j)<;>simp
 rw [e1];cases hx:(A i).has (endR w j)with
 | false=>simp [zF]
 | true=>
  simp only [if_true];unfold mxV;rw [zjL]
theorem zaM{G':Vc->Prop}{r n:Nat}{A':Nat->Bar}(t:Nat->Vc)(Y : ∀i,i<N->t i i=1)(Z : ∀i c,i<N->c<i->t i c=0)
 (a0 : ∀i,i<N->(A i).has r=true->Span p n G' ((A' i).v r)) (he : ∀i,i<N->(A i).has r=true->∀c,c<n->(A' i).v r c%p=mxV p A N (t i) r c%p) :
 ∀i,i<N->(A i).has r=true->Span p n G' ((A i).v r):=by
 have a1 : ∀d i,N - i<=d->i<N->(A i).has r=true->Span p n G' ((A i).v r):=by
  intro d
  induction d with
  | zero=>intro i h1 h2;omega
  | succ d ih=>
   intro i h1 h2 O;have hs:Span p n G' λc=>sumTo (λj=>(if j=i then 0 else if (A j).has r=true then t i j else 0)*(A j).v r c) N:=by
    have gen : ∀M,M<=N->Span p n G' λc=>sumTo (λj=>(if j=i then 0 else if (A j).has r=true then t i j else 0)*(A j).v r c) M:=by
     intro M
     induction M with
     | zero=>intro _;exact .zero λc _=>by simp [sumTo]
     | succ M a4=>
      intro hM;have q:=a4 ⋯;by_cases I:M=i\/¬((A M).has r=true)\/M<i
      ·refine q.congr λc _=>?_
       show(sumTo _ M+_)%p=_;rcases I with I | I | I
       ·simp [I]
       ·simp [I]
       ·have z:=Z i M h2 I;simp only [z];simp
      ·have a5:M≠i/\(A M).has r=true/\¬M<i:=by
        refine⟨λz=>I (.inl z),?_,λz=>I (.inr (.inr z))⟩;cases hx:(A M).has r with
        | true=>rfl
        | false=>exact absurd (.inr (.inl (by rw [hx];decide))) I
       exact((ih M ⋯ ⋯ a5.2.1).add q (if M=i then 0 else if (A M).has r=true then t i M else 0)).congr λc _=>rfl
    exact gen N (zjb _)
   have h0:=hs.add (a0 i h2 O) (-1);refine h0.congr λc I=>?_;have e1:sumTo (λj=>if (A j).has r=true then t i j*(A j).v r c else 0) N=(A i).v r c+sumTo (λj=>(if j=i then 0 else if (A j).has r=true then t i j else 0)*(A j).v r c) N:=by
    have e2:(A i).v r c=sumTo (λj=>if j=i then (A i).v r c else 0) N:=by rw [jm h2 λk _ hk=>by simp [hk]];simp
    rw [e2,<- jO];refine zw λj hj=>?_;by_cases U:j=i
    ·subst U;simp [O,Y j h2]
    ·simp only [if_neg U]
     by_cases hx:(A j).has r=true
     ·simp [hx]
     ·simp [hx]
   have S:=he i h2 O c I;unfold mxV at S;rw [zjL,e1]at S;rw [zjD,S,<- zjD];congr 1;omega
 exact λi h1 h2=>a1 N i ⋯ h1 h2
end
section
variable{p:Int}{n m N h r r2 q:Nat}{B B2 K:Nat->Vc}{l l2 lK:Nat->Nat}{M f:Nat->Nat->Int}
theorem xP{U:Nat->Vc}{v:Vc}(z:Span p n (Fam m U) v) : ∃t:Vc,∀i,i<n->v i%p=sumTo (λj=>t j*U j i) m%p:=by
 induction z with
 | zero h=>exact⟨λ_=>0,λi hi=>by rw [h i hi];simp [zF]⟩
 | @step v w g c I hw he O=>
  obtain⟨t,S⟩:=O;obtain⟨k,Y,rfl⟩:=I;refine⟨λj=>t j+if j=k then c else 0,λi hi=>?_⟩;rw [he i hi,zjD,S i hi,<- zjD];congr 1;have e:sumTo (λj=>(t j+if j=k then c else 0)*U j i) m=sumTo (λj=>t j*U j i) m+sumTo (λj=>(if j=k then c else 0)*U j i) m:=by
   rw [<- jO];exact zw λj _=>Int.add_mul ..
  rw [e,jm (f:=λj=>(if j=k then c else 0)*U j i) Y λj _ Z=>by simp [Z]];simp
theorem qN(a b:Nat->Int)(n:Nat):sumTo (λj=>a j*b j) n=sumTo (λj=>b j*a j) n:=zw λj _=>zkY ..
theorem col_span{u:Vc}:Span p h (Fam N λj i=>M i j) u ↔ ∃x:Vc,∀i,i<h->u i%p=app M N x i%p:=by
 constructor
 ·intro q
  obtain⟨t,z⟩:=xP q;exact⟨t,λi hi=>by rw [z i hi];unfold app;rw [qN]⟩
 ·rintro⟨x,hx⟩
  refine(Span.sum (u:=λj i=>M i j) x (m:=N) λj I=> .gen ⟨j,I,rfl⟩).congr λi hi=>?_;rw [hx i hi];unfold app;rw [qN]
theorem J6(n:Nat)(v:Vc):Span p n (Fam n jH) v:=by
 refine(Span.sum (u:=jH) v (m:=n) λj z=> .gen ⟨j,z,rfl⟩).congr λi hi=>?_;rw [jm (f:=λk=>v k*jH k i) hi λk _ I=>by simp [jH,I]];simp [jH]
theorem wt(z:Pr p)(O:N<=8)(S : ∀v:Vc,∃t,∀i,i<N->v i%p=app f N t i%p){t:Vc}(U : ∀i,i<N->app f N t i%p=0) : ∀j,j<N->t j%p=0:=by
 obtain⟨q,K,l,s,_,hb,I,Y,a3⟩:=qX z (h:=N) ⋯ O f;have Z:Rk p N N (λj i=>f i j) N:=⟨jH,id,Xr z N,λv=>⟨λ_=>col_span.mpr (S v),λ_=>J6 N v⟩⟩;have:=k6 z Y Z;have hq:q=0:=by omega
 subst hq;have:=(I t).mpr λi hi=>by
  have:=U i hi;unfold app at this;exact this
 cases this with
 | zero h=>exact h
 | step hg _ _=>obtain⟨k,I,_⟩:=hg;omega
def wR(r:Nat)(B:Nat->Vc)(l:Nat->Nat)(t:Vc):Vc:=λi=>t i - sumTo (λj=>t (l j)*B j i) r
theorem Zk(I:IsB p N r B l)(t:Vc){j:Nat}(z:j<r):wR r B l t (l j)=0:=by
 unfold wR;rw [jm (f:=λO=>t (l O)*B O (l j)) z λk S U=>by rw [I.oth k j S z (zj6 U)];simp];rw [I.one j z];omega
theorem XX(t:Vc):Span p N (Fam r B) λi=>sumTo (λj=>t (l j)*B j i) r:=Span.sum (u:=B) (λj=>t (l j)) λj z=> .gen ⟨j,z,rfl⟩
theorem zdy(z:IsB p N r B l){t:Vc}(h:Span p N (Fam r B) t)(I : ∀j,j<r->t (l j)%p=0) : ∀i,i<N->t i%p=0:=λi hi=>by
 rw [vj z h i hi];have e:sumTo (λk=>t (l k)*B k i) r%p=sumTo (λ_=>0) r%p:=z7 λk O=>by rw [zjf,I k O];simp
 rw [e,zF];simp
theorem Xq(z:Pr p)(I:IsB p N r B l){i:Nat}(hi:i<N)(hn : ∀j,j<r->l j≠i) : ¬Span p N (Fam r B) (jH i):=λh=>by
 have:=zdy I h (λj O=>by unfold jH;rw [if_neg (zj6 (hn j O))];simp) i hi;unfold jH at this;rw [if_pos rfl,z.one]at this;omega
theorem Jk(g:Nat->Nat->Int)(w:Nat)(u v:Vc)(i:Nat):app g w (λj=>u j - v j) i=app g w u i - app g w v i:=by
 have e:app g w u i=app g w (λj=>u j - v j) i+app g w v i:=by
  unfold app;rw [<- jO];exact zw λj _=>by dsimp only;rw [<- zmb];congr 1;omega
 omega
def QJ(M f:Nat->Nat->Int)(N:Nat):Nat->Nat->Int:=λi j=>sumTo (λk=>M i k*f k j) N
theorem vH(t:Vc)(i:Nat):app (QJ M f N) N t i=app M N (app f N t) i:=by
 unfold app QJ;have e:sumTo (λj=>sumTo (λk=>M i k*f k j) N*t j) N=sumTo (λj=>sumTo (λk=>M i k*(f k j*t j)) N) N:=zw λj _=>by
  rw [<- kr];exact zw λk _=>zk7 ..
 rw [e,kq];exact zw λk _=>jW ..
theorem zeD(hp:Pr p)(hN:N<=8)(hh:h<=8)(hs : ∀v:Vc,∃t,∀i,i<N->v i%p=app f N t i%p)(hb:IsB p N r B l)(U : ∀t,Span p N (Fam r B) t↔Ker p h N M (app f N t))
 (a5:IsB p h r2 B2 l2) (hI : ∀v,Span p h (Fam r2 B2) v↔Span p h (Fam N λj i=>M i j) v) :
 (∀j,j<r->∀i,i<h->app M N (app f N (B j)) i%p=0)/\(∀c,c<N->(∀j,j<r->l j≠c)->∃i,i<h/\app M N (λa=>f a c) i%p≠0)/\r+r2=N/\
   ∀S:Vc->Prop,(∀c,c<N->(∀j,j<r->l j≠c)->Span p h S (app M N λa=>f a c))->(∀c,c<h->(∀j,j<r2->l2 j≠c)->Span p h S (jH c))->∀v,Span p h S v:=by
 have a2 : ∀t:Vc,Ker p h N M (app f N t) ↔ ∀i,i<h->app M N (app f N t) i%p=0:=λt=>Iff.rfl;have a9 : ∀(c:Nat),c<N->∀i,app M N (λa=>f a c) i%p=app M N (app f N (jH c)) i%p:=λc I i=>jT (λa _=>by rw [Jj f I]) i;refine⟨λj O=>(a2 _).mp ((U (B j)).mp (.gen ⟨j,O,rfl⟩)),λc I hn=>?_,?_,λS h1 h2 v=>?_⟩
 ·refine zka λz=>Xq hp hb I hn ((U _).mpr ((a2 _).mpr λi hi=>?_))
  rw [<- a9 c I i];exact zka λy=>z ⟨i,hi,y⟩
 ·obtain⟨q',K',l',s',_,ab,a7,ac,am⟩:=qX hp (h:=h) (w:=N) ⋯ hN (QJ M f N)
  have e1:q'=r:=(Qk hp ab hb (λv hv=>(U v).mpr λi hi=>by
   have:=(a7 v).mp hv i hi;rw [show sumTo (λj=>QJ M f N i j*v j) N=app (QJ M f N) N v i from rfl,vH]at this;exact this) λv hv=>(a7 v).mpr λi hi=>by
   have:=(U v).mp hv i hi;rw [show sumTo (λj=>QJ M f N i j*v j) N=app (QJ M f N) N v i from rfl,vH];exact this).1
  have e2:s'=r2:=by
   refine k6 hp ac ⟨B2,l2,a5,λv=>(hI v).trans ⟨λz=>?_,λz=>?_⟩⟩
   ·obtain⟨x,hx⟩:=col_span.mp z
    obtain⟨t,Y⟩:=hs x;refine col_span.mpr ⟨t,λi hi=>?_⟩;rw [hx i hi,vH];exact jT Y i
   ·obtain⟨t,Y⟩:=col_span.mp z
    exact col_span.mpr ⟨app f N t,λi hi=>by rw [Y i hi,vH]⟩
  omega
 ·
  have im : ∀t:Vc,Span p h S (app M N (app f N t)):=λt=>by
   have hz:=(a2 _).mp ((U _).mp (XX (p:=p) (N:=N) (B:=B) (r:=r) (l:=l) t));have e : ∀i,i<h->app M N (app f N t) i%p=app M N (app f N (wR r B l t)) i%p:=λi hi=>by
    have e0:app M N (app f N (wR r B l t)) i=app M N (app f N t) i - app M N (app f N λi=>sumTo (λj=>t (l j)*B j i) r) i:=by
     rw [<- Jk];congr 1;funext a;exact Jk ..
    rw [e0,zkF,hz i hi];simp
   refine Span.congr ?_ e;have e3 : ∀i,app M N (app f N (wR r B l t)) i=sumTo (λc=>wR r B l t c*app M N (λa=>f a c) i) N:=λi=>by
    rw [<- yW];congr 1;funext a;unfold app;exact qN ..
   have s1 : ∀K,K<=N->Span p h S λi=>sumTo (λc=>wR r B l t c*app M N (λa=>f a c) i) K:=by
    intro K
    induction K with
    | zero=>intro _;exact .zero λi _=>by simp [sumTo]
    | succ K Z=>
     intro hK;by_cases I : ∃j,j<r/\l j=K
     ·obtain⟨j,O,rfl⟩:=I
      refine(Z ⋯).congr λi _=>?_;show(sumTo _ (l j)+_)%p=_;have z:=Zk hb t O;simp only [z];simp
     ·exact((h1 K ⋯ λj O z=>I ⟨j,O,z⟩).add (Z ⋯) _).congr λi _=>rfl
   exact(s1 N (zjb _)).congr λi _=>by rw [e3]
  have ai : ∀u,Span p h (Fam r2 B2) u->Span p h S u:=λu hu=>by
   obtain⟨x,hx⟩:=col_span.mp ((hI u).mp hu);obtain⟨t,Y⟩:=hs x;exact(im t).congr λi hi=>by rw [hx i hi];exact jT Y i
  have s2 : ∀K,K<=h->Span p h S λi=>sumTo (λc=>wR r2 B2 l2 v c*jH c i) K:=by
   intro K
   induction K with
   | zero=>intro _;exact .zero λi _=>by simp [sumTo]
   | succ K Z=>
    intro hK;by_cases I : ∃j,j<r2/\l2 j=K
    ·obtain⟨j,O,rfl⟩:=I
     refine(Z ⋯).congr λi _=>?_;show(sumTo _ (l2 j)+_)%p=_;have z:=Zk a5 v O;simp only [z];simp
    ·exact((h2 K ⋯ λj O z=>I ⟨j,O,z⟩).add (Z ⋯) _).congr λi _=>rfl
  refine((ai _ (XX (B:=B2) (r:=r2) (l:=l2) v)).add (s2 h (zjb _)) 1).congr λi hi=>?_;congr 1;rw [jm (f:=λc=>wR r2 B2 l2 v c*jH c i) hi λc _ I=>by simp [jH,I]];simp only [jH,if_true,wR];omega
theorem zeE(O:Pr p)(hN:N<=8)(hh:h<=8)(hs : ∀v:Vc,∃t,∀i,i<N->v i%p=app f N t i%p)(Z:IsB p N r B l)(hW : ∀t,Span p N (Fam r B) t↔Span p N (Fam h λj i=>M i j) (app f N t))
 (hk : ∀v,Span p h (Fam q K) v↔Ker p N h M v) {s:Nat} (hr:Rk p N h (λj i=>M i j) s) (as:q+s=h) :
 (∀j,j<r->∃y:Vc,∀i,i<N->app M h y i%p=app f N (B j) i%p)/\(∀c,c<N->(∀j,j<r->l j≠c)->¬∃y:Vc,∀i,i<N->app M h y i%p=f i c%p)/\r+q=h/\
   ∀(Gx:Vc->Prop) (x:Nat->Vc),(∀j,j<r->Span p h Gx (x j)/\∀i,i<N->app M h (x j) i%p=app f N (B j) i%p)->(∀j,j<q->Span p h Gx (K j))->∀v,Span p h Gx v:=by
 have a6 : ∀t,Span p N (Fam r B) t ↔ ∃y:Vc,∀i,i<N->app f N t i%p=app M h y i%p:=λt=>(hW t).trans col_span;have inj : ∀{t:Vc},(∀i,i<N->app f N t i%p=0)->∀j,j<N->t j%p=0:=λU=>wt O hN hs U;refine⟨λj I=>?_,λc hc hn z=>?_,?_,λGx x h1 h2 v=>?_⟩
 ·obtain⟨y,hy⟩:=(a6 (B j)).mp (.gen ⟨j,I,rfl⟩)
  exact⟨y,λi hi=>(hy i hi).symm⟩
 ·obtain⟨y,hy⟩:=z
  exact Xq O Z hc hn ((a6 _).mpr ⟨y,λi hi=>by rw [Jj f hc,hy i hi]⟩)
 ·have ae:s<=8/\r<=8:=by
   obtain⟨s',au,ai⟩:=KM O (n:=N) (m:=h) ⋯ hh λj i=>M i j;refine⟨by rw [k6 O hr ai];omega,?_⟩;have : ∀r',r'<=r->r'<=N:=by
    intro r';have mono : ∀k,k<r->k<=l k:=by
     intro k
     induction k with
     | zero=>intro _;omega
     | succ k ih=>intro hk;have:=ih ⋯;have:=Z.mono k (k+1) ⋯ hk;omega
    intro av;cases r' with
    | zero=>omega
    | succ af=>have:=mono af ⋯;have:=Z.lt af ⋯;omega
   have:=this r (zjb _);omega
  have aw:s<=r:=by
   obtain⟨s',a1,a2⟩:=KM O (n:=N) (m:=r) ⋯ ae.2 λj=>app f N (B j);have e:s=s':=by
    obtain⟨C,Y,hC,a7⟩:=hr;refine k6 O (m:=h) (W:=λj i=>M i j) ⟨C,Y,hC,a7⟩ ?_;obtain⟨C',am,an,ao⟩:=a2;refine⟨C',am,an,λv=>(ao v).trans ⟨λz=>?_,λz=>?_⟩⟩
    ·exact z.le λg S=>by
      obtain⟨j,I,rfl⟩:=S;exact(hW (B j)).mp (.gen ⟨j,I,rfl⟩)
    ·obtain⟨y,hy⟩:=col_span.mp z
     obtain⟨t,U⟩:=hs v;have ac:Span p N (Fam r B) t:=(a6 t).mpr ⟨y,λi hi=>by rw [<- U i hi,hy i hi]⟩;refine(Span.sum (u:=λj=>app f N (B j)) (λj=>t (l j)) (m:=r) λj I=> .gen ⟨j,I,rfl⟩).congr λi hi=>?_;rw [U i hi,<- yW];exact jT (λj I=>vj Z ac j I) i
   omega
  have ax:r<=s:=by
   obtain⟨C,Y,hC,a7⟩:=hr;have ex : ∀j,∃t:Vc,∀i,i<N->C j i%p=app f N t i%p:=λj=>hs (C j);have g:Nat->Vc:=λj=>Classical.choose (ex j);have S : ∃g:Nat->Vc,∀j i,i<N->C j i%p=app f N (g j) i%p:=⟨λj=>Classical.choose (ex j),λj=>Classical.choose_spec (ex j)⟩;obtain⟨g,S⟩:=S;obtain⟨s',a1,a2⟩:=KM O (n:=N) (m:=s) ⋯ ae.1 g;have e:r=s':=by
    refine k6 O (m:=s) (W:=g) ⟨B,l,Z,λv=>⟨λz=>?_,λz=>?_⟩⟩ a2
    ·have hv:=(a7 _).mpr ((hW v).mp z)
     refine(Span.sum (u:=g) (λj=>app f N v (Y j)) (m:=s) λj I=> .gen ⟨j,I,rfl⟩).congr λi hi=>?_;have z0 : ∀a,a<N->app f N (λi=>v i - sumTo (λj=>app f N v (Y j)*g j i) s) a%p=0:=λa ha=>by
      rw [Jk,yW,zkF,vj hC hv a ha];have e:sumTo (λk=>app f N v (Y k)*C k a) s%p=sumTo (λk=>app f N v (Y k)*app f N (g k) a) s%p:=z7 λk _=>by rw [zjf,S k a ha,<- zjf]
      rw [e];simp
     have:=inj z0 i hi;have q2:=Int.emod_emod_of_dvd;exact(Int.emod_emod_of_dvd _ (Int.dvd_refl p)).symm.trans (by
      rw [zjL];have:(v i - sumTo (λj=>app f N v (Y j)*g j i) s)%p=0:=this;exact zk9.mpr this)
    ·refine z.le λu hu=>?_
     obtain⟨j,I,rfl⟩:=hu;refine(hW _).mpr (((a7 (C j)).mp (.gen ⟨j,I,rfl⟩)).congr λi hi=>(S j i hi).symm)
   omega
  omega
 ·obtain⟨t,U⟩:=hs (app M h v)
  have ac:Span p N (Fam r B) t:=(a6 t).mpr ⟨v,λi hi=>(U i hi).symm⟩;have hx:Span p h Gx λc=>sumTo (λj=>t (l j)*x j c) r:=Span.sum (u:=x) (λj=>t (l j)) λj I=>(h1 j I).1;have hd:Span p h Gx λc=>v c - sumTo (λj=>t (l j)*x j c) r:=by
   refine((hk _).mpr λi hi=>?_).le λg S=>by obtain⟨j,I,rfl⟩:=S;exact h2 j I
   show app M h (λc=>v c - sumTo (λj=>t (l j)*x j c) r) i%p=0;rw [Jk,yW,zkF];have e:sumTo (λj=>t (l j)*app M h (x j) i) r%p=app M h v i%p:=by
    rw [U i hi,jT (λj I=>vj Z ac j I) i,yW];exact z7 λj I=>by rw [zjf,(h1 j I).2 i hi,<- zjf]
   rw [e];simp
  refine(hx.add hd 1).congr λc _=>?_;congr 1;omega
end
structure BrInv(p:Int)(w:Nat->Bool)(wd:Nat->Nat)(T:Nat->Nat->Nat->Int)(k:Nat)(bars:List Bar):Prop where
 ok : ∀b,b∈bars->BarOk p w wd T k b
 sp : ∀r,r<=k->∀v,Span p (wd r) (GenB bars r) v
 ct : ∀r,r<=k->bars.countP (λb=>b.has r)=wd r
 od:(bars.filter λb=>b.has k).Pairwise (Ord w)
def ldx(r:Nat)(l:Nat->Nat)(i:Nat):Option Nat:=(zi2 r).find? λj=>l j==i
theorem qt{r:Nat}{l:Nat->Nat}{i j:Nat}(h:ldx r l i=some j):j<r/\l j=i:=by
 have h1:=List.find?_some h;have h2:=List.mem_of_find?_eq_some h;exact⟨zi6.mp h2,by simpa using h1⟩
theorem vx{r:Nat}{l:Nat->Nat}{i:Nat}(h:ldx r l i=none) : ∀j,j<r->l j≠i:=λj z=>by
 have:=zlN.mp h j (zi6.mpr z);simpa using this
def stB(p:Int)(A:Nat->Bar)(N r:Nat)(B:Nat->Vc)(l:Nat->Nat)(i:Nat):Bar:=match ldx r l i with
 | some j=>mxB p A N (B j) i
 | none=>A i
def exB(k:Nat)(b:Bar):Option Vc->Bar
 | none=>b
 | some y=>⟨b.s,b.n+1,λr=>if r=k+1 then y else b.v r⟩
def nuB(k:Nat)(y:Vc):Bar:=⟨k+1,1,λ_=>y⟩
def tco(r:Nat)(B:Nat->Vc)(l:Nat->Nat)(i:Nat):Vc:=match ldx r l i with
 | some j=>B j
 | none=>jH i
theorem YR(p A N r B l i):(stB p A N r B l i).s=(A i).s:=by unfold stB;split<;>rfl
theorem zeF(p A N r B l i):(stB p A N r B l i).n=(A i).n:=by unfold stB;split<;>rfl
theorem Qt(p A N r B l i rm):(stB p A N r B l i).has rm=(A i).has rm:=by unfold Bar.has;rw [YR,zeF]
theorem yM{k r:Nat}{y:Vc}:(nuB k y).has r=decide (r=k+1):=by
 unfold nuB Bar.has;by_cases h:r=k+1
 ·simp [h]
 ·simp [h];intro;omega
section
variable{p:Int}{w:Nat->Bool}{wd:Nat->Nat}{T:Nat->Nat->Nat->Int}{k N r:Nat}{A:Nat->Bar}{B:Nat->Vc}{l:Nat->Nat}
theorem zbE(z:IsB p N r B l){i:Nat}(hi:i<N):tco r B l i i=1/\∀c,c<i->tco r B l i c=0:=by
 unfold tco;cases hj:ldx r l i with
 | some j=>
  obtain⟨h1,h2⟩:=qt hj;subst h2;exact⟨z.one j h1,λc I=>z.bef j c h1 I⟩
 | none=>exact⟨by simp [jH],λc I=>by simp only [jH];rw [if_neg ⋯]⟩
theorem zcC{z:Nat}{i c:Nat}(hi:i<N)(O:(A i).has z=true):(stB p A N r B l i).v z c%p=mxV p A N (tco r B l i) z c%p:=by
 unfold stB tco;cases I:ldx r l i with
 | some j=>rfl
 | none=>
  show(A i).v z c%p=_;unfold mxV;rw [zjL];congr 1;rw [jm (f:=λj=>if (A j).has z=true then jH i j*(A j).v z c else 0) hi λj _ I=>by unfold jH;rw [if_neg (zj6 I)];simp];simp [jH,O]
theorem zbF(I:0<p)(O:IsB p N r B l)(z : ∀j,j<N->BarOk p w wd T k (A j))(S : ∀j,j<N->(A j).has k=true)(U : ∀i c,i<c->c<N->Ord w (A i) (A c)){i:Nat}(hi:i<N):BarOk p w wd T k (stB p A N r B l i):=by
 unfold stB;split
 ·next j Y=>
  obtain⟨h1,h2⟩:=qt Y;subst h2;exact zfC I z S hi (λc h1 h2=>U _ c h1 h2) λc Z=>O.bef j c h1 Z
 ·exact z i hi
theorem Zq{b:Bar}{o:Option Vc}{z:Nat}(I:z<=k)(he:b.s+b.n=k+1):(exB k b o).has z=b.has z/\(exB k b o).v z=b.v z:=by
 cases o with
 | none=>exact⟨rfl,rfl⟩
 | some y=>
  refine⟨?_,by simp only [exB];rw [if_neg ⋯]⟩;unfold exB Bar.has;simp only;congr 1;exact decide_eq_decide.mpr ⋯
theorem Q2{b:Bar}{o:Option Vc}(he:b.s+b.n=k+1):(exB k b o).has (k+1)=o.isSome:=by
 cases o with
 | none=>unfold exB Bar.has;simp;omega
 | some y=>unfold exB Bar.has;simp;omega
theorem zdE(k b o):(exB k b o).s=b.s:=by cases o<;>rfl
theorem zfW(p0:0<p){b:Bar}{o:Option Vc}(he:b.s+b.n=k+1)(U:BarOk p w wd T k b)(hr : ∀y,o=some y->∀c,c<wd (k+1)->0<=y c/\y c<p)
 (h0:o=none->w k=false->∀c,c<wd (k+1)->app (T k) (wd k) (b.v k) c%p=0) (h1 : ∀y,o=some y->w k=false->∀c,c<wd (k+1)->app (T k) (wd k) (b.v k) c%p=y c%p)
 (h2 : ∀y,o=some y->w k=true->∀c,c<wd k->app (T k) (wd (k+1)) y c%p=b.v k c%p):BarOk p w wd T (k+1) (exB k b o):=by
 have ab:=U.n1;refine⟨?_,?_,λO c hh z=>?_,λj hj Y c z=>?_⟩
 ·cases o with
  | none=>exact U.n1
  | some y=>show 1<=b.n+1;omega
 ·cases o with
  | none=>show b.s+b.n<=k+1+1;omega
  | some y=>show b.s+(b.n+1)<=k+1+1;omega
 ·by_cases a5:O<=k
  ·obtain⟨e1,I⟩:=Zq (o:=o) a5 he
   rw [e1]at hh;rw [I];exact U.rng O c hh z
  ·have a2:=has_iff.mp hh
   cases o with
   | none=>exact absurd a2.2 (by show ¬(O<b.s+b.n);omega)
   | some y=>
    have:O=k+1:=by have:O<b.s+(b.n+1):=a2.2;omega
    subst this;have e:(exB k b (some y)).v (k+1)=y:=by simp [exB]
    rw [e];exact hr y rfl c z
 ·by_cases a1:j<k
  ·have g1:begR w j<=k:=by unfold begR;split<;>omega
   have g2:endR w j<=k:=by unfold endR;split<;>omega
   obtain⟨e1,I⟩:=Zq (o:=o) g1 he;obtain⟨e3,e4⟩:=Zq (o:=o) g2 he;rw [e1]at Y;rw [I,e3,e4];exact U.arr j a1 Y c z
  ·have a1:j=k:=by omega
   subst a1;obtain⟨e1,I⟩:=Zq (o:=o) (zjb j) he;have e5:=Q2 (k:=j) (o:=o) he;have a9:b.has j=true:=has_iff.mpr ⋯;cases hw:w j with
   | false=>
    have Z:begR w j=j:=by unfold begR;rw [hw];rfl
    have S:endR w j=j+1:=by unfold endR;rw [hw];rfl
    rw [S]at z;rw [Z,S,I,e5];cases o with
    | none=>rw [h0 rfl hw c z];simp
    | some y=>rw [h1 y rfl hw c z];simp [exB]
   | true=>
    have Z:begR w j=j+1:=by unfold begR;rw [hw];rfl
    have S:endR w j=j:=by unfold endR;rw [hw];rfl
    rw [S]at z;rw [Z,e5]at Y;rw [Z,S,e1,I,a9];cases o with
    | none=>cases Y
    | some y=>
     have e:(exB j b (some y)).v (j+1)=y:=by simp [exB]
     rw [e,h2 y rfl hw c z];simp
theorem zfB{y:Vc}(Y : ∀c,c<wd (k+1)->0<=y c/\y c<p)(h2:w k=true->∀c,c<wd k->app (T k) (wd (k+1)) y c%p=0):BarOk p w wd T (k+1) (nuB k y):=by
 refine⟨zjb _,by show k+1+1<=k+1+1;omega,λrm c O z=>?_,λj hj I c z=>?_⟩
 ·rw [yM]at O
  have:=of_decide_eq_true O;subst this;exact Y c z
 ·rw [yM]at I
  have I:=of_decide_eq_true I;cases hw:w j with
  | false=>
   have S:begR w j=j:=by unfold begR;rw [hw];rfl
   omega
  | true=>
   have S:begR w j=j+1:=by unfold begR;rw [hw];rfl
   have U:endR w j=j:=by unfold endR;rw [hw];rfl
   have Z:j=k:=by omega
   subst Z;rw [U]at z;have e0:(nuB j y).has (endR w j)=false:=by rw [yM,U];simp
   rw [e0,S];show app (T j) (wd (j+1)) y c%p=_;rw [h2 hw c z];simp
def kY(p:Int)(k:Nat)(w:Nat->Bool)(bars:List Bar)(A:Nat->Bar)(N r:Nat)(B:Nat->Vc)(l:Nat->Nat)(nx:Nat->Option Vc)(z:List Vc):List Bar:=
 (bars.filter λb=> !b.has k)++(if w k then (zi2 N).map (λi=>exB k (stB p A N r B l i) (nx i))++z.map (nuB k)else z.map (nuB k)++(zi2 N).map λi=>exB k (stB p A N r B l i) (nx i))
theorem VZ(p0:0<p){bars:List Bar}(I:BrInv p w wd T k bars)(hN:(bars.filter λb=>b.has k).length=N)(Y : ∀j,A j=(bars.filter λb=>b.has k).getD j WP)(O:IsB p N r B l)
 {nx:Nat->Option Vc} {S:List Vc} (c1 : ∀i y,i<N->nx i=some y->∀c,c<wd (k+1)->0<=y c/\y c<p) (c2 : ∀y,y∈S->∀c,c<wd (k+1)->0<=y c/\y c<p)
 (d0 : ∀i,i<N->nx i=none->w k=false->∀c,c<wd (k+1)->app (T k) (wd k) ((stB p A N r B l i).v k) c%p=0)
 (d1 : ∀i y,i<N->nx i=some y->w k=false->∀c,c<wd (k+1)->app (T k) (wd k) ((stB p A N r B l i).v k) c%p=y c%p)
 (d2 : ∀i y,i<N->nx i=some y->w k=true->∀c,c<wd k->app (T k) (wd (k+1)) y c%p=(stB p A N r B l i).v k c%p)
 (d3 : ∀y,y∈S->w k=true->∀c,c<wd k->app (T k) (wd (k+1)) y c%p=0)
 (s1 : ∀v,Span p (wd (k+1)) (λg=>(∃i,i<N/\nx i=some g)\/g∈S) v) (n1:(zi2 N).countP (λi=>(nx i).isSome)+S.length=wd (k+1)) :
 BrInv p w wd T (k+1) (kY p k w bars A N r B l nx S):=by
 have mA : ∀j,j<N->A j∈bars/\(A j).has k=true:=λj Z=>by
  have:A j∈bars.filter λb=>b.has k:=by
   rw [Y j,zjd,zi8 ⋯];exact zkN _
  have:=zjz.mp this;exact⟨this.1,by simpa using this.2⟩
 have aa : ∀j,j<N->BarOk p w wd T k (A j):=λj Z=>I.ok _ (mA j Z).1;have hO : ∀i c,i<c->c<N->Ord w (A i) (A c):=λi c h1 h2=>by
  have:=zkP.mp I.od i c ⋯ ⋯ h1;rw [Y i,Y c,zjd,zi8 ⋯,zjd,zi8 ⋯];exact this
 have okS : ∀i,i<N->BarOk p w wd T k (stB p A N r B l i):=λi hi=>zbF p0 O aa (λj Z=>(mA j Z).2) hO hi;have a0 : ∀i,i<N->(stB p A N r B l i).s+(stB p A N r B l i).n=k+1:=λi hi=>by
  rw [YR,zeF];have h1:=has_iff.mp (mA i hi).2;have h2:=(aa i hi).le;omega
 have a3 : ∀b,b∈bars->b.has k=false->b.s+b.n<=k:=λb O hk=>by
  have h1:=(I.ok b O).le;have h2:=(I.ok b O).n1;refine Nat.not_lt.mp λz=>?_;have:b.has k=true:=has_iff.mpr ⋯;rw [this]at hk;cases hk
 have mem : ∀b,b∈kY p k w bars A N r B l nx S↔(b∈bars/\b.has k=false)\/(∃i,i<N/\b=exB k (stB p A N r B l i) (nx i))\/∃y,y∈S/\b=nuB k y:=λb=>by
  unfold kY;rw [zkH,zjz];refine or_congr ⋯ ?_;cases w k<;>simp only [zkB,if_false,if_true,zkH,zjx,zi6]
  ·constructor
   ·rintro(⟨y,h1,h2⟩ | ⟨i,h1,h2⟩)
    ·exact .inr ⟨y,h1,h2.symm⟩
    ·exact .inl ⟨i,h1,h2.symm⟩
   ·rintro(⟨i,h1,h2⟩ | ⟨y,h1,h2⟩)
    ·exact .inr ⟨i,h1,h2.symm⟩
    ·exact .inl ⟨y,h1,h2.symm⟩
  ·constructor
   ·rintro(⟨i,h1,h2⟩ | ⟨y,h1,h2⟩)
    ·exact .inl ⟨i,h1,h2.symm⟩
    ·exact .inr ⟨y,h1,h2.symm⟩
   ·rintro(⟨i,h1,h2⟩ | ⟨y,h1,h2⟩)
    ·exact .inl ⟨i,h1,h2.symm⟩
    ·exact .inr ⟨y,h1,h2.symm⟩
 have cnt : ∀P:Bar->Bool,(kY p k w bars A N r B l nx S).countP P=(bars.filter λb=> !b.has k).countP P+(zi2 N).countP (λi=>P (exB k (stB p A N r B l i) (nx i)))+(S.map (nuB k)).countP P:=λP=>by
  unfold kY;rw [zlP];cases w k<;>simp only [zkB,if_false,if_true,zlP,zlj (f:=λi=>exB k (stB p A N r B l i) (nx i))]
  ·rw [zl8,Nat.add_comm (List.countP P (List.map (nuB k) S))];rfl
  ·rw [zl8];rfl
 refine⟨λb ap=>?_,λU hr v=>?_,λU hr=>?_,?_⟩
 ·rcases (mem b).mp ap with⟨h1,h2⟩ | ⟨i,hi,rfl⟩ | ⟨y,hy,rfl⟩
  ·have hk:=a3 b h1 h2
   have ob:=I.ok b h1;refine⟨ob.n1,by omega,ob.rng,λj Z ad c hc=>?_⟩;have av:=has_iff.mp ad;refine ob.arr j ?_ ad c hc;have:begR w j>=j:=by unfold begR;split<;>omega
   omega
  ·exact zfW p0 (a0 i hi) (okS i hi) (λy e=>c1 i y hi e) (λe=>d0 i hi e) (λy e=>d1 i y hi e) λy e=>d2 i y hi e
  ·exact zfB (c2 y hy) (d3 y hy)
 ·by_cases a1:U<=k
  ·refine(I.sp U a1 v).le λg hg=>?_
   obtain⟨b,h1,h2,rfl⟩:=hg;cases hbk:b.has k with
   | false=>exact .gen ⟨b,(mem b).mpr (.inl ⟨h1,hbk⟩),h2,rfl⟩
   | true=>
    have ar:b∈bars.filter λb=>b.has k:=zjz.mpr ⟨h1,by simpa using hbk⟩;obtain⟨i,hi,e⟩:=zmw ar;have ei:A i=b:=by rw [Y i,zjd,zi8 hi];exact e
    rw [<- ei]at h2 ⊢;refine zaM (A:=A) (A':=λi=>stB p A N r B l i) (t:=λi=>tco r B l i) (λi hi=>(zbE O hi).1) (λi c hi hc=>(zbE O hi).2 c hc) (λi hi hh=>?_) (λi hi hh c _=>zcC hi hh) i ⋯ h2;obtain⟨x1,x2⟩:=Zq (o:=nx i) a1 (a0 i hi);exact .gen ⟨_,(mem _).mpr (.inr (.inl ⟨i,hi,rfl⟩)),by rw [x1,Qt];exact hh,by rw [x2]⟩
  ·have:U=k+1:=by omega
   subst this;refine(s1 v).le λg hg=>?_;rcases hg with⟨i,hi,e⟩ | hg
   ·refine .gen ⟨_,(mem _).mpr (.inr (.inl ⟨i,hi,rfl⟩)),?_,?_⟩
    ·rw [Q2 (a0 i hi),e];rfl
    ·rw [e];simp [exB]
   ·exact .gen ⟨_,(mem _).mpr (.inr (.inr ⟨g,hg,rfl⟩)),by rw [yM];simp,rfl⟩
 ·rw [cnt]
  by_cases a1:U<=k
  ·have e1:(S.map (nuB k)).countP (λb=>b.has U)=0:=zlF.mpr λb O=>by
    obtain⟨y,_,rfl⟩:=zjx.mp O;rw [yM];simp;omega
   have e2:(zi2 N).countP (λi=>(exB k (stB p A N r B l i) (nx i)).has U)=(bars.filter λb=>b.has k).countP λb=>b.has U:=by
    have:(bars.filter λb=>b.has k)=(zi2 N).map A:=by
     rw [<- j4 WP (bars.filter λb=>b.has k),hN];exact zjg λj _=>(Y j).symm
    rw [this,zlj];refine zko λi hi=>?_;have hi:=zi6.mp hi;rw [(Zq (o:=nx i) a1 (a0 i hi)).1,Qt];rfl
   rw [e1,e2,<- I.ct U a1,List.countP_eq_countP_filter_add bars (λb=>b.has U) λb=>b.has k];omega
  ·have:U=k+1:=by omega
   subst this;have e0:(bars.filter λb=> !b.has k).countP (λb=>b.has (k+1))=0:=zlF.mpr λb O=>by
    obtain⟨h1,h2⟩:=zjz.mp O;have:=a3 b h1 (by simpa using h2);intro z;have:=has_iff.mp z;omega
   have e1:(S.map (nuB k)).countP (λb=>b.has (k+1))=S.length:=by
    rw [List.countP_eq_length.mpr λb O=>?_,zjh];obtain⟨y,_,rfl⟩:=zjx.mp O;rw [yM];simp
   have e2:(zi2 N).countP (λi=>(exB k (stB p A N r B l i) (nx i)).has (k+1))=(zi2 N).countP λi=>(nx i).isSome:=zko λi hi=>by
    rw [Q2 (a0 i (zi6.mp hi))]
   rw [e0,e1,e2];omega
 ·have e0:((bars.filter λb=> !b.has k).filter λb=>b.has (k+1))=[]:=List.filter_eq_nil_iff.mpr λb O=>by
   obtain⟨h1,h2⟩:=zjz.mp O;have:=a3 b h1 (by simpa using h2);intro z;have:=has_iff.mp z;omega
  have pO:((zi2 N).map λi=>exB k (stB p A N r B l i) (nx i)).Pairwise (Ord w):=by
   rw [zlq];refine zlA (λ{a b} ha O h=>?_) (zlp (n:=N));have:=hO a b h (zi6.mp O);unfold Ord;rw [zdE,zdE,YR,YR];exact this
  have pN:(S.map (nuB k)).Pairwise (Ord w):=by
   rw [zlq];refine zkP.mpr λ_ _ _ _ _=>⟨λz=>?_,λz=>?_⟩
   ·exact absurd z (zjP (k+1))
   ·exact absurd z (zjP (k+1))
  have so : ∀b,b∈(zi2 N).map (λi=>exB k (stB p A N r B l i) (nx i))->b.s<=k:=λb O=>by
   obtain⟨i,hi,rfl⟩:=zjx.mp O;have hi:=zi6.mp hi;rw [zdE,YR];exact(has_iff.mp (mA i hi).2).1
  have sn : ∀b,b∈S.map (nuB k)->b.s=k+1:=λb O=>by
   obtain⟨y,_,rfl⟩:=zjx.mp O;rfl
  unfold kY;rw [zlO,e0,zmj];refine zl1 _ ?_;cases hw:w k with
  | false=>
   simp only [zkB,if_false];refine List.pairwise_append.mpr ⟨pN,pO,λa ha b O=>?_⟩;have h1:=sn a ha;have h2:=so b O;exact⟨λz=>by omega,λ_=>by rw [h1];exact hw⟩
  | true=>
   simp only [if_true];refine List.pairwise_append.mpr ⟨pO,pN,λa ha b O=>?_⟩;have h1:=sn b O;have h2:=so a ha;exact⟨λ_=>by rw [h1];exact hw,λz=>by omega⟩
end
def F_ask_together:List D->Option Res:=ja 1 (sIf (sB (zv dGt (zcO (zf 0)) (zh (.int 30)))) kS j9)
def F_widths_together:List D->Option Res:=ja 3 (zI (zU 2 (zO (jy (zD (wK (sIx (zf 0) (zh (.int 1))) (sIx (zf 1) (zh (.int 1)))) (.tp [0,1]) 2 [] jb (zv jj (zc 0) (zc 1)))))) (zI (QB (zn F_ask_together (za (zc 2) zu))) (k5 2)))
def F_joined:List D->Option Res:=ja 5 (zI (zU 3 (zn F_widths_together (za (zc 0) (za (zc 1) zu)))) (zI (zU 4 (jp (zD (YY (sIx (zf 0) (zh (.int 2))) (sIx (zf 1) (zh (.int 2))) (zc 2)) (.tp [0,1,2]) 3 [] jb (jx (za (sIx (zf 0) (zh (.int 0))) (za (zn F_tables_joined (za (sIx (zf 0) (zh (.int 1))) (za (sIx (zf 1) (zh (.int 1))) (za (zc 2) zu)))) zu)))))) (j3 (jx (za (sIx (zf 0) (zh (.int 0))) (za (zc 3) (za (zO (zf 4)) zu)))))))
def jB:List D->Option Xn:=QC 1 (xIf (sB (zv dGt (zcO (zf 0)) (zh (.int 30)))) (zcu "TooMany") xNo)
def jn:List D->Option Xn:=QC 3 (zcr xNo (zU 2 (zO (jy (zD (wK (sIx (zf 0) (zh (.int 1))) (sIx (zf 1) (zh (.int 1)))) (.tp [0,1]) 2 [] jb (zv jj (zc 0) (zc 1)))))) (yc jB (za (zc 2) zu)))
def Jm:List D->Option Xn:=QC 5 (yc jn (za (zc 0) (za (zc 1) zu)))
def F_beside:List D->Option Res:=ja 2 (zI (QB (zn F_ask_one_kind (za (zc 0) (za (zc 1) zu)))) (j3 (zn F_joined (za (zc 0) (za (zc 1) (za (jp (zD (wK (sIx (zf 0) (zh (.int 2))) (sIx (zf 1) (zh (.int 2)))) (.tp [0,1]) 2 [] jb (zn F_no_join (za (sIx (zf 0) (zh (.int 1))) (za (sIx (zf 1) (zh (.int 1))) zu))))) zu))))))
def vJ:List D->Option Xn:=QC 2 (zcr (yc qv (za (zc 0) (za (zc 1) zu))) (QB (zn F_ask_one_kind (za (zc 0) (za (zc 1) zu)))) (yc Jm (za (zc 0) (za (zc 1) (za (jp (zD (wK (sIx (zf 0) (zh (.int 2))) (sIx (zf 1) (zh (.int 2)))) (.tp [0,1]) 2 [] jb (zn F_no_join (za (sIx (zf 0) (zh (.int 1))) (za (sIx (zf 1) (zh (.int 1))) zu))))) zu)))))
def jU:List D->Option Res:=ja 1 (j3 (jx (za (sIx (zf 0) (zh (.int 0))) (za (zv xC (zv jj (sIx (zf 0) (zh (.int 0))) (ya (zC (sIx (zf 0) (zh (.int 1)))))) (zh (.int 1))) zu))))
def ju:List D->Option Res:=ja 2 (j3 (Zd dLe dLt (sIx (zf 0) (zh (.int 0))) (zc 1) (zv jj (sIx (zf 0) (zh (.int 0))) (ya (zC (sIx (zf 0) (zh (.int 1))))))))
def qP:List D->Option Res:=ja 2 (xD (zD (zG (zf 0)) (.nm 0) 1 [1] (sB (zn ju (za (zc 0) (za (zc 1) zu)))) (sIx (zC (sIx (zf 0) (zh (.int 1)))) (zv xC (zc 1) (sIx (zf 0) (zh (.int 0)))))))
def kl:List D->Option Res:=ja 2 (j3 (zn F_turned_over (za (jx (za (ya (zf 1)) (za (zc 0) (za (zO (zf 1)) zu)))) zu)))
def ki:List D->Option Res:=ja 5 (zI (zU 4 (jp (zD (wK (zc 2) (zc 1)) (.tp [0,1]) 2 [3] (sB (zn ju (za (zc 1) (za (zc 2) zu)))) (zc 0)))) (j3 (zn F_led (za (sIx (zf 0) (zh (.int 0))) (za (zn kl (za (sIx (zC (sIx (zf 0) (zh (.int 1)))) (zc 3)) (za (jp (jg qP (za (zc 1) (za (zc 3) zu)))) zu))) (za (zc 4) zu))))))
def Jo:List D->Option Res:=ja 5 (zI (zU 3 (sIx (zf 1) (zn jV (za (zc 2) zu)))) (zI (zU 4 (jp (zD (zX (ya (zC (sIx (zf 3) (zh (.int 1)))))) (.nm 0) 1 [0,1,2,3] jb (zn ki (za (zc 1) (za (zc 2) (za (zc 3) (za (zv jj (sIx (zf 4) (zh (.int 0))) (zc 0)) zu)))))))) (j3 (jx (za (sIx (zf 3) (zh (.int 0))) (za (zO (zf 4)) zu))))))
def yz:List D->Option Res:=ja 8 (zI (zU 3 (sIx (zC (sIx (zC (sIx (zf 0) (zh (.int 2)))) (zc 1))) (zh (.int 0)))) (zI (zU 4 (sIx (zC (sIx (zC (sIx (zf 0) (zh (.int 2)))) (zc 1))) (zh (.int 1)))) (zI (zU 5 (JG (sB (zv dEq (zc 3) (zh (.str "r")))) (jp (jg xI (za (sIx (zf 0) (zh (.int 0))) (za (zc 4) zu)))) (jp (jg k9 (za (sIx (zf 0) (zh (.int 0))) (za (zc 4) zu)))))) (zI (zU 6 (jp (jg F_led_into (za (sIx (zf 0) (zh (.int 0))) (za (zn kl (za (sIx (zC (sIx (zf 0) (zh (.int 1)))) (zc 1)) (za (jp (jg qP (za (zc 2) (za (zc 1) zu)))) zu))) (za (zc 5) zu)))))) (zI (zU 7 (Y2 (zD (zG (zf 6)) (.nm 0) 1 [] jb (jx (za (zn jV (za (zc 0) zu)) (za (zc 0) zu)))))) (xD (zD (Xz (zc 2)) (.tp [0,1]) 2 [0,2,7] jb (JG (sB (zeL (zc 0) (zc 4))) (zn Jo (za (zc 2) (za (zc 3) (za (zgm (zc 4) (zc 0)) zu)))) (zc 1)))))))))
def qs:List D->Option Res:=ja 4 (zI (sIf (sB (zv dEq (sIx (zf 1) (zh (.int 0))) (zh (.str "l")))) (j3 (zn kJ (za (zc 0) (za (sIx (zf 1) (zh (.int 1))) (za (zc 2) zu))))) j9) (zI (zU 3 (zn F_led (za (zc 0) (za (sIx (zf 1) (zh (.int 1))) (za (zc 2) zu))))) (j3 (JG (sB (zbL (zf 3))) (zc 3) (zh .non)))))
def xB:List D->Option Res:=ja 4 (zI (zU 3 (zn qs (za (zc 0) (za (zc 1) (za (sIx (zC (sIx (zf 2) (zh (.int 1)))) (zgl (zh (.int 1)))) zu))))) (j3 (JG (sB (zv zgG (zc 3) (zh .non))) (zc 2) (jx (za (sIx (zf 2) (zh (.int 0))) (za (zv jj (sIx (zf 2) (zh (.int 1))) (jx (za (zc 3) zu))) zu))))))
def xH:List D->Option Res:=ja 3 (zI (sIf (sB (zv dEq (sIx (zf 1) (zh (.int 0))) (zh (.str "l")))) (xD (jg xI (za (zc 0) (za (sIx (zf 1) (zh (.int 1))) zu)))) j9) (zI (zU 2 (jp (zD (zG (jy (jg k9 (za (zc 0) (za (sIx (zf 1) (zh (.int 1))) zu))))) (.nm 0) 1 [] jb (zn jV (za (zc 0) zu))))) (xD (zD (zae (sIx (zC (zn F_same_table (za (sIx (zC (sIx (zf 1) (zh (.int 1)))) (zh (.int 0))) zu))) (zh (.int 2)))) (.tp [0,1]) 2 [2] (sB (ZN (zc 0) (zf 2))) (zc 1)))))
def wI:List D->Option Res:=ja 9 (zI (zU 3 (sIx (zf 0) (zh (.int 0)))) (zI (zU 4 (sIx (zC (sIx (zf 0) (zh (.int 2)))) (zc 1))) (zI (zU 5 (jp (zD (zG (zf 2)) (.nm 0) 1 [1] (qk (sB (zn ju (za (zc 0) (za (zc 1) zu))))) (zc 0)))) (zI (zU 6 (jp (jg yz (za (zc 0) (za (zc 1) (za (jp (zD (zG (zf 2)) (.nm 0) 1 [1] (sB (zn ju (za (zc 0) (za (zc 1) zu)))) (zc 0))) zu)))))) (zI (zU 7 (jp (zD (zG (zf 6)) (.nm 0) 1 [3,4] jb (zn xB (za (zc 1) (za (zc 2) (za (zc 0) zu))))))) (zI (zU 8 (jp (zD (zG (jy (jg xH (za (zc 3) (za (zc 4) zu))))) (.nm 0) 1 [1] jb (jx (za (zv jj (zc 1) (zh (.int 1))) (za (jx (za (zc 0) zu)) zu)))))) (j3 (jp (yj (zf 5) (zC (JG (sB (zv dEq (sIx (zf 4) (zh (.int 0))) (zh (.str "r")))) (jp (yj (zf 8) (zf 7))) (jp (yj (zf 7) (zf 8))))))))))))))
def wJ:List D->Option Res:=ja 3 (zI (zU 1 (jp (zD (zG (zC (sIx (zC (zn F_same_table (za (sIx (zC (sIx (zf 0) (zh (.int 1)))) (zh (.int 0))) zu))) (zh (.int 2))))) (.nm 0) 1 [] jb (jx (za (zh (.int 0)) (za (jx (za (zc 0) zu)) zu)))))) (zI (yX (zX (ya (zC (sIx (zf 0) (zh (.int 2)))))) (.nm 2) (zU 1 (zn wI (za (zc 0) (za (zc 2) (za (zc 1) zu)))))) (xD (YZ jU (zf 1)))))
theorem zA{F G:CO Fl}{γ γ':Ctx}{r:Option Fl}(h:F γ=some (.next γ'))(g:G γ'=r):zI F G γ=r:=by
 rw [zR,h];exact g
theorem jK{n:Nat}{F:CO Fl}{ds:List D}{r:Res}(h:F (zP n ds)=some (.ret r)):ja n F ds=some r:=by
 show(F (zP n ds)).bind _=_;rw [h];rfl
theorem J7{T:Tg}{F:CO Fl}(P:Nat->Ctx->Prop)(n:Nat){γ:Ctx}(h0:P 0 γ)(step : ∀s,s<n->∀γ,P s γ->∃γ1 z,qe T (.int (s:Int)) γ=some γ1/\F γ1=some (.next z)/\P (s+1) z) :
 ∃γ',qo T F ((zi2 n).map λ(i:Nat)=>D.int (i:Int)) γ=some (.next γ')/\P n γ':=by
 have O : ∀(k s:Nat) (γ:Ctx),s+k=n->P s γ->∃γ',qo T F ((zkn s k).map λ(i:Nat)=>D.int (i:Int)) γ=some (.next γ')/\P n γ':=by
  intro k
  induction k with
  | zero=>
   intro s γ e I;obtain rfl:s=n:=by omega
   exact⟨γ,rfl,I⟩
  | succ k S=>
   intro s γ e I;obtain⟨γ1,z,e1,U,Y⟩:=step s ⋯ γ I;obtain⟨γ',Z,q2⟩:=S (s+1) z ⋯ Y;refine⟨γ',?_,q2⟩;rw [zkj,zjw,jF,e1];simp only [zi7,U];exact Z
 have:=O n 0 γ ⋯ h0;rw [<- zkk]at this;exact this
theorem K5{T:Tg}{F:CO Fl}{f:CO D}(P:Nat->Ctx->Prop)(n:Nat)(hn:n<=lim){γ:Ctx}(I:f γ=some (.int (n:Int)))(h0:P 0 γ)(step : ∀s,s<n->∀γ,P s γ->∃γ1 z,qe T (.int (s:Int)) γ=some γ1/\F γ1=some (.next z)/\P (s+1) z) :
 ∃γ',yX (zX f) T F γ=some (.next γ')/\P n γ':=by
 obtain⟨γ',e,O⟩:=J7 P n h0 step;refine⟨γ',?_,O⟩;have S:=z9;have r:inR (n:Int)=true:=y9 ⋯ ⋯;rw [Qo,kg,I];simp only [zi7,jG,r,if_true,zjM,jD];rw [z6 n λi=>(i:Int)];exact e
@[simp] theorem zhV(γ:Ctx)(f g):Qy f g γ=((f γ).bind asI).bind λi=>((g γ).bind asI).map λj=> .int (if j<i then j else i):=rfl
theorem zcw{a b:Bool}(h:wch a=wch b):a=b:=by cases a<;>cases b<;>first | rfl | exact absurd h ⋯
def zbs(m m':Nat)(w w':Nat->Bool):Prop:=m=m'/\∀k,k<m->w k=w' k
instance (m m':Nat) (w w':Nat->Bool):Decidable (zbs m m' w w'):=inferInstanceAs (Decidable (m=m'/\∀k,k<m->w k=w' k))
theorem zcx{m m':Nat}{w w':Nat->Bool}:qM m w=qM m' w'↔zbs m m' w w':=by
 constructor
 ·intro h
  have h1:=qj m w;rw [h,qj]at h1;have I:m=m':=by have:=congrArg zmv h1;simpa using this.symm
  subst I;refine⟨rfl,λk z=>?_⟩;have:=congrArg (λl=>l[k]?) h1;simp [z]at this;exact(zcw this).symm
 ·rintro⟨rfl,h⟩
  unfold qM;rw [zjg λk z=>by rw [h k (zi6.mp z)]]
theorem Vs(m w):okD (.str (qM m w))=true:=by
 refine zfv (n:=0) (by simp [deep]) ⋯ ?_;show(qM m w).cps.all (· < 0x110000)=true;rw [<- Array.all_toList,qj];simp only [zkq];intro c z;obtain⟨k,_,rfl⟩:=zjx.mp z;unfold wch;split<;>decide
section
variable{p p':Int}{m m':Nat}{w w':Nat->Bool}{wd wd':Nat->Nat}{T T':Nat->Nat->Nat->Int}
theorem QD:je (zT p m w wd T)=some (.T,[.int p,.tup (zz (m+1) λk=>(wd k:Int)),.tup (jS m w wd T)]):=rfl
theorem zd1(k):je (qf w wd T k)=some (.T,[.str (qm (wch (w k))),jI (hiW w wd k) (wiW w wd k) (T k)]):=rfl
theorem YA:zL (.nm 0) jb (sIx (zf 0) (zh (.int 0))) [Cell.no] (jS m w wd T)=some ((zi2 m).map λk=>D.str (qm (wch (w k)))):=by
 unfold jS;refine zo _ _ λk z=>zq rfl rfl ?_;simp [zd1]
theorem vc(hm:m<=900):F_ways_of [zT p m w wd T]=some (.val (.str (qM m w))):=by
 have O:=z9;have z:m<=lim:=by omega
 have st:wO ((zi2 m).map λk=>D.str (qm (wch (w k))))=some ((zi2 m).map λk=>qm (wch (w k))):=Xx _ _;have I:((zi2 m).map λk=>qm (wch (w k))).all jf=true:=by
  simp only [zkq];intro x hx;obtain⟨k,_,rfl⟩:=zjx.mp hx;unfold wch;split<;>decide
 have s0:jf "" = true:=by decide +kernel
 simp only [F_ways_of,ja,zP];simp only [Zx,zd3,qA,Xi,qD,kH,yw,kP,jQ,zjw,List.map_nil,zjv,zjX,zi5,zlG,zi9,zW,QD,zi7,zjt,jG,ix2,zja,Kn,Nat.sub_self,zki];rw [WB,if_pos z,show jd 1 [] [Cell.val (zT p m w wd T)]=[Cell.no]from rfl,YA];simp only [zjt,zi7,st];rw [if_pos ⟨by simpa using z,I,s0⟩];rfl
theorem Jn(hm:m<=900)(I:m'<=900):F_one_kind [zT p m w wd T,zT p' m' w' wd' T']=some (.val (.bl (decide (p=p'/\zbs m m' w w')))):=by
 have z:=vc (p:=p) (wd:=wd) (T:=T) (w:=w) hm;have O:=vc (p:=p') (wd:=wd') (T:=T') (w:=w') I;have d:dEq (.str (qM m w)) (.str (qM m' w'))=some (.bl (decide (zbs m m' w w'))):=by
  unfold dEq;rw [if_pos ⟨Vs m w,Vs m' w'⟩];congr 2;rw [zkI];simp only [eqD,eqS,beq_iff_eq,decide_eq_true_eq];exact zcx
 by_cases q:p=p'
 ·simp [F_one_kind,ja,zP,QD,q,z,O,d]
  subst q;simp [z,d]
 ·simp [F_one_kind,ja,zP,QD,q]
end
theorem Wl(xs:List D)(n:Nat)(hn:xs.length=n)(a4 : ∀i (h:i<n),∃z,xs[i]'(hn ▸ h) = .int z)(aq:n<=63)(k:Int)(hk:0<=k)(ar:k<100000) :
 ∃m,F_law_cell [.lst xs,.int k]=some (.val (.int m))/\0<=m/\m<1000000007:=by
 have O : ∀x:Int,Zu x 48271=true:=λx=>Kj _ _ ⋯ ⋯;have S : ∀x:Int,Zu 7 x=true:=λx=>ke _ _ ⋯ ⋯;have U : ∀x:Int,Zu 13 x=true:=λx=>ke _ _ ⋯ ⋯;have c4 : ∀x:Int,Zu x 69621=true:=λx=>Kj _ _ ⋯ ⋯;have c5:Zu (7*k) k=true:=Kj _ _ ⋯ ⋯;have I:zf3 10 9=true:=by decide
 have Y:zf3 10 30=true:=by decide
 have hl:lim=2500:=rfl;by_cases ac:n=0
 ·subst ac
  have Z:xs=[]:=zjN hn;subst Z;simp [F_law_cell,ja,zP,zR,O,S,U,c4,c5,I,Y];omega
 ·have hp:0<n:=by omega
  obtain⟨i,hi⟩:=zk0 (zj0 k (show(n:Int)≠0 by omega));have a5:i<n:=by have:=zjJ k (show(0:Int)<n by omega);omega
  obtain⟨zi,ei⟩:=a4 i a5;have ii:ixD n (i:Int)=some i:=by rw [jZ,if_pos a5]
  by_cases h1:n=1
  ·subst h1
   have i0:i=0:=by omega
   subst i0;have k1:k%1=0:=by omega
   simp [F_law_cell,ja,zP,zR,O,S,U,c4,c5,I,Y,hn,ei];omega
  ·obtain⟨z0,Z⟩:=a4 0 hp
   have i0:ixD n 0=some 0:=by have:=jZ n 0;rw [if_pos hp]at this;exact this
   have q1:(0:Int)<(n:Int) - 1:=by omega
   have q2:(1:Int)<(n:Int):=by omega
   have ab:1<n:=by omega
   have q3:(n:Int) - 1<1073741824:=by omega
   have q4:(0:Int)<(n:Int):=by omega
   obtain⟨j,hj⟩:=zk0 (zj0 k (show(n:Int) - 1≠0 by omega));have a6:1+j<n:=by have:=zjJ k q1;omega
   obtain⟨zj,ej⟩:=a4 (1+j) a6;have ij:ixD n (1+(j:Int))=some (1+j):=by
    have:=jZ n (1+j);rw [if_pos a6]at this;rw [<- this];congr 1
   have hd:0<=k/((n:Int) - 1)/\k/((n:Int) - 1)<=k:=⟨Int.ediv_nonneg hk ⋯,Int.ediv_le_self _ hk⟩;obtain⟨t,ht⟩:=zk0 hd.1;by_cases ha:z0%2=1
   ·obtain⟨t',am,aw⟩ : ∃t':Nat,(if (t:Int)<60 then (t:Int)else 60)=t'/\t'<=60:=by
     split
     ·exact⟨t,rfl,by omega⟩
     ·exact⟨60,rfl,by omega⟩
    have an:inR (t':Int)=true:=y9 ⋯ ⋯;simp [F_law_cell,ja,zP,zR,O,S,U,c4,c5,hn,hp,a6,q2,ab,Z,i0,q1,q3,ha,hj,ij,ej,ht,I,Y];rw [am,if_pos an];simp only [zi7,jD,zjM];rw [z6 t' λi=>(i:Int)];have ao : ∀(m s:Nat) (v:Int) (c:Cell),∃v' c',qo (.nm 3) (zU 2 (zv Qb (zc 2) (zv zdL (zh (D.int 10)) (zh (D.int 9))))) ((zkn s m).map λ(i:Nat)=>D.int i) [.val (.lst xs),.val (.int k),.val (.int v),c,.no] =
     some (.next [.val (.lst xs),.val (.int k),.val (.int v'),c',.no]):=by
     intro m
     induction m with
     | zero=>intro s v c;exact⟨v,c,rfl⟩
     | succ m ih=>
      intro s v c;rw [zkj,zjw,jF];obtain⟨v',c',h⟩:=ih (s+1) (v/10 ^ 9) (.val (.int s));refine⟨v',c',?_⟩;rw [<- h];simp [I]
    obtain⟨v',c',h⟩:=ao t' 0 zj .no;rw [<- zkk]at h;rw [h];simp [I];omega
   ·simp [F_law_cell,ja,zP,zR,O,S,U,c4,c5,hn,q2,ab,q4,hp,Z,i0,ha,hi,ei,a5,ii,I,Y]
    omega
theorem zdT(ns:List Int)(hn:ns.length<=63)(k:Int)(z:0<=k)(I:k<100000) : ∃m,F_law_cell [qO ns,.int k]=some (.val (.int m))/\0<=m/\m<1000000007:=
 Wl (ns.map D.int) ns.length ⋯ (λi hi=>⟨ns[i],by simp⟩) hn k z I
def qz(ns:List Int)(k:Int):Int:=match F_law_cell [qO ns,.int k]with
 | some (.val (.int m))=>m
 | _=>0
theorem ww{ns:List Int}(hn:ns.length<=63){k:Int}(z:0<=k)(I:k<100000):F_law_cell [qO ns,.int k]=some (.val (.int (qz ns k)))/\0<=qz ns k/\qz ns k<1000000007:=by
 obtain⟨m,h,h1,h2⟩:=zdT ns hn k z I;have e:qz ns k=m:=by unfold qz;rw [h]
 rw [e];exact⟨h,h1,h2⟩
def Xc(bs:List (Int×Int)):List D:=bs.map λb=>D.tup [.int b.1,.int b.2]
@[simp] theorem zf8(bs):(Xc bs).length=bs.length:=by simp [Xc]
def zcD(bs:List (Int×Int)):List (Int×Int):=(QK bs).map λi=>bs.getD i (0,0)
@[simp] theorem zgJ(γ f):zbK f γ=(f γ).bind λa=>match a.1 with
 | .L=>zeG a.2
 | _=>none:=rfl
section ap
variable(γ:Ctx)
@[simp] theorem zgI(f):zbJ f γ=(f γ).bind λd=>match d with
 | .str z=>if jf z=true then some (qE z)else none
 | _=>none:=rfl
@[simp] theorem zgL(f):yY f γ=(f γ).bind λd=>match d with
 | .str z=>if jf z=true then some (xo (qE z))else none
 | _=>none:=rfl
@[simp] theorem zgM(f):Xz f γ=(f γ).bind λd=>match d with
 | .lst ds=>some (xo ds)
 | _=>none:=rfl
@[simp] theorem ziw(f g):zie f g γ=(f γ).bind λd=>(g γ).bind λa=>match d with
 | .str x=>(wO a.2).map λl=> .bl (l.any λy=>y==x)
 | _=>none:=rfl
end ap
def ziT(b:Int×Int)(r:Int):Bool:=decide (b.1<=r) && decide (r<=b.2)
def zb2(bs:List (Int×Int))(r:Int):List Nat:=(zi2 bs.length).filter λi=>ziT (bs.getD i (0,0)) r
def zho(l:List Nat):List D:=l.map λ(i:Nat)=>D.int i
@[simp] theorem zgp(l):(zho l).length=l.length:=by simp [zho]
theorem ZB{p:Int}(z:Pr p){h w:Nat}(I:h<=100)(hw:w<=lim)(f:Nat->Nat->Int) :
 ∃r B l,k9 [.int p,jI h w f]=some (.own (zN r h B))/\IsB p h r B l/\∀v,Span p h (Fam r B) v↔Span p h (Fam w λj i=>f i j) v:=by
 obtain⟨r,B,l,e,O,S⟩:=qb z I hw .T λj i=>f i j;have U:=z9;refine⟨r,B,l,?_,O,S⟩;simp only [dsq]at e;have o:=yA f (show h<=lim by omega) hw;unfold jI at o ⊢;simp [k9,ja,zP,o,e]
theorem J8{T:Tg}{F:CO Fl}(P:Nat->Ctx->Prop) : ∀(ds es:List D) (k:Nat) (γ:Ctx),P k γ->(∀i d γ,ds[i]? = some d->P (k+i) γ->∃γ',(qe T d γ).bind F=some (.next γ')/\P (k+i+1) γ')->
 ∃γ',P (k+ds.length) γ'/\qo T F (ds++es) γ=qo T F es γ'
 | [],es,k,γ,h,_=>⟨γ,h,rfl⟩
 | d::ds,es,k,γ,h,step=>by
  obtain⟨γ1,e,h1⟩:=step 0 d γ rfl h;obtain⟨γ',h2,z⟩:=J8 P ds es (k+1) γ1 (by simpa using h1) (λi d' I hd O=>by
   have:=step (i+1) d' I (by simpa using hd) (by rw [show k+(i+1)=k+1+i by omega];exact O);rw [show k+(i+1)+1=k+1+i+1 by omega]at this;exact this)
  refine⟨γ',by rw [show k+(d::ds).length=k+1+ds.length by simp;omega];exact h2,?_⟩;rw [zmY,jF];cases eb:qe T d γ with
  | none=>rw [eb]at e;simp at e
  | some S=>
   rw [eb]at e;simp only [zi7]at e ⊢;rw [e];exact z
theorem zba(n:Nat)(v:Vc):xo (zz n v)=(zi2 n).map λ(i:Nat)=>D.tup [.int i,.int (v i)]:=by
 unfold xo;rw [qu];refine zjg λi hi=>?_;have:=zi6.mp hi;simp [zz,this]
theorem kj{n a:Nat}(hn:n<=lim)(v:Vc)(ha:a<n)(h0 : ∀i,i<a->v i=0)(h1:v a≠0):jV [.tup (zz n v)]=some (.val (.int a)):=by
 have I:zL (.tp [0,1]) (sB (zv dNe (zc 1) (zh (.int 0)))) (zc 0) [Cell.no,Cell.no] ((zi2 n).map λ(i:Nat)=>D.tup [.int i,.int (v i)])=some (((zi2 n).filter λi=> !decide (v i=0)).map λ(i:Nat)=>D.int i):=by
  refine ji _ _ _ λi hi=>⟨_,rfl,?_,λ_=>rfl⟩;simp
 cases hf:(zi2 n).filter λi=> !decide (v i=0)with
 | nil=>exact absurd (by have:=we hf a ha;simpa using this) h1
 | cons b rest=>
  obtain⟨U,O,S⟩:=xY hf;have e:b=a:=by
   rcases zlu a b with z | z | z
   ·exact absurd (by have:=S a z;simpa using this) h1
   ·exact z.symm
   ·exact absurd (h0 b z) (by simpa using O)
  subst e;rw [hf]at I;simp [jV,ja,zP,zba,hn,jd,zi5,I]
theorem Yh{n a:Nat}(ha:a<n)(v z:Vc)(x:Int)(h1:z a=x)(h2 : ∀i,i<n->i≠a->z i=v i):(zz n v).set a (.int x)=zz n z:=by
 apply zl3;intro i;rw [List.getElem?_set];by_cases hi:i<n
 ·by_cases e:a=i
  ·subst e;simp [ha,zz,h1]
  ·have:=h2 i hi (zj6 e)
   simp [e,zz,hi,this]
 ·have l1:(zz n v)[i]? = none:=by simp [zz];omega
  have l2:(zz n z)[i]? = none:=by simp [zz];omega
  rw [l1,l2,if_neg ⋯]
def Xj(w:Nat)(B:Nat->Vc)(l:Nat->Nat)(r:Nat):Vc:=λj=>sumTo (λk=>if l k=j then B k w else 0) r
def xz:CO Fl:=(zI (zU 6 (zn jV (za (zc 5) zu))) (zI (sIf (sB (zv dEq (zc 6) (zc 3))) (j3 (zh .non)) j9) (Y0 4 (zc 6) (sIx (zf 5) (zc 3)))))
section
variable{p:Int}{h w r:Nat}
theorem XU{l:Nat->Nat}(hm : ∀k m,k<m->m<r->l k<l m){k m:Nat}(I:k<r)(O:m<r)(e:l k=l m):k=m:=by
 rcases zlu k m with z | z | z
 ·have:=hm k m z O;omega
 ·exact z
 ·have:=hm m k z I;omega
def aug(w:Nat)(f:Nat->Nat->Int)(b:Vc):Nat->Vc:=λi j=>if j<w then f i j else b i
theorem KC{B:Nat->Vc}{l:Nat->Nat}(a3:w+1<=lim)(O:IsB p (w+1) r B l){s:Nat}(hs:s<=r)(h1 : ∀k,k<s->l k<w)(es:List D)(a0 z I:Cell) :
 ∃c5 c6,qo (.nm 5) xz (zN s (w+1) B++es) [a0,z,I,.val (.int w),.own (zz w λ_=>0),.no,.no]=qo (.nm 5) xz es [a0,z,I,.val (.int w),.own (zz w (Xj w B l s)),c5,c6]:=by
 obtain⟨γ',⟨c5,c6,rfl⟩,e⟩:=J8 (T:= .nm 5) (F:=xz) (λt γ=>∃c5 c6,γ=[a0,z,I,.val (.int w),.own (zz w (Xj w B l t)),c5,c6]) (zN s (w+1) B) es 0 [a0,z,I,.val (.int w),.own (zz w λ_=>0),.no,.no]
  ⟨.no,.no,by rw [kE (f:=Xj w B l 0) (g:=λ_=>0) λi _=>rfl]⟩ (by
   rintro k d γ hd ⟨c5,c6,rfl⟩;rw [zki];have Y:k<s:=by have:=(zjp.mp hd).1;simpa using this
   have a4:d = .tup (zz (w+1) (B k)):=by simp [Y]at hd;exact hd.symm
   subst a4;have S:k<r:=by omega
   have Z:=h1 k Y;have le:=kj a3 (B k) (show l k<w+1 by omega) (λi hi=>O.bef k i S hi) (by rw [O.one k S];decide);refine⟨_,?_,.val (.tup (zz (w+1) (B k))),.val (.int (l k)),rfl⟩;have U : ¬((l k:Int)=(w:Int)):=by omega
   have a5 : ¬l k=w:=by omega
   have hx:w<w+1:=by omega
   have ev:=Yh Z (Xj w B l k) (Xj w B l (k+1)) (B k w) (by
    unfold Xj;simp only [sumTo,if_true];rw [zw (g:=λ_=>0) λm hm=>by
     rw [if_neg λe=>by have:=O.mono m k hm S;omega],zF]
    omega) (λi hi U=>by
    unfold Xj;simp only [sumTo];rw [if_neg (zj6 U)];omega)
   simp [xz,zR,le,U,a5,Z,hx,ev])
 rw [Ja]at e;refine⟨c5,c6,?_⟩;rw [e];rw [zki]
theorem zdY(w:Nat)(f:Nat->Nat->Int)(b:Vc)(i:Nat):zz w (f i)++[.int (b i)]=zz (w+1) (aug w f b i):=by
 unfold zz;rw [zkh,zjT];congr 1
 ·exact zjg λj z=>by simp [aug,zi6.mp z]
 ·simp [aug]
theorem wF(Y:Pr p)(hh:h<=90)(hw:w<=90)(f:Nat->Nat->Int)(b:Vc) :
 ∃r B l s,IsB p (w+1) r B l/\(∀v,Span p (w+1) (Fam r B) v↔Span p (w+1) (Fam h (aug w f b)) v)/\s<=r/\(∀k,k<s->l k<w)/\(∀k,s<=k->k<r->w<=l k)/\
  kJ [.int p,jI h w f,.tup (zz h b)]=some (.val (if s<r then .non else .tup (zz w (Xj w B l s)))):=by
 have hl:=z9;have S:h<=lim:=by omega
 have Z:w<=lim:=by omega
 have O:w+1<=lim:=by omega
 obtain⟨r,B,l,e,I,a0⟩:=qb Y (show w+1<=100 by omega) S .L (aug w f b);obtain⟨s,U,s1,s2⟩:=kt w I.mono;refine⟨r,B,l,s,I,a0,U,s1,s2,?_⟩;have rows:zL (.tp [0,1]) jb (zv jj (zc 0) (jx (za (zc 1) zu))) [Cell.no,Cell.no] ((zi2 h).map λi=>D.tup [.tup (zz w (f i)),.int (b i)])=some (zN h (w+1) (aug w f b)):=by
  unfold zN;refine zo _ _ λi hi=>zq rfl rfl ?_;simp [jj,O,zdY]
 have zp:yC (zN h w f) (zz h b)=(zi2 h).map λi=>D.tup [.tup (zz w (f i)),.int (b i)]:=by
  unfold yC zN zz;rw [zkO];simp
 have a2:zi5 w (D.int 0)=zz w λ_=>0:=by rw [xQ];rfl
 have c1:((w+1:Nat):Int)=(w:Int)+1:=by omega
 simp only [dsq]at e;rw [c1]at e;obtain⟨d,hd⟩ : ∃d,r=s+d:=⟨r - s,by omega⟩;have sp:zN r (w+1) B=zN s (w+1) B++zN d (w+1) λk=>B (s+k):=by
  unfold zN;rw [hd,zlv,zjT,zjW];rfl
 obtain⟨c5,c6,lp⟩:=KC O I U s1 (zN d (w+1) λk=>B (s+k)) (.val (.int p)) (.val (jI h w f)) (.val (.tup (zz h b)));have x0:je (jI h w f)=some (.T,[.int h,.int w,.tup (zN h w f)]):=rfl;have e0:kJ=ja 7 (zI (zU 3 (sIx (zf 1) (zh (.int 1)))) (zI (xm 4 (zcP (jy (qB (za (zh (.int 0)) zu))) (zc 3))) (zI (yX (zG (zC (jp (jg F_base_of (za (zc 0) (za (zv jj (zc 3) (zh (.int 1))) (za (jp (zD (wK (sIx (zf 1) (zh (.int 2))) (zc 2)) (.tp [0,1]) 2 [] jb (zv jj (zc 0) (jx (za (zc 1) zu))))) zu))))))) (.nm 5) xz) (j3 (zO (zf 4)))))):=rfl;rw [e0];simp [ja,zP,zR,x0,Z,zp,S,jd,zi5,rows,e];rw [a2,sp,lp];by_cases z:s<r
 ·
  have a7:d=1:=by
   rcases zjl 1 d with q | q
   ·have h1:=I.mono s (s+1) ⋯ ⋯
    have h2:=s2 s (zjb _) z;have h3:=I.lt (s+1) ⋯;omega
   ·omega
  subst a7;have a8:l s=w:=by have:=s2 s (zjb _) z;have:=I.lt s z;omega
  have le:=kj O (B s) (show w<w+1 by omega) (λi hi=>I.bef s i z ⋯) (by have:=I.one s z;rw [a8]at this;rw [this];decide);have one:zN 1 (w+1) (λk=>B (s+k))=[.tup (zz (w+1) (B s))]:=rfl;rw [one,jF];simp [xz,zR,le,z]
 ·have a9:d=0:=by omega
  subst a9;have zero:zN 0 (w+1) (λk=>B (s+k))=[]:=rfl;rw [zero];simp [qo,z]
end
def kG(h w:Nat)(f g:Nat->Nat->Int)(i:Nat):Vc:=if i<h then jv w (f i) (λ_=>0)else jv w (λ_=>0) (g (i - h))
theorem Kb(h h' w:Nat)(f g F:Nat->Nat->Int)(h1 : ∀i j,i<h->j<w->F i j=f i j)(h2 : ∀i j,i<h'->j<w->F (h+i) j=g i j):zN h w f++zN h' w g=zN (h+h') w F:=by
 unfold zN;rw [zlv,zjT,zjW];congr 1
 ·exact zjg λi hi=>by rw [kE λj z=>(h1 i j (zi6.mp hi) z).symm]
 ·exact zjg λi hi=>by
   simp only [Function.comp];rw [kE λj z=>(h2 i j (zi6.mp hi) z).symm]
theorem Vv(n:Nat):(zi5 n [D.int 0]).flatten=zz n λ_=>0:=by
 induction n with
 | zero=>rfl
 | succ n z=>
  rw [zkw,zkV,z];unfold zz;rw [<- xQ,<- xQ];rfl
theorem zbm{h w h' w':Nat}(f g:Nat->Nat->Int):zN h (w+w') (λi=>jv w (f i) λ_=>0)++zN h' (w+w') (λi=>jv w (λ_=>0) (g i))=zN (h+h') (w+w') (kG h w f g):=
 Kb h h' _ _ _ _ (λi j hi _=>by unfold kG;rw [if_pos hi]) λi j hi _=>by unfold kG;rw [if_neg ⋯,zjs]
section
variable{p p':Int}{m m':Nat}{w w':Nat->Bool}{wd wd':Nat->Nat}{T T':Nat->Nat->Nat->Int}
def zf7(p:Int)(m:Nat)(w:Nat->Bool)(wd wd':Nat->Nat)(T T':Nat->Nat->Nat->Int):D:=zT p m w (λk=>wd k+wd' k) λk=>kG (hiW w wd k) (wiW w wd k) (T k) (T' k)
theorem Wx:sumTo (λk=>(wd k:Int)+(wd' k:Int)) (m+1)=sumTo (λk=>(wd k:Int)) (m+1)+sumTo (λk=>(wd' k:Int)) (m+1):=by
 rw [jO]
theorem WA(hm:m<=900):qv [zT p m w wd T,zT p m w wd' T']=none/\F_ask_one_kind [zT p m w wd T,zT p m w wd' T']=some (.val .non):=by
 have z:=Jn (p:=p) (p':=p) (w:=w) (w':=w) (wd:=wd) (wd':=wd') (T:=T) (T':=T') hm hm;rw [decide_eq_true ⟨rfl,rfl,λ_ _=>rfl⟩]at z;constructor
 ·simp [qv,QC,zP,zcr,xIf,zcu,xNo,z,zi5]
 ·simp [F_ask_one_kind,ja,zP,z,zi5]
end
theorem kQ{h w h' w':Nat}(f g:Nat->Nat->Int)(hh:h<=400)(hw:w<=400)(a4:h'<=400)(a5:w'<=400) :
 F_tables_beside_5 [jI h w f,jI h' w' g]=some (.val (jI (h+h') (w+w') (kG h w f g))):=by
 have hl:=z9;have l1:h<=lim:=by omega
 have l2:w<=lim:=by omega
 have l3:h'<=lim:=by omega
 have S:w'<=lim:=by omega
 have O:w+w'<=lim:=by omega
 have U:h+h'<=lim:=by omega
 have I : ∀(h w:Nat) (f:Nat->Nat->Int),je (jI h w f)=some (.T,[.int h,.int w,.tup (zN h w f)]):=λ_ _ _=>rfl;have Y:qV (.tup [.int 0]) (.int w)=some (.tup (zz w λ_=>0)):=by
  show(if ([D.int 0]).length*(w:Int).toNat<=lim/\inR (w:Int)=true then _ else _)=_;rw [if_pos ⟨by simpa using l2,yP l2⟩,zjM,Vv]
 have Z:zL (.tp [0,1]) jb (zv jj (zc 0) (zc 1)) [Cell.no,Cell.no] (yC (zN h w f) (zN h w' λ_ _=>0))=some (zN h (w+w') λi=>jv w (f i) λ_=>0):=by
  have z:yC (zN h w f) (zN h w' λ_ _=>0)=(zi2 h).map λi=>D.tup [.tup (zz w (f i)),.tup (zz w' λ_=>0)]:=by
   unfold yC zN;rw [zkO];simp
  rw [z];unfold zN;refine zo _ _ λi hi=>zq rfl rfl ?_;have e:jj (.tup (zz w (f i))) (.tup (zz w' λ_=>0))=some (.tup (zz (w+w') (jv w (f i) λ_=>0))):=by
   show(if (zz w (f i)).length+(zz w' λ_=>0).length<=lim then _ else _)=_;rw [if_pos (by simpa using O),qK]
  show zv _ _ _ [Cell.val (.tup (zz w (f i))),Cell.val (.tup (zz w' λ_=>0))]=_;simp [e]
 have g2:zL (.nm 0) jb (zv jj (zv qV (jx (za (zh (.int 0)) zu)) (sIx (zf 1) (zh (.int 1)))) (zc 0)) [Cell.no,Cell.val (jI h w f)] (zN h' w' g)=some (zN h' (w+w') λi=>jv w (λ_=>0) (g i)):=by
  unfold zN;refine zo _ _ λi hi=>zq rfl rfl ?_;have e:jj (.tup (zz w λ_=>0)) (.tup (zz w' (g i)))=some (.tup (zz (w+w') (jv w (λ_=>0) (g i)))):=by
   show(if (zz w λ_=>0).length+(zz w' (g i)).length<=lim then _ else _)=_;rw [if_pos (by simpa using O),qK]
  simp [I,Y,e]
 have zl:(yC (zN h w f) (zN h w' λ_ _=>0)).length<=lim:=by
  unfold yC zN;simp;exact l1
 have nj:F_no_join [jI h w f,jI h' w' g]=some (.val (jI h w' λ_ _=>0)):=by
  simp [F_no_join,ja,zP,I,wH l1 S]
 have tj:F_tables_joined [jI h w f,jI h' w' g,jI h w' λ_ _=>0]=some (.val (jI (h+h') (w+w') (kG h w f g))):=by
  simp [F_tables_joined,ja,zP,zR,I,l1,l3,U,zl,jd,qx,zi5,Z,g2];rw [zbm];simp [jI]
 simp [F_tables_beside_5,ja,zP,nj,tj]
@[simp] theorem Kp(γ:Ctx)(F G g):XA F G g γ=(g γ).bind λl=>match l with
 | [p,.str z,t,b]=>((if z=("r" : Str)then F else G) [p,t,b]).bind zeb
 | _=>none:=rfl
section
variable{p:Int}{m:Nat}{w:Nat->Bool}{wd:Nat->Nat}{T:Nat->Nat->Nat->Int}{a:Nat}
def Stp(p:Int)(w:Nat->Bool)(wd:Nat->Nat)(T:Nat->Nat->Nat->Int)(k:Nat)(u v:Vc):Prop:=
 if w k then ∀x,x<wd k->u x%p=app (T k) (wd (k+1)) v x%p else ∀x,x<wd (k+1)->v x%p=app (T k) (wd k) u x%p
def Kq(p:Int)(w:Nat->Bool)(wd:Nat->Nat)(T:Nat->Nat->Nat->Int)(i a:Nat):Nat->Vc->Prop
 | 0,z=>∀x,x<a->z x%p=z (a+x)%p
 | t+1,z=>∃u:Vc,Kq p w wd T i a t (jv a z u)/\Stp p w wd T (i+t) u λx=>z (a+x)
theorem xq(F:Nat->Int)(s:Nat) : ∀d,sumTo F (s+d)=sumTo F s+sumTo (λk=>F (s+k)) d
 | 0=>by simp [sumTo]
 | d+1=>by rw [<- zl8];simp only [sumTo];rw [xq F s d];omega
theorem wA{f:Nat->Nat->Int}{c:Nat}(y:Vc)(x:Nat):app (kG a a (λi j=>if i=j then 1 else 0) f) (a+c) y x=if x<a then y x else app f c (λj=>y (a+j)) (x - a):=by
 unfold app;rw [xq];by_cases h:x<a
 ·rw [if_pos h]
  have e1:sumTo (λj=>kG a a (λi j=>if i=j then 1 else 0) f x j*y j) a=y x:=by
   rw [jm (f:=λj=>kG a a (λi j=>if i=j then 1 else 0) f x j*y j) (i:=x) h λj z O=>by
    unfold kG;rw [if_pos h,zK z];simp [zj6 O]]
   unfold kG;rw [if_pos h,zK h];simp
  have I:sumTo (λk=>kG a a (λi j=>if i=j then 1 else 0) f x (a+k)*y (a+k)) c=0:=by
   rw [zw (g:=λ_=>0) λj _=>by unfold kG;rw [if_pos h,zQ];simp,zF]
  rw [e1,I];simp
 ·rw [if_neg h]
  have e1:sumTo (λj=>kG a a (λi j=>if i=j then 1 else 0) f x j*y j) a=0:=by
   rw [zw (g:=λ_=>0) λj z=>by unfold kG;rw [if_neg h,zK z];simp,zF]
  have I:sumTo (λk=>kG a a (λi j=>if i=j then 1 else 0) f x (a+k)*y (a+k)) c=sumTo (λj=>f (x - a) j*y (a+j)) c:=
   zw λj _=>by unfold kG;rw [if_neg h,zQ]
  rw [e1,I];simp
theorem zfj{i t:Nat}(hw:w (i+t)=false){q I:Nat}{B B':Nat->Vc}(O : ∀z,Span p (a+wd (i+t)) (Fam q B) z↔Kq p w wd T i a t z)
 (U : ∀v,Span p (a+wd (i+t+1)) (Fam I B') v ↔ ∃y,Span p (a+wd (i+t)) (Fam q B) y/\∀x,x<a+wd (i+t+1)->v x%p=app (kG a a (λi j=>if i=j then 1 else 0) (T (i+t))) (a+wd (i+t)) y x%p) (v:Vc) :
 Span p (a+wd (i+t+1)) (Fam I B') v↔Kq p w wd T i a (t+1) v:=by
 rw [U v];constructor
 ·rintro⟨y,Y,S⟩
  refine⟨λx=>y (a+x),(O _).mp (Y.congr λx hx=>?_),?_⟩
  ·rcases zjl x a with z | z
   ·rw [zK z]
    have:=S x ⋯;rw [wA,if_pos z]at this;exact this
   ·obtain⟨k,rfl⟩ : ∃k,x=a+k:=⟨x - a,by omega⟩
    rw [zQ]
  ·unfold Stp
   rw [hw,if_neg zjj];intro x hx;have:=S (a+x) ⋯;rw [wA,if_neg ⋯,zjs]at this;exact this
 ·rintro⟨u,h1,h2⟩
  unfold Stp at h2;rw [hw,if_neg zjj]at h2;refine⟨jv a v u,(O _).mpr h1,λx hx=>?_⟩;rw [wA];rcases zjl x a with z | z
  ·rw [if_pos z,zK z]
  ·rw [if_neg ⋯]
   obtain⟨k,rfl⟩ : ∃k,x=a+k:=⟨x - a,by omega⟩;rw [zjs,show(λj=>jv a v u (a+j))=u from funext λj=>zQ j];exact h2 k ⋯
theorem zfk{i t:Nat}(hw:w (i+t)=true){q I:Nat}{B B':Nat->Vc}(O : ∀z,Span p (a+wd (i+t)) (Fam q B) z↔Kq p w wd T i a t z)
 (S : ∀v,Span p (a+wd (i+t+1)) (Fam I B') v↔Span p (a+wd (i+t)) (Fam q B) (app (kG a a (λi j=>if i=j then 1 else 0) (T (i+t))) (a+wd (i+t+1)) v)) (v:Vc) :
 Span p (a+wd (i+t+1)) (Fam I B') v↔Kq p w wd T i a (t+1) v:=by
 rw [S v];constructor
 ·intro U
  refine⟨λx=>app (T (i+t)) (wd (i+t+1)) (λj=>v (a+j)) x,(O _).mp (U.congr λx hx=>?_),?_⟩
  ·rw [wA]
   rcases zjl x a with z | z
   ·rw [zK z,if_pos z]
   ·obtain⟨k,rfl⟩ : ∃k,x=a+k:=⟨x - a,by omega⟩
    rw [zQ,if_neg ⋯,zjs]
  ·unfold Stp
   rw [hw,if_pos rfl];exact λx _=>rfl
 ·rintro⟨u,h1,h2⟩
  unfold Stp at h2;rw [hw,if_pos rfl]at h2;refine((O _).mpr h1).congr λx hx=>?_;rw [wA];rcases zjl x a with z | z
  ·rw [zK z,if_pos z]
  ·obtain⟨k,rfl⟩ : ∃k,x=a+k:=⟨x - a,by omega⟩
   rw [zQ,if_neg ⋯,zjs];exact(h2 k ⋯).symm
def K8:CO Fl:=(zd9 4 (xm 4 (XA F_led_on F_led_into (za (sIx (zf 0) (zh (.int 0))) (za (sIx (zf 5) (zh (.int 0))) (za (zn F_tables_beside_5 (za (zc 3) (za (sIx (zf 5) (zh (.int 1))) zu))) (za (zc 4) zu)))))))
theorem zaR:F_link=ja 6 (zI (zU 3 (zn F_same_table (za (sIx (zC (sIx (zf 0) (zh (.int 1)))) (zc 1)) zu))) (zI (xm 4 (zD (zG (zC (sIx (zf 3) (zh (.int 2))))) (.nm 0) 1 [] jb (zv jj (zc 0) (zc 0)))) (zI (yX (zG (zC (Qs (sIx (zf 0) (zh (.int 2))) (sBd (zc 1)) (sBd (zc 2))))) (.nm 5) K8) (k5 4)))):=rfl
theorem oneS_r{b:Bool}:(qm (wch b)=("r" : Str))↔b=false:=by cases b<;>decide
abbrev lk(p:Int)(m:Nat)(w:Nat->Bool)(wd:Nat->Nat)(T:Nat->Nat->Nat->Int)(i j:Int)(a:Nat)(ds:List D)(c:Cell):Ctx:=[.val (zT p m w wd T),.val (.int i),.val (.int j),.val (jI a a λi j=>if i=j then 1 else 0),.own ds,c]
theorem VC(S:Pr p)(Z : ∀k,wd k<=4)(ha:a<=4)(hT : ∀k x y,0<=T k x y/\T k x y<p)(i' j':Int){i t q:Nat}{B:Nat->Vc}(hq:q<=20)(hB : ∀z,Span p (a+wd (i+t)) (Fam q B) z↔Kq p w wd T i a t z) :
 ∃I B' l',K8 (lk p m w wd T i' j' a (zN q (a+wd (i+t)) B) (.val (qf w wd T (i+t))))=some (.next (lk p m w wd T i' j' a (zN I (a+wd (i+t+1)) B') (.val (qf w wd T (i+t)))))/\IsB p (a+wd (i+t+1)) I B' l'/\
  ∀z,Span p (a+wd (i+t+1)) (Fam I B') z↔Kq p w wd T i a (t+1) z:=by
 have hl:=z9;have a7:=S.le;have h1:=Z (i+t);have h2:=Z (i+t+1);have tb:=kQ (h:=a) (w:=a) (h':=hiW w wd (i+t)) (w':=wiW w wd (i+t)) (λi j=>if i=j then 1 else 0) (T (i+t)) ⋯ ⋯ (by unfold hiW;split<;>omega) (by unfold wiW;split<;>omega);have rs:je (zT p m w wd T)=some (.T,[.int p,.tup (zz (m+1) λk=>(wd k:Int)),.tup (jS m w wd T)]):=rfl;have O:je (qf w wd T (i+t))=some (.T,[.str (qm (wch (w (i+t)))),jI (hiW w wd (i+t)) (wiW w wd (i+t)) (T (i+t))]):=rfl;have bd : ∀x y,0<=kG a a (λi j=>if i=j then 1 else 0) (T (i+t)) x y/\kG a a (λi j=>if i=j then 1 else 0) (T (i+t)) x y<100:=λx y=>by
  have:=hT (i+t) (x - a) (y - a);unfold kG jv;split
  ·dsimp only
   split
   ·split<;>omega
   ·omega
  ·dsimp only
   split
   ·omega
   ·omega
 cases hw:w (i+t)with
 | false=>
  have hi:hiW w wd (i+t)=wd (i+t+1):=by unfold hiW;rw [hw];rfl
  have wi:wiW w wd (i+t)=wd (i+t):=by unfold wiW;rw [hw];rfl
  rw [hi,wi]at tb O;obtain⟨I,B',l',e,U,Y⟩:=Xm S (h:=a+wd (i+t+1)) (w:=a+wd (i+t)) (q:=q) ⋯ ⋯ ⋯ (kG a a (λi j=>if i=j then 1 else 0) (T (i+t))) (λx y _ _=>bd x y) B;refine⟨I,B',l',?_,U,zfj hw hB Y⟩;have z:qm (wch (w (i+t)))=("r" : Str):=oneS_r.mpr hw;unfold K8;simp only [lk,zcl,Xh,Kp,j1,qG,kP,jQ,jJ,qA,qr,zi9,zja,qp,zjI,zjH,zE,zW,rs,O,zi7,zjt,jG,zjv,zjX,ix0,ix1,tb,ku,z,if_true,e,vw]
 | true=>
  have hi:hiW w wd (i+t)=wd (i+t):=by unfold hiW;rw [hw];rfl
  have wi:wiW w wd (i+t)=wd (i+t+1):=by unfold wiW;rw [hw];rfl
  rw [hi,wi]at tb O;obtain⟨I,B',l',e,U,Y⟩:=yB S (h:=a+wd (i+t)) (w:=a+wd (i+t+1)) (q:=q) ⋯ ⋯ ⋯ (kG a a (λi j=>if i=j then 1 else 0) (T (i+t))) B;refine⟨I,B',l',?_,U,zfk hw hB Y⟩;have z : ¬(qm (wch (w (i+t)))=("r" : Str)):=λq=>by have:=oneS_r.mp q;rw [hw]at this;cases this
  unfold K8;simp only [lk,zcl,Xh,Kp,j1,qG,kP,jQ,jJ,qA,qr,zi9,zja,qp,zjI,zjH,zE,zW,rs,O,zi7,zjt,jG,zjv,zjX,ix0,ix1,tb,ku,z,if_false,e,vw]
end
section
variable{p:Int}{m:Nat}{w:Nat->Bool}{wd:Nat->Nat}{T:Nat->Nat->Nat->Int}
theorem W0(I:Pr p)(a:Nat):IsB p (a+a) a (λx=>jv a (jH x) (jH x)) id where
 lt:=λk z=>by simp only [id];omega
 mono:=λk m z _=>z
 one:=λk z=>by simp only [id];rw [zK z];exact if_pos rfl
 bef:=λk j z O=>by simp only [id]at O;rw [zK ⋯];exact if_neg ⋯
 oth:=λk m z hm S=>by simp only [id];rw [zK hm];exact if_neg ⋯
 rng:=λk i _ _=>by have:=I.two;unfold jv jH;split<;>split<;>omega
theorem YE(hp:Pr p)(i:Nat)(z:Vc):Span p (wd i+wd i) (Fam (wd i) λx=>jv (wd i) (jH x) (jH x)) z↔Kq p w wd T i (wd i) 0 z:=by
 constructor
 ·intro I
  induction I with
  | @zero z I=>intro x hx;rw [I x ⋯,I (wd i+x) ⋯]
  | @step z u g c S hu he U=>
   obtain⟨k,O,rfl⟩:=S;intro x hx;dsimp only at he;rw [he x ⋯,he (wd i+x) ⋯,zK hx,zQ,zjD,U x hx,<- zjD]
 ·intro I
  refine(Span.sum (u:=λx=>jv (wd i) (jH x) (jH x)) z (m:=wd i) λk O=> .gen ⟨k,O,rfl⟩).congr λx hx=>?_;have one : ∀y,y<wd i->sumTo (λk=>z k*jH k y) (wd i)=z y:=λy Y=>by
   rw [jm (f:=λk=>z k*jH k y) Y λj _ Z=>by simp [jH,Z]];simp [jH]
  rcases zjl x (wd i)with q | q
  ·have:sumTo (λk=>z k*jv (wd i) (jH k) (jH k) x) (wd i)=z x:=by
    rw [<- one x q];exact zw λk _=>by rw [zK q]
   rw [this]
  ·obtain⟨k,rfl⟩ : ∃k,x=wd i+k:=⟨x - wd i,by omega⟩
   have:sumTo (λj=>z j*jv (wd i) (jH j) (jH j) (wd i+k)) (wd i)=z k:=by
    rw [<- one k ⋯];exact zw λj _=>by rw [zQ]
   rw [this];exact(I k ⋯).symm
theorem WN(U:Pr p)(Y : ∀k,wd k<=4)(hT : ∀k x y,0<=T k x y/\T k x y<p){i j:Nat}(a2:i<=j)(hj:j<=m) :
 ∃q B l,F_link [zT p m w wd T,.int i,.int j]=some (.own (zN q (wd i+wd j) B))/\IsB p (wd i+wd j) q B l/\∀z,Span p (wd i+wd j) (Fam q B) z↔Kq p w wd T i (wd i) (j - i) z:=by
 have hl:=z9;have ha:=Y i;have a0:wd i<=lim:=by omega
 have a4:wd i+wd i<=lim:=by omega
 have a5 : ∀(k t:Nat) (q:Nat) (B:Nat->Vc) (l:Nat->Nat) (c:Cell),t+k=j - i->IsB p (wd i+wd (i+t)) q B l->(∀z,Span p (wd i+wd (i+t)) (Fam q B) z↔Kq p w wd T i (wd i) t z)->
  ∃S B' l' Z,qo (.nm 5) K8 ((zkn t k).map λk=>qf w wd T (i+k)) (lk p m w wd T i j (wd i) (zN q (wd i+wd (i+t)) B) c)=some (.next (lk p m w wd T i j (wd i) (zN S (wd i+wd j) B') Z))/\IsB p (wd i+wd j) S B' l'/\
   ∀z,Span p (wd i+wd j) (Fam S B') z↔Kq p w wd T i (wd i) (j - i) z:=by
  intro k
  induction k with
  | zero=>
   intro t q B l c h I O;have e1:t=j - i:=by omega
   have e2:i+t=j:=by omega
   rw [e2]at I O ⊢;rw [<- e1];exact⟨q,B,l,c,rfl,I,O⟩
  | succ k ih=>
   intro t q B l c h I O;have hq:q<=wd i+wd (i+t):=QN I.mono I.lt;have:=Y (i+t);obtain⟨q1,B1,l1,e,aa,ab⟩:=VC (m:=m) U Y ha hT i j ⋯ O;obtain⟨S,B',l',Z,e',ad,ae⟩:=ih (t+1) q1 B1 l1 (.val (qf w wd T (i+t))) ⋯ aa ab;refine⟨S,B',l',Z,?_,ad,ae⟩;rw [zkj,zjw,jF];show((K8 (lk p m w wd T i j (wd i) (zN q (wd i+wd (i+t)) B) (.val (qf w wd T (i+t))))).bind _)=_;rw [e];exact e'
 obtain⟨q,B,l,c,e,I,O⟩:=a5 (j - i) 0 (wd i) (λx=>jv (wd i) (jH x) (jH x)) id .no ⋯ (W0 U (wd i)) (YE U i);refine⟨q,B,l,?_,I,O⟩;have sm:=kh (n:=wd i) a0;have wi:i<m+1:=by omega
 have tw:zL (.nm 0) jb (zv jj (zc 0) (zc 0)) [Cell.no] (zN (wd i) (wd i) λi j=>if i=j then 1 else 0)=some (zN (wd i) (wd i+wd i) λx=>jv (wd i) (jH x) (jH x)):=by
  unfold zN;refine zo _ _ λx hx=>zq rfl rfl ?_;simp [jj,a4,qK];rfl
 have rs:je (zT p m w wd T)=some (.T,[.int p,.tup (zz (m+1) λk=>(wd k:Int)),.tup (jS m w wd T)]):=rfl;have dq:je (jI (wd i) (wd i) λi j=>if i=j then 1 else 0)=some (.T,[.int (wd i),.int (wd i),.tup (zN (wd i) (wd i) λi j=>if i=j then 1 else 0)]):=rfl;have ix:ixD (m+1) (i:Int)=some i:=by rw [jZ,if_pos wi]
 have wx:(zz (m+1) λk=>(wd k:Int))[i]? = some (.int (wd i)):=xj _ wi;have ca:Q8 (jS m w wd T) (some (i:Int)) (some (j:Int))=(zi2 (j - i)).map λk=>qf w wd T (i+k):=by
  rw [zch a2 hj];rfl
 rw [<- zkk]at e;rw [zaR];unfold ja;have e0:zP 6 [zT p m w wd T,.int i,.int j]=[.val (zT p m w wd T),.val (.int i),.val (.int j),.no,.no,.no]:=rfl;have s1:(zU 3 (zn F_same_table (za (sIx (zC (sIx (zf 0) (zh (.int 1)))) (zc 1)) zu))) [.val (zT p m w wd T),.val (.int i),.val (.int j),.no,.no,.no]=some (.next [.val (zT p m w wd T),.val (.int i),.val (.int j),.val (jI (wd i) (wd i) λi j=>if i=j then 1 else 0),.no,.no]):=by
  simp only [Zw,qr,j1,qG,kP,yw,jQ,jJ,qA,zi9,zja,zE,zW,rs,Kn,zi7,zjt,jG,zjv,zjX,ix1,qu,ix,wx,sm,ku];rfl
 have s2:(xm 4 (zD (zG (zC (sIx (zf 3) (zh (.int 2))))) (.nm 0) 1 [] jb (zv jj (zc 0) (zc 0)))) [.val (zT p m w wd T),.val (.int i),.val (.int j),.val (jI (wd i) (wd i) λi j=>if i=j then 1 else 0),.no,.no]=some (.next (lk p m w wd T i j (wd i) (zN (wd i) (wd i+wd i) λx=>jv (wd i) (jH x) (jH x)) .no)):=by
  simp only [Xh,qD,kH,yw,kP,jQ,qA,zi9,zja,zW,dq,Kn,zi7,zjt,jG,zjv,zjX,ix2,Ja,a0,if_true];rw [show jd 1 [] [Cell.val (zT p m w wd T),Cell.val (D.int (i:Int)),Cell.val (D.int (j:Int)),Cell.val (jI (wd i) (wd i) λi j=>if i=j then 1 else 0),Cell.no,Cell.no]=[Cell.no]from rfl,tw];rfl
 rw [e0,zR,s1,qH,zR,s2,qH,zR,Qo];simp only [lk,kH,yw,zgb,kP,jQ,jJ,qA,zh6,zi9,zja,zW,zE,rs,Kn,zi7,zjt,jG,zjv,zjX,ix2,ca];simp only [lk,zmq]at e;rw [e];simp
end
@[simp] theorem zgd(γ:Ctx)(i f):QA i f γ=(qW γ[i]?).bind λds=>(f γ).bind λes=>if ds.length+es.length<=lim then some (.next (γ.set i (.own (ds++es))))else none:=rfl
section
variable{p:Int}{m:Nat}{w:Nat->Bool}{wd:Nat->Nat}{T:Nat->Nat->Nat->Int}
abbrev dc(p:Int)(m:Nat)(w:Nat->Bool)(wd:Nat->Nat)(T:Nat->Nat->Nat->Int)(i j:Nat)(c4 c5 c6 c7 c8 c9:Cell):Ctx:=[.val (.int p),.val (zT p m w wd T),.val (.int i),.val (.int j),c4,c5,c6,c7,c8,c9]
theorem xu:je (zT p m w wd T)=some (.T,[.int p,.tup (zz (m+1) λk=>(wd k:Int)),.tup (jS m w wd T)]):=rfl
end
@[simp] theorem wD(γ:Ctx)(f):yY f γ=(f γ).bind λd=>match d with
 | .str z=>if jf z=true then some (xo (qE z))else none
 | _=>none:=rfl
@[simp] theorem zbq(γ:Ctx)(f g):zag f g γ=(f γ).bind λd=>(g γ).bind λe=>match d,e with
 | .str x,.str y=>if jf x=true/\jf y=true then some (.str (x++y))else none
 | _,_=>none:=rfl
theorem yT(m:Nat)(w:Nat->Bool):xo (qE (qM m w))=(zi2 m).map λ(k:Nat)=>D.tup [.int k,.str (qm (wch (w k)))]:=by
 have e:qE (qM m w)=(zi2 m).map λk=>D.str (qm (wch (w k))):=by
  unfold qE;rw [qj,zjW];rfl
 unfold xo;rw [e];simp only [zjh,zkU];refine zjg λk z=>?_;simp [zi6.mp z]
theorem Q4(w:Nat->Bool)(k:Nat):F_law_ends_k22 [.int k,.str (qm (wch (w k)))]=some (.val (.tup [.int ((begR w k:Nat):Int),.int ((endR w k:Nat):Int)])):=by
 have q:=zdF (w k);cases h:w k<;>rw [h]at q<;>simp [F_law_ends_k22,ja,zP,zR,q,begR,endR,h]
theorem YB(s:Nat)(w:Nat->Bool):qM s w++qm (wch (w s))=qM (s+1) w:=by
 have h:(qM s w++qm (wch (w s))).cps.toList=(qM (s+1) w).cps.toList:=by
  show((qM s w).cps++(qm (wch (w s))).cps).toList=_;rw [Array.toList_append,qj,qj,zkh,zjT];rfl
 have h2:=Array.toList_inj.mp h;generalize qM s w++qm (wch (w s))=a at h2;generalize qM (s+1) w=b at h2;cases a;cases b;exact congrArg Str.mk h2
theorem zek{c:Int}(hc:0<=c){m:Nat}(hm:m<=5) : ∃w,F_law_ways_k22 [.int c,.int (1+(m:Int))]=some (.val (.str (qM m w))):=by
 have hl:=z9;have S:m<=lim:=by omega
 refine⟨λk=>decide (c/2 ^ k%2=1),?_⟩;generalize hw:(λk:Nat=>decide (c/2 ^ k%2=1))=w;have U : ∀(k s:Nat) (z:Cell),s+k=m->∃I O,qo (.nm 3) (zI (zU 2 (zag (zc 2) (JE (zh (.str "rl")) (zv qL (zc 0) (zh (.int 2)))))) (zU 0 (zv Qb (zc 0) (zh (.int 2))))) ((zkn s k).map λ(i:Nat)=>D.int i) [.val (.int (c/2 ^ s)),.val (.int (1+(m:Int))),.val (.str (qM s w)),z] =
  some (.next [I,.val (.int (1+(m:Int))),.val (.str (qM m w)),O]):=by
  intro k
  induction k with
  | zero=>
   intro s z h;obtain rfl:s=m:=by omega
   exact⟨_,z,rfl⟩
  | succ k Y=>
   intro s z h;obtain⟨I,O,e⟩:=Y (s+1) (.val (.int s)) ⋯;refine⟨I,O,?_⟩;rw [zkj,zjw,jF];have Z:JE (zh (.str "rl")) (zv qL (zc 0) (zh (.int 2))) [.val (.int (c/2 ^ s)),.val (.int (1+(m:Int))),.val (.str (qM s w)),.val (.int s)]=some (.str (qm (wch (w s)))):=by
    have ev:zv qL (zc 0) (zh (.int 2)) [.val (.int (c/2 ^ s)),.val (.int (1+(m:Int))),.val (.str (qM s w)),.val (.int s)]=some (.int (c/2 ^ s%2)):=by simp
    rw [zbp,ev];have q:c/2 ^ s%2=0\/c/2 ^ s%2=1:=by omega
    have ws:w s=decide (c/2 ^ s%2=1):=by rw [<- hw]
    rw [ws];rcases q with q | q
    ·rw [q];rfl
    ·rw [q];rfl
   have s1:=km w (show s<=1000 by omega);have s2:jf (qm (wch (w s)))=true:=rfl;have dv:c/2 ^ s/2=c/2 ^ (s+1):=by rw [Int.pow_succ,Int.ediv_ediv_of_nonneg (Int.pow_nonneg ⋯)]
   simp only [kF,zi7,zjI,zjH];rw [zR];simp only [Zw,zbq,jJ,zi9,zja,zE,zi7,Z,s1,s2,and_self,if_true,YB,zjt,zjI,zjH];simp only [wE,jJ,qA,zi9,zE,zi7,zbh];rw [if_pos ⟨by omega,by omega⟩,dv];exact e
 obtain⟨c0,z,e⟩:=U m 0 .no ⋯;rw [<- zkk]at e;have c1:c/2 ^ 0=c:=by simp
 have e1:(1:Int)+(m:Int) - 1=(m:Int):=by omega
 have w0:qM 0 w=("" : Str):=rfl;rw [c1,w0]at e;simp [F_law_ways_k22,ja,zP,zR,e1,S,jD,zi5];rw [z6 m λi=>(i:Int),e];simp
def Qd(ns:List Int)(p:Int)(n:Int):Int:=qz ns n/4%p*(if decide (0<qz ns n%4)=true then 1 else 0)
theorem Wm{ns:List Int}{p n:Int}(z:0<p):0<=Qd ns p n/\Qd ns p n<p:=by
 unfold Qd;have h1:=zj0 (qz ns n/4) (show p≠0 by omega);have h2:=zjJ (qz ns n/4) z;split<;>omega
theorem zbN{ns:List Int}(a0:ns.length<=63){p:Int}(Z:Pr p){at_:Int}(ab:0<=at_)(ha:at_<=1000){h w:Nat}(hh:h<=4)(hw:w<=4) :
 F_law_rows_k22 [qO ns,.int at_,.int p,.int h,.int w]=some (.own (xp h w λx y=>Qd ns p (at_+(x:Int)*(w:Int)+(y:Int)))):=by
 have hl:=z9;have p0:=Z.pos;have ae:=Z.le;have a2:h<=lim:=by omega
 have I:w<=lim:=by omega
 have a3 : ∀(k s:Nat) (c6 c7:Cell),s+k=h->∃O S,qo (.nm 6) (zI (zU 7 (jp (zD (zX (zc 4)) (.nm 0) 1 [0,1,4,6] jb (zn F_law_cell (za (zc 1) (za (zv jj (zv jj (zc 2) (zv qV (zc 4) (zc 3))) (zc 0)) zu)))))) (qR 5 (jp (zD (zG (zf 7)) (.nm 0) 1 [2] jb (zv qV (zv qL (zv Qb (zc 0) (zh (.int 4))) (zc 1)) (Y1 (zv dGt (zv qL (zc 0) (zh (.int 4))) (zh (.int 0))))))))) ((zkn s k).map λ(i:Nat)=>D.int i)
  [.val (qO ns),.val (.int at_),.val (.int p),.val (.int h),.val (.int w),.own (xp s w λx y=>Qd ns p (at_+(x:Int)*(w:Int)+(y:Int))),c6,c7]=some (.next [.val (qO ns),.val (.int at_),.val (.int p),.val (.int h),.val (.int w),.own (xp h w λx y=>Qd ns p (at_+(x:Int)*(w:Int)+(y:Int))),O,S]):=by
  intro k
  induction k with
  | zero=>
   intro s c6 c7 hs;obtain rfl:s=h:=by omega
   exact⟨c6,c7,rfl⟩
  | succ k ih=>
   intro s c6 c7 hs;have xw:(s:Int)*(w:Int)<=16:=by
    have:s*w<=4*4:=Nat.mul_le_mul ⋯ hw;rw [<- Int.natCast_mul];omega
   have ag:(0:Int)<=(s:Int)*(w:Int):=Int.mul_nonneg ⋯ ⋯;have k1:zL (.nm 0) jb (zn F_law_cell (za (zc 1) (za (zv jj (zv jj (zc 2) (zv qV (zc 4) (zc 3))) (zc 0)) zu))) [Cell.no,Cell.val (qO ns),Cell.val (.int at_),Cell.val (.int w),Cell.val (.int s)] (zz w λi=>(i:Int))=some (zz w λy=>qz ns (at_+(s:Int)*(w:Int)+(y:Int))):=by
    rw [z6 w,z6 w];refine zo _ _ λy U=>zq rfl rfl ?_;have U:=zi6.mp U;have Y:Zu (s:Int) (w:Int)=true:=ke _ _ ⋯ ⋯;have ce:=(ww a0 (k:=at_+(s:Int)*(w:Int)+(y:Int)) ⋯ ⋯).1;simp [Y,ce]
   have k2:zL (.nm 0) jb (zv qV (zv qL (zv Qb (zc 0) (zh (.int 4))) (zc 1)) (Y1 (zv dGt (zv qL (zc 0) (zh (.int 4))) (zh (.int 0))))) [Cell.no,Cell.val (.int p)] (zz w λy=>qz ns (at_+(s:Int)*(w:Int)+(y:Int)))=some (zz w λy=>Qd ns p (at_+(s:Int)*(w:Int)+(y:Int))):=by
    rw [z6 w,z6 w];refine zo _ _ λy U=>zq rfl rfl ?_;have Y : ∀z:Int,Zu z (if 0<qz ns (at_+(s:Int)*(w:Int)+(y:Int))%4 then 1 else 0)=true:=λz=>Kj _ _ (by split<;>omega) (by split<;>omega);simp [p0,Y,Qd]
   obtain⟨O,S,e⟩:=ih (s+1) (.val (.int s)) (.val (.lst (zz w λy=>qz ns (at_+(s:Int)*(w:Int)+(y:Int))))) ⋯;refine⟨O,S,?_⟩;rw [zkj,zjw,jF];have sl:(xp s w λx y=>Qd ns p (at_+(x:Int)*(w:Int)+(y:Int))).length<lim:=by rw [Zr];omega
   simp only [kF,zi7,zjI,zjH];rw [zR];simp only [Zw,wC,qD,kg,jJ,zi9,zja,zE,zi7,jG,yP I,if_true,zjM,jD,qu,I];rw [show jd 1 [0,1,4,6] [Cell.val (qO ns),Cell.val (D.int at_),Cell.val (D.int p),Cell.val (D.int (h:Int)),Cell.val (D.int (w:Int)),Cell.own (xp s w λx y=>Qd ns p (at_+(x:Int)*(w:Int)+(y:Int))),Cell.val (D.int (s:Int)),c7]=[Cell.no,Cell.val (qO ns),Cell.val (.int at_),Cell.val (.int w),Cell.val (.int s)]from rfl,k1];simp only [zjt,zi7,zjI,zjH];simp only [yx,wC,qD,kH,jQ,zi9,zja,qp,zW,Qm,zi7,zjt,qu,I,if_true];rw [show jd 1 [2] [Cell.val (qO ns),Cell.val (D.int at_),Cell.val (D.int p),Cell.val (D.int (h:Int)),Cell.val (D.int (w:Int)),Cell.own (xp s w λx y=>Qd ns p (at_+(x:Int)*(w:Int)+(y:Int))),Cell.val (D.int (s:Int)),Cell.val (D.lst (zz w λy=>qz ns (at_+(s:Int)*(w:Int)+(y:Int))))]=[Cell.no,Cell.val (.int p)]from rfl,k2];simp only [zjt,zi7,sl,if_true,zjI,zjH];have ea:(xp s w λx y=>Qd ns p (at_+(x:Int)*(w:Int)+(y:Int)))++[D.lst (zz w λy=>Qd ns p (at_+(s:Int)*(w:Int)+(y:Int)))]=xp (s+1) w λx y=>Qd ns p (at_+(x:Int)*(w:Int)+(y:Int)):=by
    unfold xp;rw [zkh,zjT];rfl
   rw [ea];exact e
 obtain⟨c6,c7,e⟩:=a3 h 0 .no .no ⋯;rw [<- zkk]at e;simp [F_law_rows_k22,ja,zP,zR,zi5,a2,jD];rw [z6 h λi=>(i:Int)];have e0:(xp 0 w λx y=>Qd ns p (at_+(x:Int)*(w:Int)+(y:Int)))=[]:=rfl;rw [e0]at e;rw [e];simp
def pr(a b:Nat):D:= .tup [.int a,.int b]
@[simp] theorem zii(a b):je (pr a b)=some (.T,[.int (a:Int),.int (b:Int)]):=rfl
def mk(lo:Nat)(ch:List Int)(r:Nat):Int:=if lo<=r then ch.getD (r - lo) 0 else 0
theorem Qn(ds:List D):je (.lst ds)=some (.L,ds):=rfl
theorem yV(ds:List D):je (.tup ds)=some (.T,ds):=rfl
theorem VX(w:Nat->Bool)(wd:Nat->Nat)(k:Nat):wd (endR w k)=hiW w wd k:=by unfold endR hiW;split<;>rfl
theorem Yz(w:Nat->Bool)(wd:Nat->Nat)(k:Nat):wd (begR w k)=wiW w wd k:=by unfold begR wiW;split<;>rfl
def J0(m:Nat)(w:Nat->Bool)(wd wd':Nat->Nat)(J:Nat->Nat->Nat->Int):List D:=(zi2 m).map λk=>jI (hiW w wd k) (wiW w wd' k) (J k)
def QW(h w:Nat)(f g j:Nat->Nat->Int)(i:Nat):Vc:=if i<h then jv w (f i) (j i)else jv w (λ_=>0) (g (i - h))
theorem VN{h w h' w':Nat}(f g j:Nat->Nat->Int):zN h (w+w') (λi=>jv w (f i) (j i))++zN h' (w+w') (λi=>jv w (λ_=>0) (g i))=zN (h+h') (w+w') (QW h w f g j):=
 Kb h h' _ _ _ _ (λi j hi _=>by unfold QW;rw [if_pos hi]) λi j hi _=>by unfold QW;rw [if_neg ⋯,zjs]
theorem VM{h w h' w':Nat}(f g j:Nat->Nat->Int)(hh:h<=400)(hw:w<=400)(a1:h'<=400)(a2:w'<=400) :
 F_tables_joined [jI h w f,jI h' w' g,jI h w' j]=some (.val (jI (h+h') (w+w') (QW h w f g j))):=by
 have hl:=z9;have l1:h<=lim:=by omega
 have l2:w<=lim:=by omega
 have l3:h'<=lim:=by omega
 have I:w+w'<=lim:=by omega
 have S:h+h'<=lim:=by omega
 have O : ∀(h w:Nat) (f:Nat->Nat->Int),je (jI h w f)=some (.T,[.int h,.int w,.tup (zN h w f)]):=λ_ _ _=>rfl;have U:qV (.tup [.int 0]) (.int w)=some (.tup (zz w λ_=>0)):=by
  show(if ([D.int 0]).length*(w:Int).toNat<=lim/\inR (w:Int)=true then _ else _)=_;rw [if_pos ⟨by simpa using l2,yP l2⟩,zjM,Vv]
 have Y:zL (.tp [0,1]) jb (zv jj (zc 0) (zc 1)) [Cell.no,Cell.no] (yC (zN h w f) (zN h w' j))=some (zN h (w+w') λi=>jv w (f i) (j i)):=by
  have z:yC (zN h w f) (zN h w' j)=(zi2 h).map λi=>D.tup [.tup (zz w (f i)),.tup (zz w' (j i))]:=by
   unfold yC zN;rw [zkO];simp
  rw [z];unfold zN;refine zo _ _ λi hi=>zq rfl rfl ?_;have e:jj (.tup (zz w (f i))) (.tup (zz w' (j i)))=some (.tup (zz (w+w') (jv w (f i) (j i)))):=by
   show(if (zz w (f i)).length+(zz w' (j i)).length<=lim then _ else _)=_;rw [if_pos (by simpa using I),qK]
  show zv _ _ _ [Cell.val (.tup (zz w (f i))),Cell.val (.tup (zz w' (j i)))]=_;simp [e]
 have g2:zL (.nm 0) jb (zv jj (zv qV (jx (za (zh (.int 0)) zu)) (sIx (zf 1) (zh (.int 1)))) (zc 0)) [Cell.no,Cell.val (jI h w f)] (zN h' w' g)=some (zN h' (w+w') λi=>jv w (λ_=>0) (g i)):=by
  unfold zN;refine zo _ _ λi hi=>zq rfl rfl ?_;have e:jj (.tup (zz w λ_=>0)) (.tup (zz w' (g i)))=some (.tup (zz (w+w') (jv w (λ_=>0) (g i)))):=by
   show(if (zz w λ_=>0).length+(zz w' (g i)).length<=lim then _ else _)=_;rw [if_pos (by simpa using I),qK]
  simp [O,U,e]
 have Z:(yC (zN h w f) (zN h w' j)).length<=lim:=by
  unfold yC zN;simp;exact l1
 simp [F_tables_joined,ja,zP,zR,O,l1,l3,S,Z,jd,qx,zi5,Y,g2];rw [VN];simp [jI]
section
variable{p:Int}{m:Nat}{w:Nat->Bool}{wd wd':Nat->Nat}{T T' J:Nat->Nat->Nat->Int}
theorem xv(p m w wd T):je (zT p m w wd T)=some (.T,[.int p,.tup (zz (m+1) λk=>(wd k:Int)),.tup (jS m w wd T)]):=rfl
theorem zdz(w:Nat->Bool)(wd wd':Nat->Nat)(k:Nat):hiW w (λk=>wd k+wd' k) k=hiW w wd k+hiW w wd' k:=by unfold hiW;split<;>rfl
theorem zcv(w:Nat->Bool)(wd wd':Nat->Nat)(k:Nat):wiW w (λk=>wd k+wd' k) k=wiW w wd k+wiW w wd' k:=by unfold wiW;split<;>rfl
end
def F_stretches_of:List D->Option Res:=ja 3 (zI (xm 1 (qB zu)) (zI (yX (zX (zc 0)) (.nm 2) (QA 1 (zD (qQ (zc 2) (zc 0)) (.nm 0) 1 [2] jb (jx (za (zc 1) (za (zc 0) zu)))))) (k5 1)))
def zhn(n k:Nat)(u:Nat->Int):Int:=if 0<k then (if k+1<n then u (k - 1)+(u (k+1)+0)else u (k - 1)+0)else if k+1<n then u (k+1)+0 else 0
def mv(n k:Nat)(u:Nat->Int)(i:Nat):Int:=if i=k then zhn n k u - u k else u i
theorem zd4{w:Nat}{B:Nat->Vc}{l:Nat->Nat}{r j:Nat}(h : ∀k,k<r->l k≠j):Xj w B l r j=0:=by
 unfold Xj;rw [zw (g:=λ_=>0) λk z=>if_neg (h k z),zF]
theorem zgf{p:Int}{w n r:Nat}{B:Nat->Vc}{l:Nat->Nat}(I:IsB p n r B l){k:Nat}(z:k<r):Xj w B l r (l k)=B k w:=by
 unfold Xj;rw [jm z λm hm O=>if_neg λe=>O (XU I.mono hm z e),if_pos rfl]
theorem W7{p:Int}{h w:Nat}{f:Nat->Nat->Int}{b y:Vc}(O : ∀i,i<h->sumTo (λj=>f i j*y j) w%p=b i%p){v:Vc}(S:Span p (w+1) (Fam h (aug w f b)) v):(v w - sumTo (λj=>v j*y j) w)%p=0:=by
 induction S with
 | @zero v h0=>
  have e:sumTo (λj=>v j*y j) w%p=sumTo (λ_=>0) w%p:=z7 λj I=>by rw [zjf,h0 j ⋯];simp
  rw [zkF,e,h0 w ⋯,zF];simp
 | @step v z g c U a2 h1 Y=>
  obtain⟨i,hi,rfl⟩:=U;have e1:sumTo (λj=>v j*y j) w%p=(sumTo (λj=>z j*y j) w+c*sumTo (λj=>f i j*y j) w)%p:=by
   rw [<- jW,<- jO];refine z7 λj I=>?_;rw [zjf,h1 j ⋯,<- zjf];have:aug w f b i j=f i j:=by simp [aug,I]
   rw [this,Int.add_mul,zk7]
  have Z:v w%p=(z w+c*b i)%p:=by
   rw [h1 w ⋯];have:aug w f b i w=b i:=by simp [aug]
   rw [this]
  have e3:(c*sumTo (λj=>f i j*y j) w)%p=(c*b i)%p:=by rw [zjf,O i hi,<- zjf]
  rw [zkF,e1,Z,<- zkF];have e4:(z w+c*b i - (sumTo (λj=>z j*y j) w+c*sumTo (λj=>f i j*y j) w))=(z w - sumTo (λj=>z j*y j) w)+(c*b i - c*sumTo (λj=>f i j*y j) w):=by omega
  rw [e4,zjD,Y,zkF,e3];simp
theorem W9{p:Int}(U:Pr p){h w:Nat}(hh:h<=90)(hw:w<=90)(f:Nat->Nat->Int)(b y:Vc)(S : ∀i,i<h->0<=b i/\b i<p)(hy : ∀i,i<h->sumTo (λj=>f i j*y j) w%p=b i) :
 ∃x:Vc,kJ [.int p,jI h w f,.tup (zz h b)]=some (.val (.tup (zz w x)))/\(∀j,0<=x j/\x j<p)/\∀i,i<h->sumTo (λj=>f i j*x j) w%p=b i:=by
 have p0:=U.pos;obtain⟨r,B,l,s,O,Y,hs,s1,s2,Z⟩:=wF U hh hw f b;have a3 : ¬s<r:=λz=>by
  have ab:=O.lt s z;have ac:=s2 s (zjb _) z;have el:l s=w:=by omega
  have sp:=(Y (B s)).mp (.gen ⟨s,z,rfl⟩);have q:=W7 (y:=y) (λi hi=>by rw [hy i hi,zkx (S i hi).1 (S i hi).2]) sp;have h1:=O.one s z;rw [el]at h1;have h2:sumTo (λj=>B s j*y j) w=0:=by
   rw [zw (g:=λ_=>0) λj hj=>by rw [O.bef s j z ⋯];simp];exact zF _
  rw [h1,h2,Int.sub_zero,U.one]at q;omega
 rw [if_neg a3]at Z;have er:s=r:=by omega
 subst er;refine⟨_,Z,λj=>?_,λi hi=>?_⟩
 ·by_cases e : ∃k,k<s/\l k=j
  ·obtain⟨k,I,rfl⟩:=e
   rw [zgf O I];exact O.rng k w I ⋯
  ·rw [zd4 λk I e'=>e ⟨k,I,e'⟩];exact⟨Int.le_refl _,p0⟩
 ·have co:=vj O ((Y (aug w f b i)).mpr (.gen ⟨i,hi,rfl⟩)) w ⋯
  have a8:aug w f b i w=b i:=by simp [aug]
  rw [a8,zkx (S i hi).1 (S i hi).2]at co;rw [co];congr 1;unfold Xj;rw [zw (g:=λj=>sumTo (λk=>f i j*(if l k=j then B k w else 0)) s) λj _=>(jW _ _ _).symm,kq];refine zw λk I=>?_;rw [jm (i:=l k) (s1 k I) λj hj a9=>by rw [if_neg (zj6 a9)];simp,if_pos rfl];simp only [aug,if_pos (s1 k I)]
def xi(wd:Nat->Nat)(b:Bar):List D:=(zi2 b.n).map λi=>D.tup (zz (wd (b.s+i)) (b.v (b.s+i)))
def jR(wd:Nat->Nat)(b:Bar):D:= .tup [.int b.s,.tup (xi wd b)]
@[simp] theorem K6(wd b):(xi wd b).length=b.n:=by simp [xi]
theorem XW{wd:Nat->Nat}{b:Bar}{i:Nat}(h:i<b.n):(xi wd b)[i]? = some (.tup (zz (wd (b.s+i)) (b.v (b.s+i)))):=by simp [xi,h]
@[simp] theorem zhP(wd b):je (jR wd b)=some (.T,[.int b.s,.tup (xi wd b)]):=rfl
section
variable{wd:Nat->Nat}{b:Bar}{bars:List Bar}
theorem KA(h1:1<=b.n)(hn:b.s+b.n<=100):jU [jR wd b]=some (.val (.tup [.int b.s,.int ((b.s+b.n - 1:Nat):Int)])):=by
 have e:((b.s:Int)+(b.n:Int) - 1)=((b.s+b.n - 1:Nat):Int):=by omega
 simp [jU,ja,zP,jR,zi5];omega
theorem xG(hn:b.s+b.n<=100)(r:Nat):ju [jR wd b,.int r]=some (.val (.bl (b.has r))):=by
 by_cases h:b.s<=r
 ·by_cases h2:r<b.s+b.n
  ·have:(r:Int)<(b.s:Int)+b.n:=by omega
   simp [ju,ja,zP,jR,zi5,Bar.has,h,h2,this]
  ·have : ¬((r:Int)<(b.s:Int)+b.n):=by omega
   simp [ju,ja,zP,jR,zi5,Bar.has,h,h2,this]
 ·simp [ju,ja,zP,jR,zi5,Bar.has,h]
theorem wn{N:Nat}{A:Nat->Bar}(z : ∀j,j<N->(A j).s+(A j).n<=100)(I:N<=lim)(r:Nat) :
 qP [.lst ((zi2 N).map λj=>jR wd (A j)),.int r]=some (.own (((zi2 N).filter λj=>(A j).has r).map λj=>D.tup (zz (wd r) ((A j).v r)))):=by
 simp only [qP,ja,zP,WE,qD,kH,jQ,zjw,List.map_nil,zjv,zjX,zi5,zlG,zmY,zmj,zi9,x9,je,zjt,zi7,zjh,zkU,I,if_true];rw [ji (λj=>(A j).has r) (λj=>D.tup (zz (wd r) ((A j).v r))) (zi2 N) λj O=>⟨_,rfl,?_,λU=>?_⟩]
 ·rfl
 ·have e:=xG (wd:=wd) (z j (zi6.mp O)) r
  simp [jd,e]
 ·obtain⟨h1,h2⟩:=has_iff.mp U
  obtain⟨i,rfl⟩:=Nat.exists_eq_add_of_le h1;have hi:i<(A j).n:=by omega
  have e1:(((A j).s+i:Nat):Int) - ((A j).s:Int)=(i:Int):=by omega
  have S:=XW (wd:=wd) hi;have I:=z9;have Y:=z j (zi6.mp O);simp [jd,jR,hi,S];rw [show((A j).s:Int)+(i:Int) - ((A j).s:Int)=(i:Int)by omega,jZ,if_pos hi];exact S
theorem Zt{q h:Nat}(g:Nat->Vc)(z:q<=lim)(I:h<=lim):kl [.int h,.lst (zN q h g)]=some (.val (jI h q λi j=>g j i)):=by
 have e:=yA (h:=q) (w:=h) g z I;unfold jI at e;simp [kl,ja,zP,zi5,z,e];rfl
theorem zaP(h:Nat)(u:Nat->Vc)(L:List Nat):(L.map λj=>D.tup (zz h (u j)))=zN L.length h λi=>u (L.getD i 0):=by
 unfold zN
 conv=>lhs;rw [<- j4 0 L]
 rw [zjW];rfl
theorem zaO(u:Nat->Int)(L:List Nat):(L.map λj=>D.int (u j))=zz L.length λi=>u (L.getD i 0):=by
 unfold zz
 conv=>lhs;rw [<- j4 0 L]
 rw [zjW];rfl
theorem ko(P:Nat->Bool)(g:Nat->Int) : ∀N,sumTo (λi=>g (((zi2 N).filter P).getD i 0)) ((zi2 N).filter P).length=sumTo (λj=>if P j=true then g j else 0) N
 | 0=>rfl
 | N+1=>by
  have z:=ko P g N;rw [zkh,zlO];show _=sumTo _ N+_;rw [<- z];cases hP:P N with
  | false=>simp [hP]
  | true=>
   have e:([N].filter P)=[N]:=by simp [hP]
   rw [e,zjY,zlw];show sumTo _ _+_=_;simp only [if_true];congr 1
   ·refine zw λi hi=>?_
    simp [zjd,zkb hi]
   ·simp [zjd,hP]
end
section
variable{wd:Nat->Nat}{N m:Nat}{A:Nat->Bar}{p:Int}{w:Nat->Bool}{T:Nat->Nat->Nat->Int}{t:Vc}
theorem WS:yC (zz N t) ((zi2 N).map λj=>jR wd (A j))=(zi2 N).map λj=>D.tup [.int (t j),jR wd (A j)]:=by
 unfold yC zz;rw [List.zip_map,zjW];have e:(zi2 N).zip (zi2 N)=(zi2 N).map λi=>(i,i):=by
  rw [List.zip_eq_zipWith,List.zipWith_self]
 rw [e,zjW];rfl
theorem ZY(S:Pr p)(U : ∀j,j<N->(A j).s+(A j).n<=100)(hN:N<=60)(hm:m<=5)(Y : ∀k,wd k<=60){r:Nat}(hr:r<=m)(Z : ∀j i,j<N->(A j).has r=true->i<wd r->0<=(A j).v r i/\(A j).v r i<p) :
 ki [zT p m w wd T,.lst ((zi2 N).map λj=>jR wd (A j)),.tup (zz N t),.int r]=some (.val (.tup (zz (wd r) (mxV p A N t r)))):=by
 have hl:=z9;have p7:=S.le;have aa:=Y r;have e1:=wn (wd:=wd) U (show N<=lim by omega) r;rw [zaP (wd r) (λj=>(A j).v r)]at e1;have hq:((zi2 N).filter λj=>(A j).has r).length<=N:=by
  have:=List.length_filter_le (λj=>(A j).has r) (zi2 N);simpa using this
 have e2:=Zt (q:=((zi2 N).filter λj=>(A j).has r).length) (h:=wd r) (λi=>(A (((zi2 N).filter λj=>(A j).has r).getD i 0)).v r) ⋯ ⋯;have I:=Jp (p:=p) (h:=wd r) (w:=((zi2 N).filter λj=>(A j).has r).length) .L (λi j=>(A (((zi2 N).filter λj=>(A j).has r).getD j 0)).v r i) (λi=>t (((zi2 N).filter λj=>(A j).has r).getD i 0)) S.pos ⋯ ⋯ (λi j hi O=>by
  have a1:((zi2 N).filter λj=>(A j).has r).getD j 0∈(zi2 N).filter λj=>(A j).has r:=by
   rw [zjd,zi8 O];exact zkN _
  obtain⟨h1,h2⟩:=zjz.mp a1;have:=Z _ i (zi6.mp h1) (by simpa using h2) hi;omega)
 have e4:(zz (wd r) λi=>sumTo (λj=>(A (((zi2 N).filter λj=>(A j).has r).getD j 0)).v r i*t (((zi2 N).filter λj=>(A j).has r).getD j 0)) ((zi2 N).filter λj=>(A j).has r).length%p)=zz (wd r) (mxV p A N t r):=kE λi _=>by
  unfold mxV;rw [ko (λj=>(A j).has r) (λj=>(A j).v r i*t j) N];congr 1;refine zw λj _=>?_;rw [zkY]
 rw [e4]at I;have e5:zL (.tp [0,1]) (sB (zn ju (za (zc 1) (za (zc 2) zu)))) (zc 0) [.no,.no,.val (.int r)] ((zi2 N).map λj=>D.tup [.int (t j),jR wd (A j)])=some (zz ((zi2 N).filter λj=>(A j).has r).length λi=>t (((zi2 N).filter λj=>(A j).has r).getD i 0)):=by
  rw [<- zaO];refine ji (λj=>(A j).has r) (λj=>D.int (t j)) _ λj O=>⟨_,rfl,?_,λ_=>rfl⟩;have e:=xG (wd:=wd) (U j (zi6.mp O)) r;simp [e]
 have a4:r<m+1:=by omega
 have z:=WS (N:=N) (wd:=wd) (t:=t) (A:=A);simp only [dsq]at I;have a5:N<=lim:=by omega
 refine jK (zA (γ':=[.val (zT p m w wd T),.val (.lst ((zi2 N).map λj=>jR wd (A j))),.val (.tup (zz N t)),.val (.int r),.val (.lst (zz ((zi2 N).filter λj=>(A j).has r).length λi=>t (((zi2 N).filter λj=>(A j).has r).getD i 0)))]) ?_ ?_)
 ·simp [-zjd,zP,jd,zi5,z,e5,a5]
 ·simp [-zjd,zT,e1,e2,I,a4]
theorem zaL(S:Pr p)(I : ∀j,j<N->(A j).s+(A j).n<=m+1)(U:N<=60)(hm:m<=5)(Y : ∀k,wd k<=60)(Z : ∀j r i,j<N->(A j).has r=true->i<wd r->0<=(A j).v r i/\(A j).v r i<p){a:Nat}(ha:a<N)(t0 : ∀i,i<a->t i=0)(t1:t a≠0) :
 Jo [zT p m w wd T,.lst ((zi2 N).map λj=>jR wd (A j)),.tup (zz N t)]=some (.val (jR wd (mxB p A N t a))):=by
 have hl:=z9;have a2:N<=lim:=by omega
 have e0:=kj a2 t ha t0 t1;have a9:=I a ha;have e1:zL (.nm 0) jb (zn ki (za (zc 1) (za (zc 2) (za (zc 3) (za (zv jj (sIx (zf 4) (zh (.int 0))) (zc 0)) zu))))) [.no,.val (zT p m w wd T),.val (.lst ((zi2 N).map λj=>jR wd (A j))),.val (.tup (zz N t)),.val (jR wd (A a))] ((zi2 (A a).n).map λ(i:Nat)=>D.int i)=some (xi wd (mxB p A N t a)):=by
  unfold xi;refine zo _ _ λi hi=>zq rfl rfl ?_;have hi:=zi6.mp hi;have e:=ZY (T:=T) (w:=w) (t:=t) S (λj z=>by have:=I j z;omega) U hm Y (r:=(A a).s+i) (by have:i<(A a).n:=hi;omega) λj c z hh hc=>Z j _ c z hh hc;have e2:(((A a).s+i:Nat):Int)=((A a).s:Int)+(i:Int):=by omega
  rw [e2]at e;have i0:inR (((A a).s:Int)+(i:Int))=true:=decide_eq_true (by have:i<(A a).n:=hi;omega);simp [e];rfl
 have hn:(A a).n<=lim:=by omega
 have i1:inR ((A a).n:Int)=true:=decide_eq_true ⋯;refine jK (zA (γ':=[.val (zT p m w wd T),.val (.lst ((zi2 N).map λj=>jR wd (A j))),.val (.tup (zz N t)),.val (jR wd (A a)),.no]) ?_ (zA (γ':=[.val (zT p m w wd T),.val (.lst ((zi2 N).map λj=>jR wd (A j))),.val (.tup (zz N t)),.val (jR wd (A a)),.val (.lst (xi wd (mxB p A N t a)))]) ?_ ?_))
 ·simp [zP,zi5,e0,ha]
 ·have O:=e1
  rw [show((zi2 (A a).n).map λ(i:Nat)=>D.int i)=zz (A a).n λi=>(i:Int)from rfl]at O;simp [jd,jD,i1,hn,O]
 ·have a7:(mxB p A N t a).n<=lim:=hn
  simp [K6,a7];rfl
end
def b1:CO Fl:=(sIf (qk (sB (zn ZC (za (zc 1) zu)))) kS j9)
def b2:CO Fl:=(zU 3 (zv jj (JF (zc 1)) (zh (.int 1))))
def b3:CO Fl:=(sIf (qk (sB (zah (jy (zD (zG (zf 2)) (.nm 0) 1 [3] jb (zn vd (za (zc 1) (za (zc 0) zu)))))))) kS j9)
def b4:CO Fl:=(zU 4 (jp (zbK (zf 2))))
def b5:CO Fl:=(zU 5 (jp (zD (zX (zc 3)) (.nm 0) 1 [4] jb (jp (jg WO (za (zc 1) (za (zc 0) zu)))))))
def b6:CO Fl:=(zU 6 (zO (jy (zD (zG (zf 5)) (.nm 0) 1 [] jb (ya (zf 0))))))
def b7:CO Fl:=(sIf (sB (zv dGt (zcO (zf 6)) (zh (.int 30)))) kS j9)
def b8:CO Fl:=(zU 7 (jp (zD (yY (zc 1)) (.tp [0,1]) 2 [5] jb (jx (za (zc 1) (za (zn Xp (za (sIx (zf 2) (zn zbu (za (zc 0) (za (zc 1) zu)))) (za (sIx (zf 2) (zn wW (za (zc 0) (za (zc 1) zu)))) zu))) zu))))))
def x1:CO Xn:=(xIf (qk (sB (zn ZC (za (zc 1) zu)))) (zcu "NoRow") xNo)
def x3:CO Xn:=(xIf (qk (sB (zah (jy (zD (zG (zf 2)) (.nm 0) 1 [3] jb (zn vd (za (zc 1) (za (zc 0) zu)))))))) (zcu "NoRow") xNo)
def x7:CO Xn:=(xIf (sB (zv dGt (zcO (zf 6)) (zh (.int 30)))) (zcu "TooMany") xNo)
def zeM(m:Nat)(bs:List (Int×Int)):List D:=(zi2 (m+1)).map λ(r:Nat)=>D.lst (zho (zb2 bs r))
def Yx(m:Nat)(bs:List (Int×Int)):List D:=zz (m+1) λr=>((zb2 bs r).length:Int)
section
variable{p:Int}{m:Nat}{w:Nat->Bool}{bs:List (Int×Int)}
abbrev g0(p:Int)(z:Str)(bs:List (Int×Int)):Ctx:=[.val (.int p),.val (.str z),.val (.lst (Xc bs)),.no,.no,.no,.no,.no]
abbrev g2(p:Int)(z:Str)(m:Nat)(bs:List (Int×Int)):Ctx:=[.val (.int p),.val (.str z),.val (.lst (Xc bs)),.val (.int ((m+1:Nat):Int)),.no,.no,.no,.no]
abbrev g6(p:Int)(z:Str)(m:Nat)(bs:List (Int×Int)):Ctx:=[.val (.int p),.val (.str z),.val (.lst (Xc bs)),.val (.int ((m+1:Nat):Int)),.val (.lst (Xc (zcD bs))),.val (.lst (zeM m (zcD bs))),.val (.tup (Yx m (zcD bs))),.no]
end
theorem Xf(G F H)(γ:Ctx):zcr G F H γ=match G γ with
 | some c=>some c
 | none=>(F γ).bind λz=>match z with
  | .next γ'=>H γ'
  | _=>none:=rfl
section
variable{p:Int}{m:Nat}{w:Nat->Bool}{bs:List (Int×Int)}
abbrev lc(p:Int)(m:Nat)(w:Nat->Bool)(bs:List (Int×Int))(acc:List D)(c5 c6 c7 c8 c9:Cell):Ctx:=[.val (.int p),.val (.str (qM m w)),.val (.lst (Xc bs)),.val (.lst (Yx m bs)),.own acc,c5,c6,c7,c8,c9]
end
def rnd(n:Nat)(ks:List Nat)(u:Nat->Int):Nat->Int:=ks.foldl (λu k=>mv n k u) u
def sw(k i:Nat):Nat:=if i=k then k+1 else if i=k+1 then k else i
def itr(n:Nat)(ks:List Nat)(u:Nat->Int):Nat->Nat->Int
 | 0=>u
 | j+1=>rnd n ks (itr n ks u j)
def acc(n:Nat)(ks:List Nat)(u:Nat->Int):Nat->Nat->Int
 | 0=>λ_=>0
 | j+1=>λi=>acc n ks u j i+itr n ks u j i
theorem Z7(b:Bool):dEq (.str (qm (wch b))) (.str "r")=some (.bl (!b)):=by cases b<;>kernel_rfl
section
variable{wd:Nat->Nat}{N m k r:Nat}{A:Nat->Bar}{p:Int}{w:Nat->Bool}{T:Nat->Nat->Nat->Int}{B:Nat->Vc}{l:Nat->Nat}
theorem X7(l:Nat->Nat)(g:Nat->D)(i:Nat) : ∀(L:List Nat),zef (L.map λj=>D.int ((l j:Nat):Int)) (L.map g) (i:Int)=(L.find? λj=>l j==i).map g
 | []=>rfl
 | j::L=>by
  have z:=X7 l g i L;simp only [zjw,zef,List.find?_cons];by_cases h:l j=i
  ·simp [h]
  ·have h2 : ¬((l j:Nat):Int)=(i:Int):=by omega
   rw [if_neg h2,z];have:(l j==i)=false:=by simpa using h
   rw [this]
theorem J2(l:Nat->Nat) : ∀L:List Nat,yO (L.map λj=>D.int ((l j:Nat):Int))=some (L.map λj=>((l j:Nat):Int))
 | []=>rfl
 | j::L=>by simp [yO,J2 l L]
theorem K9(z:IsB p N r B l)(I:r<=lim):zbe ((zi2 r).map λj=>D.int ((l j:Nat):Int)) ((zi2 r).map λj=>D.tup (zz N (B j)))=some (.dic ((zi2 r).map λj=>D.int ((l j:Nat):Int)) ((zi2 r).map λj=>D.tup (zz N (B j)))):=by
 unfold zbe;rw [J2];dsimp only;rw [if_pos];refine⟨by simp,?_,by simpa using I⟩;rw [List.nodup_iff_pairwise_ne,zlq];refine zlA (λ{a b} ha O h=>?_) (zlp (n:=r));have:=z.mono a b h (zi6.mp O);omega
theorem Jx(f g:Nat->D) : ∀L:List Nat,xO (L.map λj=>D.tup [f j,g j])=some (L.map f,L.map g)
 | []=>rfl
 | j::L=>by simp [xO,Jx f g L]
theorem wz(h:k<(jS m w wd T).length):(jS m w wd T)[k]=qf w wd T k:=by simp [jS]
theorem xA(w wd T k):je (qf w wd T k)=some (.T,[.str (qm (wch (w k))),jI (hiW w wd k) (wiW w wd k) (T k)]):=rfl
theorem Q3:xo ((zi2 N).map λj=>jR wd (A j))=(zi2 N).map λ(i:Nat)=>D.tup [.int i,jR wd (A i)]:=by
 unfold xo;simp only [zjh,zkU];refine zjg λi hi=>?_;have hi:=zi6.mp hi;simp [hi]
def Spec(p:Int)(w:Nat->Bool)(wd:Nat->Nat)(T:Nat->Nat->Nat->Int)(k:Nat)(u:Vc):Prop:=if w k=true then Span p (wd k) (Fam (wd (k+1)) λj i=>T k i j) u else Ker p (wd (k+1)) (wd k) (T k) u
theorem KB(S:Pr p)(U : ∀k,wd k<=8)(w)(T)(k:Nat) : ∃q g,q<=100/\(∀u,Span p (wd k) (Fam q g) u↔Spec p w wd T k u)/\
 (if w k=true then k9 [.int p,jI (hiW w wd k) (wiW w wd k) (T k)]=some (.own (zN q (wd k) g))else xI [.int p,jI (hiW w wd k) (wiW w wd k) (T k)]=some (.own (zN q (wd k) g))):=by
 have hl:=z9;have Y:=U k;have a3:=U (k+1);have Z : ∀{r n:Nat} {B:Nat->Vc} {l:Nat->Nat},IsB p n r B l->r<=n:=λ{r n B l} z=>by
  have mono : ∀k,k<r->k<=l k:=by
   intro k
   induction k with
   | zero=>intro _;omega
   | succ k ih=>intro Y;have:=ih ⋯;have:=z.mono k (k+1) ⋯ Y;omega
  cases r with
  | zero=>omega
  | succ a0=>have:=mono a0 ⋯;have:=z.lt a0 ⋯;omega
 cases hw:w k with
 | true=>
  have e1:hiW w wd k=wd k:=by unfold hiW;rw [hw];rfl
  have I:wiW w wd k=wd (k+1):=by unfold wiW;rw [hw];rfl
  obtain⟨r,B,l,e,z,O⟩:=ZB S (h:=wd k) (w:=wd (k+1)) ⋯ ⋯ (T k);refine⟨r,B,by have:=Z z;omega,λu=>by unfold Spec;rw [hw,if_pos rfl];exact O u,?_⟩;rw [if_pos rfl,e1,I];exact e
 | false=>
  have e1:hiW w wd k=wd (k+1):=by unfold hiW;rw [hw];rfl
  have I:wiW w wd k=wd k:=by unfold wiW;rw [hw];rfl
  obtain⟨q,K,l,s,e,z,O,_⟩:=qX S (h:=wd (k+1)) (w:=wd k) ⋯ ⋯ (T k);refine⟨q,K,by have:=Z z;omega,λu=>by unfold Spec;rw [hw,if_neg ⋯];exact O u,?_⟩;rw [if_neg ⋯,e1,I];exact e
def sd1:CO Fl:=(zU 3 (sIx (zC (sIx (zC (sIx (zf 0) (zh (.int 2)))) (zc 1))) (zh (.int 0))))
def sd2:CO Fl:=(zU 4 (sIx (zC (sIx (zC (sIx (zf 0) (zh (.int 2)))) (zc 1))) (zh (.int 1))))
def sd3:CO Fl:=(zU 5 (JG (sB (zv dEq (zc 3) (zh (.str "r")))) (jp (jg xI (za (sIx (zf 0) (zh (.int 0))) (za (zc 4) zu)))) (jp (jg k9 (za (sIx (zf 0) (zh (.int 0))) (za (zc 4) zu))))))
def sd4:CO Fl:=(zU 6 (jp (jg F_led_into (za (sIx (zf 0) (zh (.int 0))) (za (zn kl (za (sIx (zC (sIx (zf 0) (zh (.int 1)))) (zc 1)) (za (jp (jg qP (za (zc 2) (za (zc 1) zu)))) zu))) (za (zc 5) zu))))))
def sd5:CO Fl:=(zU 7 (Y2 (zD (zG (zf 6)) (.nm 0) 1 [] jb (jx (za (zn jV (za (zc 0) zu)) (za (zc 0) zu))))))
def sd6:CO Fl:=(xD (zD (Xz (zc 2)) (.tp [0,1]) 2 [0,2,7] jb (JG (sB (zeL (zc 0) (zc 4))) (zn Jo (za (zc 2) (za (zc 3) (za (zgm (zc 4) (zc 0)) zu)))) (zc 1))))
theorem Qv:yz=ja 8 (zI sd1 (zI sd2 (zI sd3 (zI sd4 (zI sd5 sd6))))):=rfl
theorem KG(Y:Pr p)(hb : ∀j,j<N->(A j).s+(A j).n<=m+1)(Z : ∀j,j<N->(A j).has k=true)(a3:k<m)(hN:N<=8)(hm:m<=5)(a0 : ∀k,wd k<=8)(hv : ∀j r i,j<N->(A j).has r=true->i<wd r->0<=(A j).v r i/\(A j).v r i<p) :
 ∃r B l,IsB p N r B l/\(∀t,Span p N (Fam r B) t↔Spec p w wd T k (app (λi j=>(A j).v k i) N t))/\
  yz [zT p m w wd T,.int k,.lst ((zi2 N).map λj=>jR wd (A j))]=some (.own ((zi2 N).map λi=>jR wd (stB p A N r B l i))):=by
 have hl:=z9;obtain⟨q,g,hq,a9,S⟩:=KB Y a0 w T k;have an:=a0 k;obtain⟨r,B,l,e1,z,hs⟩:=yB Y (h:=wd k) (w:=N) (q:=q) ⋯ ⋯ hq (λi j=>(A j).v k i) g;refine⟨r,B,l,z,λt=>(hs t).trans (a9 _),?_⟩;have U:N<=lim:=by omega
 have ab:k<m+1:=by omega
 have rN:r<=N:=by
  have mono : ∀k,k<r->k<=l k:=by
   intro k
   induction k with
   | zero=>intro _;omega
   | succ k ih=>intro Z;have:=ih ⋯;have:=z.mono k (k+1) ⋯ Z;omega
  cases r with
  | zero=>omega
  | succ a4=>have:=mono a4 ⋯;have:=z.lt a4 ⋯;omega
 have a5:r<=lim:=by omega
 have e2:=wn (wd:=wd) (A:=A) (N:=N) (λj I=>by have:=hb j I;omega) U k;have ef:((zi2 N).filter λj=>(A j).has k)=zi2 N:=List.filter_eq_self.mpr λj I=>Z j (zi6.mp I);rw [ef]at e2;have e3:=Zt (q:=N) (h:=wd k) (λj=>(A j).v k) U ⋯;have af:qP [.lst ((zi2 N).map λj=>jR wd (A j)),.int k]=some (.own (zN N (wd k) λj=>(A j).v k)):=e2;have e4:zL (.nm 0) jb (jx (za (zn jV (za (zc 0) zu)) (za (zc 0) zu))) [.no] (zN r N B)=some ((zi2 r).map λj=>D.tup [.int ((l j:Nat):Int),.tup (zz N (B j))]):=by
  unfold zN;refine zo _ _ λj I=>zq rfl rfl ?_;have I:=zi6.mp I;have e:=kj U (B j) (z.lt j I) (λi hi=>z.bef j i I hi) (by rw [z.one j I];decide);simp [e]
 have e5:=K9 z a5;have e6:=Jx (λj=>D.int ((l j:Nat):Int)) (λj=>D.tup (zz N (B j))) (zi2 r);let ds:D:= .dic ((zi2 r).map λj=>D.int ((l j:Nat):Int)) ((zi2 r).map λj=>D.tup (zz N (B j)));let L:D:= .lst ((zi2 N).map λj=>jR wd (A j));have e7:zL (.tp [0,1]) jb (JG (sB (zeL (zc 0) (zc 4))) (zn Jo (za (zc 2) (za (zc 3) (za (zgm (zc 4) (zc 0)) zu)))) (zc 1)) [.no,.no,.val (zT p m w wd T),.val L,.val ds] ((zi2 N).map λ(i:Nat)=>D.tup [.int i,jR wd (A i)])=some ((zi2 N).map λi=>jR wd (stB p A N r B l i)):=by
  refine zo _ _ λi hi=>zq rfl rfl ?_;have hi:=zi6.mp hi;have O:=X7 l (λj=>D.tup (zz N (B j))) i (zi2 r);have ak:(zi2 r).find? (λj=>l j==i)=ldx r l i:=rfl;rw [ak]at O;unfold stB;cases hx:ldx r l i with
  | none=>
   rw [hx]at O;simp [ds,zeL,O]
  | some j=>
   rw [hx]at O;obtain⟨h1,h2⟩:=qt hx;have e:=zaL (T:=T) (w:=w) (t:=B j) Y hb ⋯ hm (λk=>by have:=a0 k;omega) hv (a:=i) hi (λc hc=>z.bef j c h1 ⋯) (by rw [<- h2,z.one j h1];decide);simp [ds,zeL,zgm,O,L,e]
 rw [Qv];refine jK (zA (γ':=[.val (zT p m w wd T),.val (.int k),.val L,.val (.str (qm (wch (w k)))),.no,.no,.no,.no]) ?_
  (zA (γ':=[.val (zT p m w wd T),.val (.int k),.val L,.val (.str (qm (wch (w k)))),.val (jI (hiW w wd k) (wiW w wd k) (T k)),.no,.no,.no]) ?_
  (zA (γ':=[.val (zT p m w wd T),.val (.int k),.val L,.val (.str (qm (wch (w k)))),.val (jI (hiW w wd k) (wiW w wd k) (T k)),.val (.lst (zN q (wd k) g)),.no,.no]) ?_
  (zA (γ':=[.val (zT p m w wd T),.val (.int k),.val L,.val (.str (qm (wch (w k)))),.val (jI (hiW w wd k) (wiW w wd k) (T k)),.val (.lst (zN q (wd k) g)),.val (.lst (zN r N B)),.no]) ?_
  (zA (γ':=[.val (zT p m w wd T),.val (.int k),.val L,.val (.str (qm (wch (w k)))),.val (jI (hiW w wd k) (wiW w wd k) (T k)),.val (.lst (zN q (wd k) g)),.val (.lst (zN r N B)),.val ds]) ?_ ?_)))))
 ·simp [sd1,zP,zi5,xu,xA,wz,a3];rfl
 ·simp [sd2,xu,xA,wz,a3]
 ·cases hw:w k with
  | true=>
   rw [hw,if_pos rfl]at S;have eq:=Z7 true;simp [sd3,xu,eq,S]
  | false=>
   rw [hw,if_neg ⋯]at S;have eq:=Z7 false;simp [sd3,xu,eq,S]
 ·simp [sd4,xu,ab,L,af,e3,e1]
 ·simp [sd5,jd,e4,a5,e6,e5];rfl
 ·simp [sd6,jd,L,Q3,U,e7]
end
def oD(n:Nat):Option Vc->D
 | none=> .non
 | some y=> .tup (zz n y)
theorem KD{p:Int}(S:Pr p){h w:Nat}(U:h<=90)(hw:w<=90)(f:Nat->Nat->Int)(b:Vc)(O : ∀i,i<h->0<=b i/\b i<p) :
 ∃o:Option Vc,kJ [.int p,jI h w f,.tup (zz h b)]=some (.val (oD w o))/\(∀x,o=some x->(∀j,0<=x j/\x j<p)/\∀i,i<h->app f w x i%p=b i%p)/\(o=none->¬∃y:Vc,∀i,i<h->app f w y i%p=b i%p):=by
 have Y : ∀i,i<h->b i%p=b i:=λi hi=>zkx (O i hi).1 (O i hi).2;by_cases I : ∃y:Vc,∀i,i<h->app f w y i%p=b i%p
 ·obtain⟨y,I⟩:=I
  obtain⟨x,e,h1,h2⟩:=W9 S U hw f b y O λi hi=>by rw [<- Y i hi,<- I i hi];rfl
  refine⟨some x,e,λx' e'=>?_,λz=>by cases z⟩;cases e';exact⟨h1,λi hi=>by rw [Y i hi];exact h2 i hi⟩
 ·obtain⟨r,B,l,s,hb,a4,hs,s1,s2,Z⟩:=wF S U hw f b
  have a0:s<r:=by
   refine zka λa0=>I ?_;have er:s=r:=by omega
   subst er;refine⟨Xj w B l s,λi hi=>?_⟩;have co:=vj hb ((a4 (aug w f b i)).mpr (.gen ⟨i,hi,rfl⟩)) w ⋯;have a6:aug w f b i w=b i:=by simp [aug]
   rw [a6]at co;rw [co];congr 1;unfold app Xj;rw [zw (g:=λj=>sumTo (λk=>f i j*(if l k=j then B k w else 0)) s) λj _=>(jW _ _ _).symm,kq];refine zw λk hk=>?_;rw [jm (i:=l k) (s1 k hk) λj hj a7=>by rw [if_neg (zj6 a7)];simp,if_pos rfl];simp only [aug,if_pos (s1 k hk)]
  rw [if_pos a0]at Z;exact⟨none,Z,nofun,λ_=>I⟩
section
variable{wd:Nat->Nat}{m k:Nat}{p:Int}{w:Nat->Bool}{T:Nat->Nat->Nat->Int}
def nl1:CO Fl:=(sIf (sB (zv dEq (sIx (zf 1) (zh (.int 0))) (zh (.str "l")))) (j3 (zn kJ (za (zc 0) (za (sIx (zf 1) (zh (.int 1))) (za (zc 2) zu))))) j9)
def nl2:CO Fl:=(zU 3 (zn F_led (za (zc 0) (za (sIx (zf 1) (zh (.int 1))) (za (zc 2) zu)))))
def nl3:CO Fl:=(j3 (JG (sB (zbL (zf 3))) (zc 3) (zh .non)))
theorem zaK:qs=ja 4 (zI nl1 (zI nl2 nl3)):=rfl
theorem Z8(b:Bool):dEq (.str (qm (wch b))) (.str "l")=some (.bl b):=by cases b<;>kernel_rfl
theorem JT(I:Pr p)(a2 : ∀k,wd k<=8)(hT : ∀i j,i<hiW w wd k->j<wiW w wd k->0<=T k i j/\T k i j<p)(u:Vc)(hu : ∀i,i<wd k->0<=u i/\u i<p) :
 ∃o:Option Vc,qs [.int p,qf w wd T k,.tup (zz (wd k) u)]=some (.val (oD (wd (k+1)) o))/\(∀y,o=some y->∀c,c<wd (k+1)->0<=y c/\y c<p)/\
  (w k=false->(o=none->∀c,c<wd (k+1)->app (T k) (wd k) u c%p=0)/\∀y,o=some y->(∀c,c<wd (k+1)->app (T k) (wd k) u c%p=y c%p)/\∃c,c<wd (k+1)/\y c%p≠0)/\
  (w k=true->(o=none->¬∃y:Vc,∀c,c<wd k->app (T k) (wd (k+1)) y c%p=u c%p)/\∀y,o=some y->∀c,c<wd k->app (T k) (wd (k+1)) y c%p=u c%p):=by
 have hl:=z9;have p7:=I.le;have hk:=a2 k;have aa:=a2 (k+1);rw [zaK];cases hw:w k with
 | true=>
  have e1:hiW w wd k=wd k:=by unfold hiW;rw [hw];rfl
  have O:wiW w wd k=wd (k+1):=by unfold wiW;rw [hw];rfl
  obtain⟨o,eo,h1,h2⟩:=KD I (h:=wd k) (w:=wd (k+1)) ⋯ ⋯ (T k) u hu;refine⟨o,?_,λy e c _=>(h1 y e).1 c,nofun,λ_=>⟨h2,λy e=>(h1 y e).2⟩⟩;refine jK ?_;have S:=Z8 true;have es:nl1 (zP 4 [.int p,qf w wd T k,.tup (zz (wd k) u)])=some (.ret (.val (oD (wd (k+1)) o))):=by
   simp [nl1,zP,zi5,xA,hw,S,e1,O,eo]
  rw [zR,es];rfl
 | false=>
  have e1:hiW w wd k=wd (k+1):=by unfold hiW;rw [hw];rfl
  have O:wiW w wd k=wd k:=by unfold wiW;rw [hw];rfl
  rw [e1,O]at hT;have Y:=Jp (p:=p) (h:=wd (k+1)) (w:=wd k) .T (T k) u I.pos ⋯ ⋯ λi j hi hj=>by have:=hT i j hi hj;omega
  simp only [dsq]at Y;have S:=Z8 false;have tv:=Xu (λi=>sumTo (λj=>T k i j*u j) (wd k)%p) (wd (k+1));by_cases U : ∃c,c<wd (k+1)/\sumTo (λj=>T k c j*u j) (wd k)%p≠0
  ·refine⟨some λi=>sumTo (λj=>T k i j*u j) (wd k)%p,?_,(λy e c _=>by cases e;exact⟨zj0 _ (by have:=I.pos;omega),zjJ _ I.pos⟩),λ_=>⟨nofun,(λy e=>by cases e;exact⟨(λc _=>by rw [zjL];rfl),(by obtain⟨c,h1,h2⟩:=U;exact⟨c,h1,(by rw [zjL];exact h2)⟩)⟩)⟩,nofun⟩
   refine jK (zA (γ':=[.val (.int p),.val (qf w wd T k),.val (.tup (zz (wd k) u)),.no]) ?_ (zA (γ':=[.val (.int p),.val (qf w wd T k),.val (.tup (zz (wd k) u)),.val (.tup (zz (wd (k+1)) λi=>sumTo (λj=>T k i j*u j) (wd k)%p))]) ?_ ?_))
   ·simp [nl1,zP,zi5,xA,hw,S]
   ·simp [nl2,xA,e1,O,Y]
   ·have Z:(zi2 (wd (k+1))).any (λi=>(sumTo (λj=>T k i j*u j) (wd k)%p) != 0)=true:=by
     obtain⟨c,h1,h2⟩:=U;exact List.any_eq_true.mpr ⟨c,zi6.mpr h1,by simpa using h2⟩
    have ea:zbL (zf 3) [.val (.int p),.val (qf w wd T k),.val (.tup (zz (wd k) u)),.val (.tup (zz (wd (k+1)) λi=>sumTo (λj=>T k i j*u j) (wd k)%p))]=some (.bl true):=by
     show((yE _).map λs=>D.bl (s.any id))=_;rw [tv];show some (D.bl (((zi2 (wd (k+1))).map λi=>(sumTo (λj=>T k i j*u j) (wd k)%p) != 0).any id))=_;rw [List.any_map];rw [show(id∘λi=>(sumTo (λj=>T k i j*u j) (wd k)%p) != 0)=λi=>(sumTo (λj=>T k i j*u j) (wd k)%p) != 0 from rfl,Z]
    unfold nl3;simp only [Zx,zck,ziz,ea];rfl
  ·refine⟨none,?_,nofun,λ_=>⟨λ_ c hc=>zka λz=>U ⟨c,hc,z⟩,nofun⟩,nofun⟩
   refine jK (zA (γ':=[.val (.int p),.val (qf w wd T k),.val (.tup (zz (wd k) u)),.no]) ?_ (zA (γ':=[.val (.int p),.val (qf w wd T k),.val (.tup (zz (wd k) u)),.val (.tup (zz (wd (k+1)) λi=>sumTo (λj=>T k i j*u j) (wd k)%p))]) ?_ ?_))
   ·simp [nl1,zP,zi5,xA,hw,S]
   ·simp [nl2,xA,e1,O,Y]
   ·have Z:(zi2 (wd (k+1))).any (λi=>(sumTo (λj=>T k i j*u j) (wd k)%p) != 0)=false:=zlr.mpr λc hc z=>U ⟨c,zi6.mp hc,by simpa using z⟩
    have ea:zbL (zf 3) [.val (.int p),.val (qf w wd T k),.val (.tup (zz (wd k) u)),.val (.tup (zz (wd (k+1)) λi=>sumTo (λj=>T k i j*u j) (wd k)%p))]=some (.bl false):=by
     show((yE _).map λs=>D.bl (s.any id))=_;rw [tv];show some (D.bl (((zi2 (wd (k+1))).map λi=>(sumTo (λj=>T k i j*u j) (wd k)%p) != 0).any id))=_;rw [List.any_map];rw [show(id∘λi=>(sumTo (λj=>T k i j*u j) (wd k)%p) != 0)=λi=>(sumTo (λj=>T k i j*u j) (wd k)%p) != 0 from rfl,Z]
    unfold nl3;simp only [Zx,zck,ziz,ea];rfl
end
section
variable{wd:Nat->Nat}{m k:Nat}{p:Int}{w:Nat->Bool}{T:Nat->Nat->Nat->Int}
theorem zaY{n:Nat}(h:1<=n):ixD n (-1)=some (n - 1):=by
 unfold ixD;rw [if_neg ⋯,if_pos ⋯];congr 1;omega
theorem VA{b:Bar}(he:b.s+b.n=k+1)(y:Vc):xi wd (exB k b (some y))=xi wd b++[D.tup (zz (wd (k+1)) y)]:=by
 unfold xi exB;dsimp only;rw [zkh,zjT];congr 1
 ·refine zjg λi hi=>?_
  have hi:=zi6.mp hi;rw [if_neg ⋯]
 ·simp [he]
def tk1:CO Fl:=(zU 3 (zn qs (za (zc 0) (za (zc 1) (za (sIx (zC (sIx (zf 2) (zh (.int 1)))) (zgl (zh (.int 1)))) zu)))))
def tk2:CO Fl:=(j3 (JG (sB (zv zgG (zc 3) (zh .non))) (zc 2) (jx (za (sIx (zf 2) (zh (.int 0))) (za (zv jj (sIx (zf 2) (zh (.int 1))) (jx (za (zc 3) zu))) zu)))))
theorem YL:xB=ja 4 (zI tk1 tk2):=rfl
theorem W3{b:Bar}(h1:1<=b.n)(he:b.s+b.n=k+1)(S:k<=20){o:Option Vc}(e:qs [.int p,qf w wd T k,.tup (zz (wd k) (b.v k))]=some (.val (oD (wd (k+1)) o))) :
 xB [.int p,qf w wd T k,jR wd b]=some (.val (jR wd (exB k b o))):=by
 have U:=z9;have i1:=zaY h1;have z:=XW (wd:=wd) (b:=b) (i:=b.n - 1) ⋯;rw [show b.s+(b.n - 1)=k by omega]at z;have Y:b.n - 1<b.n:=by omega
 rw [YL];refine jK (zA (γ':=[.val (.int p),.val (qf w wd T k),.val (jR wd b),.val (oD (wd (k+1)) o)]) ?_ ?_)
 ·unfold tk1
  have es:sIx (zC (sIx (zf 2) (zh (.int 1)))) (zgl (zh (.int 1))) (zP 4 [.int p,qf w wd T k,jR wd b])=some (.tup (zz (wd k) (b.v k))):=by
   have I : ∀γ:Ctx,zgl (zh (.int 1)) γ=some (.int (-1)):=λ_=>rfl;simp [zP,zi5,i1,I];exact z
  simp only [Zw,qr,j1,qG,es];simp [zP,zi5,e]
 ·cases o with
  | none=>simp [tk2,oD,zgG,exB]
  | some y=>
   have hn:b.n+1<=lim:=by omega
   have O:=VA (wd:=wd) he y;simp [tk2,oD,zgG,hn,jj];unfold jR;rw [O];rfl
def WK(p:Int)(w:Nat->Bool)(wd:Nat->Nat)(T:Nat->Nat->Nat->Int)(k:Nat)(L:List Vc):Prop:=
 if w k=true then ∃q K l s,L=(zi2 q).map K/\IsB p (wd (k+1)) q K l/\(∀v,Span p (wd (k+1)) (Fam q K) v↔Ker p (wd k) (wd (k+1)) (T k) v)/\Rk p (wd k) (wd (k+1)) (λj i=>T k i j) s/\q+s=wd (k+1)
 else ∃r B l,IsB p (wd (k+1)) r B l/\(∀v,Span p (wd (k+1)) (Fam r B) v↔Span p (wd (k+1)) (Fam (wd k) λj i=>T k i j) v)/\L=((zi2 (wd (k+1))).filter λ(c:Nat)=> !decide ((c:Int)∈(zi2 r).map λj=>((l j:Nat):Int))).map jH
def nw1:CO Fl:=(sIf (sB (zv dEq (sIx (zf 1) (zh (.int 0))) (zh (.str "l")))) (xD (jg xI (za (zc 0) (za (sIx (zf 1) (zh (.int 1))) zu)))) j9)
def nw2:CO Fl:=(zU 2 (jp (zD (zG (jy (jg k9 (za (zc 0) (za (sIx (zf 1) (zh (.int 1))) zu))))) (.nm 0) 1 [] jb (zn jV (za (zc 0) zu)))))
def nw3:CO Fl:=(xD (zD (zae (sIx (zC (zn F_same_table (za (sIx (zC (sIx (zf 1) (zh (.int 1)))) (zh (.int 0))) zu))) (zh (.int 2)))) (.tp [0,1]) 2 [2] (sB (ZN (zc 0) (zf 2))) (zc 1)))
theorem zdm:xH=ja 3 (zI nw1 (zI nw2 nw3)):=rfl
theorem Zo(l:Nat->Nat) : ∀L:List Nat,VT (L.map λj=>D.int ((l j:Nat):Int))=some (L.map λj=>((l j:Nat):Int))
 | []=>rfl
 | j::L=>by simp [VT,Zo l L]
theorem yG{n r:Nat}{B:Nat->Vc}{l:Nat->Nat}(z:IsB p n r B l):r<=n:=by
 have mono : ∀k,k<r->k<=l k:=by
  intro k
  induction k with
  | zero=>intro _;omega
  | succ k O=>intro S;have:=O ⋯;have:=z.mono k (k+1) ⋯ S;omega
 cases r with
 | zero=>omega
 | succ I=>have:=mono I ⋯;have:=z.lt I ⋯;omega
theorem V6(n:Nat):xo (zN n n λi j=>if i=j then 1 else 0)=(zi2 n).map λ(i:Nat)=>D.tup [.int i,.tup (zz n (jH i))]:=by
 unfold xo zN;simp only [zjh,zkU];refine zjg λi hi=>?_;have hi:=zi6.mp hi;simp [hi];rfl
theorem JV(Z:Pr p)(a0 : ∀k,wd k<=8) : ∃L:List Vc,WK p w wd T k L/\xH [.int p,qf w wd T k]=some (.own (L.map λy=>D.tup (zz (wd (k+1)) y))):=by
 have hl:=z9;have hk:=a0 k;have af:=a0 (k+1);rw [zdm];unfold WK;cases hw:w k with
 | true=>
  have e1:hiW w wd k=wd k:=by unfold hiW;rw [hw];rfl
  have O:wiW w wd k=wd (k+1):=by unfold wiW;rw [hw];rfl
  obtain⟨q,K,l,s,e,z,S,hr,a5⟩:=qX Z (h:=wd k) (w:=wd (k+1)) ⋯ ⋯ (T k);refine⟨(zi2 q).map K,by rw [if_pos rfl];exact⟨q,K,l,s,rfl,z,S,hr,a5⟩,jK ?_⟩;have U:=Z8 true;have es:nw1 (zP 3 [.int p,qf w wd T k])=some (.ret (.own (zN q (wd (k+1)) K))):=by
   simp [nw1,zP,zi5,xA,hw,U,e1,O,e]
  rw [zR,es,zjW];rfl
 | false=>
  have e1:hiW w wd k=wd (k+1):=by unfold hiW;rw [hw];rfl
  have O:wiW w wd k=wd k:=by unfold wiW;rw [hw];rfl
  obtain⟨r,B,l,e,z,S⟩:=ZB Z (h:=wd (k+1)) (w:=wd k) ⋯ ⋯ (T k);have rn:=yG z;have a6:r<=lim:=by omega
  have Y:wd (k+1)<=lim:=by omega
  refine⟨_,by rw [if_neg ⋯];exact⟨r,B,l,z,S,rfl⟩,?_⟩;have U:=Z8 false;have e4:zL (.nm 0) jb (zn jV (za (zc 0) zu)) [.no] (zN r (wd (k+1)) B)=some ((zi2 r).map λj=>D.int ((l j:Nat):Int)):=by
   unfold zN;refine zo _ _ λj I=>zq rfl rfl ?_;have I:=zi6.mp I;have e:=kj Y (B j) (z.lt j I) (λi hi=>z.bef j i I hi) (by rw [z.one j I];decide);simp [e]
  have e5:zL (.tp [0,1]) (sB (ZN (zc 0) (zf 2))) (zc 1) [.no,.no,.val (.lst ((zi2 r).map λj=>D.int ((l j:Nat):Int)))] ((zi2 (wd (k+1))).map λ(i:Nat)=>D.tup [.int i,.tup (zz (wd (k+1)) (jH i))]) =
   some (((zi2 (wd (k+1))).filter λ(c:Nat)=> !decide ((c:Int)∈(zi2 r).map λj=>((l j:Nat):Int))).map λ(i:Nat)=>D.tup (zz (wd (k+1)) (jH i))):=by
   refine ji (λ(c:Nat)=> !decide ((c:Int)∈(zi2 r).map λj=>((l j:Nat):Int))) (λ(i:Nat)=>D.tup (zz (wd (k+1)) (jH i))) _ λi hi=>⟨_,rfl,?_,λ_=>rfl⟩;have im:=Zo l (zi2 r);show(ZN (zc 0) (zf 2) [.val (.int i),_,.val (.lst ((zi2 r).map λj=>D.int ((l j:Nat):Int)))]).bind asB=_;show((VT ((zi2 r).map λj=>D.int ((l j:Nat):Int))).map λl=>D.bl (!decide ((i:Int)∈l))).bind asB=_;rw [im];rfl
  have es:=kh (n:=wd (k+1)) Y;refine jK (zA (γ':=[.val (.int p),.val (qf w wd T k),.no]) ?_ (zA (γ':=[.val (.int p),.val (qf w wd T k),.val (.lst ((zi2 r).map λj=>D.int ((l j:Nat):Int)))]) ?_ ?_))
  ·simp [nw1,zP,zi5,xA,hw,U]
  ·simp [nw2,jd,xA,e1,O,e,a6,e4]
  ·have a1:je (jI (hiW w wd k) (wiW w wd k) (T k))=some (.T,[.int (wd (k+1):Nat),.int (wd k:Nat),.tup (zN (wd (k+1)) (wd k) (T k))]):=by rw [e1,O];rfl
   have a2:je (jI (wd (k+1)) (wd (k+1)) λi j=>if i=j then 1 else 0)=some (.T,[.int (wd (k+1):Nat),.int (wd (k+1):Nat),.tup (zN (wd (k+1)) (wd (k+1)) λi j=>if i=j then 1 else 0)]):=rfl;have a3:=V6 (wd (k+1));simp [nw3,jd,xA,a1,es,a2,a3,Y];rw [e5];exact congrArg some (congrArg (List.map _) (List.filter_congr λc _=>by simp))
end
section
variable{wd:Nat->Nat}{m k r N:Nat}{p:Int}{w:Nat->Bool}{T:Nat->Nat->Nat->Int}{B:Nat->Vc}{l:Nat->Nat}{A:Nat->Bar}
theorem zca(I:IsB p N r B l){j:Nat}(z:j<r):ldx r l (l j)=some j:=by
 cases h:ldx r l (l j)with
 | none=>exact absurd rfl (vx h j z)
 | some i=>
  obtain⟨h1,h2⟩:=qt h;rw [XU I.mono h1 z h2]
theorem QR{a b:List Nat}(ha:a.Nodup)(z:b.Nodup)(h : ∀x,x∈a↔x∈b):a.length=b.length:=((List.perm_ext_iff_of_nodup ha z).mpr h).length_eq
theorem Jb(z:IsB p N r B l):(zi2 N).countP (λi=>(ldx r l i).isSome)=r:=by
 rw [zjO];have e:((zi2 N).filter λi=>(ldx r l i).isSome).length=((zi2 r).map l).length:=by
  refine QR (zma.sublist zmx) ?_ λx=>?_
  ·rw [List.nodup_iff_pairwise_ne,zlq]
   refine zlA (λ{a b} ha I h=>?_) (zlp (n:=r));have:=z.mono a b h (zi6.mp I);omega
  ·rw [zjz,zjx]
   constructor
   ·rintro⟨h1,h2⟩
    obtain⟨j,O⟩:=zke.mp h2;obtain⟨S,U⟩:=qt O;exact⟨j,zi6.mpr S,U⟩
   ·rintro⟨j,h1,h2⟩
    have h1:=zi6.mp h1;subst h2;exact⟨zi6.mpr (z.lt j h1),by rw [zca z h1];rfl⟩
 rw [e];simp
theorem Wh(q:Nat->Bool)(N:Nat):(zi2 N).countP q+(zi2 N).countP (λi=> !q i)=N:=by
 have:=zmL q (l:=zi2 N);rw [zkU]at this;rw [this];congr 1
 ·rw [<- this]
 ·rw [<- this]
  exact zko λi _=>by simp
theorem zhp(z : ∀j,j<N->(A j).has k=true)(t:Vc)(c:Nat):mxV p A N t k c%p=app (λi j=>(A j).v k i) N t c%p:=by
 unfold mxV app;rw [zjL];congr 1;exact zw λj I=>by rw [if_pos (z j I),zkY]
theorem yF(z : ∀j,j<N->(A j).has k=true){i j:Nat}(h:ldx r l i=some j)(c:Nat):(stB p A N r B l i).v k c%p=app (λi j=>(A j).v k i) N (B j) c%p:=by
 unfold stB;rw [h];exact zhp z (B j) c
theorem ZL{i:Nat}(h:ldx r l i=none):stB p A N r B l i=A i:=by unfold stB;rw [h]
theorem Yd(hp:Pr p)(a2 : ∀k,wd k<=8)(hk : ∀j,j<wd k->(A j).has k=true)(hs : ∀v:Vc,∃t,∀i,i<wd k->v i%p=app (λi j=>(A j).v k i) (wd k) t i%p)
 (Z:IsB p (wd k) r B l) (hW : ∀t,Span p (wd k) (Fam r B) t↔Spec p w wd T k (app (λi j=>(A j).v k i) (wd k) t)) {Y:List Vc} (hn:WK p w wd T k Y) {nx:Nat->Option Vc}
 (hr : ∀i,i<wd k->w k=false->(nx i=none->∀c,c<wd (k+1)->app (T k) (wd k) ((stB p A (wd k) r B l i).v k) c%p=0)/\∀y,nx i=some y->(∀c,c<wd (k+1)->app (T k) (wd k) ((stB p A (wd k) r B l i).v k) c%p=y c%p)/\∃c,c<wd (k+1)/\y c%p≠0)
 (hl : ∀i,i<wd k->w k=true->(nx i=none->¬∃y:Vc,∀c,c<wd k->app (T k) (wd (k+1)) y c%p=(stB p A (wd k) r B l i).v k c%p)/\∀y,nx i=some y->∀c,c<wd k->app (T k) (wd (k+1)) y c%p=(stB p A (wd k) r B l i).v k c%p) :
 (∀y,y∈Y->∀c,c<wd (k+1)->0<=y c/\y c<p)/\(∀y,y∈Y->w k=true->∀c,c<wd k->app (T k) (wd (k+1)) y c%p=0)/\
   (∀v,Span p (wd (k+1)) (λg=>(∃i,i<wd k/\nx i=some g)\/g∈Y) v)/\(zi2 (wd k)).countP (λi=>(nx i).isSome)+Y.length=wd (k+1):=by
 have two:=hp.two;cases hw:w k with
 | false=>
  have a7 : ∀t,Span p (wd k) (Fam r B) t↔Ker p (wd (k+1)) (wd k) (T k) (app (λi j=>(A j).v k i) (wd k) t):=λt=>by
   have:=hW t;unfold Spec at this;rw [hw,if_neg ⋯]at this;exact this
  unfold WK at hn;rw [hw,if_neg ⋯]at hn;obtain⟨r2,B2,l2,ae,hI,S⟩:=hn;obtain⟨g1,g2,g3,g4⟩:=zeD hp (a2 k) (a2 (k+1)) hs Z a7 ae hI;have aj : ∀c,c<wd (k+1)->(∀j,j<r2->l2 j≠c)->jH c∈Y:=λc O hn=>by
   rw [S];refine zjx.mpr ⟨c,zjz.mpr ⟨zi6.mpr O,?_⟩,rfl⟩;simp only [zkW,decide_eq_false_iff_not,zjx,zi6];rintro⟨j,h1,h2⟩;exact hn j h1 ⋯
  have on : ∀i,i<wd k->(nx i).isSome=(ldx r l i).isNone:=λi hi=>by
   cases hx:ldx r l i with
   | none=>
    obtain⟨c,h1,h2⟩:=g2 i hi (vx hx);cases I:nx i with
    | some y=>rfl
    | none=>
     have:=(hr i hi hw).1 I c h1;rw [ZL hx]at this;exact absurd this h2
   | some j=>
    obtain⟨h1,h2⟩:=qt hx;cases I:nx i with
    | none=>rfl
    | some y=>
     obtain⟨e,c,h3,h4⟩:=(hr i hi hw).2 y I;have z:=g1 j h1 c h3;rw [<- jT (λa _=>yF (B:=B) (r:=r) (l:=l) hk hx a) c,e c h3]at z;exact absurd z h4
  refine⟨λy I c O=>?_,(λy I z=>by cases z),λv=>g4 _ (λc O aa=>?_) (λc O aa=> .gen (.inr (aj c O aa))) v,?_⟩
  ·rw [S]at I
   obtain⟨i,_,rfl⟩:=zjx.mp I;unfold jH;split<;>omega
  ·have hx:ldx r l c=none:=by
    cases hx:ldx r l c with
    | none=>rfl
    | some j=>exact absurd (qt hx).2 (aa j (qt hx).1)
   have a1:=on c O;rw [hx]at a1;obtain⟨y,I⟩:=zke.mp a1;refine(Span.gen (.inl ⟨c,O,I⟩)).congr λi hi=>?_;have:=((hr c O hw).2 y I).1 i hi;rw [ZL hx]at this;exact this
  ·have e1:(zi2 (wd k)).countP (λi=>(nx i).isSome)=(zi2 (wd k)).countP λi=> !(ldx r l i).isSome:=zko λi hi=>by
    rw [on i (zi6.mp hi)];cases ldx r l i<;>simp
   have e2:=Wh (λi=>(ldx r l i).isSome) (wd k);rw [Jb Z]at e2;have e3:=Wh (λi=>(ldx r2 l2 i).isSome) (wd (k+1));rw [Jb ae]at e3;have e4:Y.length=(zi2 (wd (k+1))).countP λi=> !(ldx r2 l2 i).isSome:=by
    rw [S,zjh,<- zjO];refine zko λi hi=>?_;cases hx:ldx r2 l2 i with
    | none=>
     have:=vx hx;simp only [zkW,decide_eq_false_iff_not,zjx,zi6];constructor
     ·intro _;rfl
     ·rintro _ ⟨j,h1,h2⟩
      exact this j h1 ⋯
    | some j=>
     obtain⟨h1,h2⟩:=qt hx;simp only [zkW,decide_eq_false_iff_not,zjx,zi6];constructor
     ·intro z;exact absurd ⟨j,h1,by rw [h2]⟩ z
     ·intro z;cases z
   rw [e1,e4];omega
 | true=>
  have a7 : ∀t,Span p (wd k) (Fam r B) t↔Span p (wd k) (Fam (wd (k+1)) λj i=>T k i j) (app (λi j=>(A j).v k i) (wd k) t):=λt=>by
   have:=hW t;unfold Spec at this;rw [hw,if_pos rfl]at this;exact this
  unfold WK at hn;rw [hw,if_pos rfl]at hn;obtain⟨q,K,lK,s,S,ao,ag,ap,aq⟩:=hn;obtain⟨g1,g2,g3,g4⟩:=zeE hp (a2 k) (a2 (k+1)) hs Z a7 ag ap aq;have on : ∀i,i<wd k->(nx i).isSome=(ldx r l i).isSome:=λi hi=>by
   cases hx:ldx r l i with
   | none=>
    cases I:nx i with
    | none=>rfl
    | some y=>
     have:=(hl i hi hw).2 y I;rw [ZL hx]at this;exact absurd ⟨y,this⟩ (g2 i hi (vx hx))
   | some j=>
    obtain⟨h1,h2⟩:=qt hx;cases I:nx i with
    | some y=>rfl
    | none=>
     obtain⟨y,ar⟩:=g1 j h1;exact absurd ⟨y,λc O=>by rw [ar c O,yF hk hx c]⟩ ((hl i hi hw).1 I)
  refine⟨λy I c O=>?_,λy I _ c O=>?_,λv=>g4 _ (λj=>(nx (l j)).getD λ_=>0) (λj U=>?_) (λj U=>?_) v,?_⟩
  ·rw [S]at I
   obtain⟨j,U,rfl⟩:=zjx.mp I;exact ao.rng j c (zi6.mp U) O
  ·rw [S]at I
   obtain⟨j,U,rfl⟩:=zjx.mp I;exact(ag (K j)).mp (.gen ⟨j,zi6.mp U,rfl⟩) c O
  ·have hx:=zca Z U
   have ab:=Z.lt j U;have a1:=on (l j) ab;rw [hx]at a1;obtain⟨y,I⟩:=zke.mp a1;rw [I];refine⟨.gen (.inl ⟨l j,ab,I⟩),λc O=>?_⟩;have:=(hl (l j) ab hw).2 y I c O;rw [yF hk hx c]at this;exact this
  ·refine .gen (.inr ?_)
   rw [S];exact zjx.mpr ⟨j,zi6.mpr U,rfl⟩
  ·have e1:(zi2 (wd k)).countP (λi=>(nx i).isSome)=(zi2 (wd k)).countP λi=>(ldx r l i).isSome:=zko λi hi=>by
    rw [on i (zi6.mp hi)]
   rw [e1,Jb Z,S,zjh,zkU];omega
end
section
variable{wd:Nat->Nat}{m k:Nat}{p:Int}{w:Nat->Bool}{T:Nat->Nat->Nat->Int}
def gr1:CO Fl:=(zU 3 (sIx (zf 0) (zh (.int 0))))
def gr2:CO Fl:=(zU 4 (sIx (zC (sIx (zf 0) (zh (.int 2)))) (zc 1)))
def gr3:CO Fl:=(zU 5 (jp (zD (zG (zf 2)) (.nm 0) 1 [1] (qk (sB (zn ju (za (zc 0) (za (zc 1) zu))))) (zc 0))))
def gr4:CO Fl:=(zU 6 (jp (jg yz (za (zc 0) (za (zc 1) (za (jp (zD (zG (zf 2)) (.nm 0) 1 [1] (sB (zn ju (za (zc 0) (za (zc 1) zu)))) (zc 0))) zu))))))
def gr5:CO Fl:=(zU 7 (jp (zD (zG (zf 6)) (.nm 0) 1 [3,4] jb (zn xB (za (zc 1) (za (zc 2) (za (zc 0) zu)))))))
def gr6:CO Fl:=(zU 8 (jp (zD (zG (jy (jg xH (za (zc 3) (za (zc 4) zu))))) (.nm 0) 1 [1] jb (jx (za (zv jj (zc 1) (zh (.int 1))) (za (jx (za (zc 0) zu)) zu))))))
def gr7:CO Fl:=(j3 (jp (yj (zf 5) (zC (JG (sB (zv dEq (sIx (zf 4) (zh (.int 0))) (zh (.str "r")))) (jp (yj (zf 8) (zf 7))) (jp (yj (zf 7) (zf 8))))))))
theorem V0:wI=ja 9 (zI gr1 (zI gr2 (zI gr3 (zI gr4 (zI gr5 (zI gr6 gr7)))))):=rfl
theorem zhm(y:Vc):jR wd (nuB k y) = .tup [.int ((k:Int)+1),.tup [.tup (zz (wd (k+1)) y)]]:=by
 unfold jR nuB xi;simp
theorem za4(hp:Pr p)(O : ∀k,wd k<=8)(hm:m<=5)(aa:k<m)(hT : ∀i j,i<hiW w wd k->j<wiW w wd k->0<=T k i j/\T k i j<p){bars:List Bar}(I:BrInv p w wd T k bars)(ah:bars.length<=100) :
 ∃a4,BrInv p w wd T (k+1) a4/\a4.length<=bars.length+8/\wI [zT p m w wd T,.int k,.lst (bars.map (jR wd))]=some (.val (.lst (a4.map (jR wd)))):=by
 have hl:=z9;have p0:=hp.pos;have ac:bars.length<=lim:=by omega
 have a5:(bars.filter λb=>b.has k).length=wd k:=by rw [<- zjO];exact I.ct k (zjb _)
 let A:Nat->Bar:=λj=>(bars.filter λb=>b.has k).getD j WP;have eA:(bars.filter λb=>b.has k)=(zi2 (wd k)).map A:=by
  rw [<- a5];exact(j4 WP _).symm
 have mA : ∀j,j<wd k->A j∈bars/\(A j).has k=true:=λj S=>by
  have:A j∈bars.filter λb=>b.has k:=by
   show(bars.filter λb=>b.has k).getD j WP∈_;rw [zjd,zi8 ⋯];exact zkN _
  have:=zjz.mp this;exact⟨this.1,by simpa using this.2⟩
 have a6 : ∀j,j<wd k->BarOk p w wd T k (A j):=λj S=>I.ok _ (mA j S).1;have hO : ∀i c,i<c->c<wd k->Ord w (A i) (A c):=λi c h1 h2=>by
  have:=zkP.mp I.od i c ⋯ ⋯ h1;show Ord w ((bars.filter λb=>b.has k).getD i WP) ((bars.filter λb=>b.has k).getD c WP);rw [zjd,zi8 ⋯,zjd,zi8 ⋯];exact this
 have a3 : ∀j,j<wd k->(A j).has k=true:=λj S=>(mA j S).2;obtain⟨r,B,l,hB,hW,eS⟩:=KG (T:=T) (w:=w) (A:=A) (N:=wd k) (k:=k) hp (λj S=>by have:=(a6 j S).le;omega) a3 aa (O k) hm O λj rm i S hh hi=>(a6 j S).rng rm i hh hi;have okS : ∀i,i<wd k->BarOk p w wd T k (stB p A (wd k) r B l i):=λi hi=>zbF p0 hB a6 a3 hO hi;have ae : ∀i,i<wd k->(stB p A (wd k) r B l i).has k=true:=λi hi=>by rw [Qt];exact a3 i hi
 have ex : ∀i,∃o:Option Vc,i<wd k->(qs [.int p,qf w wd T k,.tup (zz (wd k) ((stB p A (wd k) r B l i).v k))]=some (.val (oD (wd (k+1)) o))/\(∀y,o=some y->∀c,c<wd (k+1)->0<=y c/\y c<p)/\
  (w k=false->(o=none->∀c,c<wd (k+1)->app (T k) (wd k) ((stB p A (wd k) r B l i).v k) c%p=0)/\∀y,o=some y->(∀c,c<wd (k+1)->app (T k) (wd k) ((stB p A (wd k) r B l i).v k) c%p=y c%p)/\∃c,c<wd (k+1)/\y c%p≠0)/\
  (w k=true->(o=none->¬∃y:Vc,∀c,c<wd k->app (T k) (wd (k+1)) y c%p=(stB p A (wd k) r B l i).v k c%p)/\∀y,o=some y->∀c,c<wd k->app (T k) (wd (k+1)) y c%p=(stB p A (wd k) r B l i).v k c%p)):=λi=>by
  by_cases hi:i<wd k
  ·obtain⟨o,h⟩:=JT (T:=T) (w:=w) (k:=k) hp O hT ((stB p A (wd k) r B l i).v k) λc hc=>(okS i hi).rng k c (ae i hi) hc
   exact⟨o,λ_=>h⟩
  ·exact⟨none,λz=>absurd z hi⟩
 obtain⟨nx,Y⟩:=Classical.axiomOfChoice ex;obtain⟨U,hN,eN⟩:=JV (T:=T) (w:=w) (k:=k) hp O;have hs : ∀v:Vc,∃t,∀i,i<wd k->v i%p=app (λi j=>(A j).v k i) (wd k) t i%p:=λv=>by
  have hv:Span p (wd k) (Fam (wd k) λj=>(A j).v k) v:=(I.sp k (zjb _) v).le λg hg=>by
   obtain⟨b,h1,h2,rfl⟩:=hg;have af:b∈bars.filter λb=>b.has k:=zjz.mpr ⟨h1,by simpa using h2⟩;rw [eA]at af;obtain⟨j,S,rfl⟩:=zjx.mp af;exact .gen ⟨j,zi6.mp S,rfl⟩
  obtain⟨t,ht⟩:=xP hv;exact⟨t,λi hi=>by rw [ht i hi];unfold app;rw [qN]⟩
 obtain⟨f1,f2,f3,f4⟩:=Yd (T:=T) (w:=w) (A:=A) hp O a3 hs hB hW hN (nx:=nx) (λi hi=>(Y i hi).2.2.1) λi hi=>(Y i hi).2.2.2;refine⟨kY p k w bars A (wd k) r B l nx U,VZ p0 I a5 (λ_=>rfl) hB (λi y hi e=>(Y i hi).2.1 y e) f1 (λi hi e hw=>((Y i hi).2.2.1 hw).1 e) (λi y hi e hw=>(((Y i hi).2.2.1 hw).2 y e).1) (λi y hi e hw=>((Y i hi).2.2.2 hw).2 y e) f2 f3 f4,?_,?_⟩
 ·have h1:(bars.filter λb=> !b.has k).length+wd k=bars.length:=by
   have:=zmL (λb:Bar=>b.has k) (l:=bars);rw [<- a5,<- zjO,<- zjO,this];have e:bars.countP (λb=> !b.has k)=bars.countP λb=>decide (¬b.has k=true):=zko λb _=>by simp
   rw [e];omega
  have h2:=O (k+1);unfold kY;rw [zjY];cases w k<;>simp<;>omega
 ·
  let L:D:= .lst (bars.map (jR wd));have e3:zL (.nm 0) (qk (sB (zn ju (za (zc 0) (za (zc 1) zu))))) (zc 0) [.no,.val (.int k)] (bars.map (jR wd))=some ((bars.filter λb=> !b.has k).map (jR wd)):=by
   refine ji (g:=jR wd) (λb=> !b.has k) (jR wd) bars λb hb=>⟨[.val (jR wd b),.val (.int k)],rfl,?_,λ_=>by rfl⟩;have e:=xG (wd:=wd) (b:=b) (by have:=(I.ok b hb).le;omega) k;simp [e]
  have e4:zL (.nm 0) (sB (zn ju (za (zc 0) (za (zc 1) zu)))) (zc 0) [.no,.val (.int k)] (bars.map (jR wd))=some ((zi2 (wd k)).map λj=>jR wd (A j)):=by
   have:((bars.filter λb=>b.has k).map (jR wd))=(zi2 (wd k)).map λj=>jR wd (A j):=by rw [eA,zjW];rfl
   rw [<- this];refine ji (g:=jR wd) (λb=>b.has k) (jR wd) bars λb hb=>⟨[.val (jR wd b),.val (.int k)],rfl,?_,λ_=>by rfl⟩;have e:=xG (wd:=wd) (b:=b) (by have:=(I.ok b hb).le;omega) k;simp [e]
  have e5:zL (.nm 0) jb (zn xB (za (zc 1) (za (zc 2) (za (zc 0) zu)))) [.no,.val (.int p),.val (qf w wd T k)] ((zi2 (wd k)).map λi=>jR wd (stB p A (wd k) r B l i))=some ((zi2 (wd k)).map λi=>jR wd (exB k (stB p A (wd k) r B l i) (nx i))):=by
   refine zo _ _ λi hi=>zq rfl rfl ?_;have hi:=zi6.mp hi;have h1:=has_iff.mp (ae i hi);have e:=W3 (p:=p) (okS i hi).n1 (by have:=(okS i hi).le;omega) (show k<=20 by omega) (Y i hi).1;simp [e]
  have e6:zL (.nm 0) jb (jx (za (zv jj (zc 1) (zh (.int 1))) (za (jx (za (zc 0) zu)) zu))) [.no,.val (.int k)] (U.map λy=>D.tup (zz (wd (k+1)) y))=some ((U.map (nuB k)).map (jR wd)):=by
   rw [zjW];refine zo _ _ λy hy=>zq rfl rfl ?_;show _=some (jR wd (nuB k y));rw [zhm];rfl
  have ba:U.length<=lim:=by have:=O (k+1);omega
  have bb:wd k<=lim:=by have:=O k;omega
  let Z:D:= .lst ((bars.filter λb=> !b.has k).map (jR wd));let Se:D:= .lst ((zi2 (wd k)).map λi=>jR wd (stB p A (wd k) r B l i));let Ol:D:= .lst ((zi2 (wd k)).map λi=>jR wd (exB k (stB p A (wd k) r B l i) (nx i)));let Ne:D:= .lst ((U.map (nuB k)).map (jR wd));rw [V0];refine jK (zA (γ':=[.val (zT p m w wd T),.val (.int k),.val L,.val (.int p),.no,.no,.no,.no,.no]) ?_
   (zA (γ':=[.val (zT p m w wd T),.val (.int k),.val L,.val (.int p),.val (qf w wd T k),.no,.no,.no,.no]) ?_
   (zA (γ':=[.val (zT p m w wd T),.val (.int k),.val L,.val (.int p),.val (qf w wd T k),.val Z,.no,.no,.no]) ?_
   (zA (γ':=[.val (zT p m w wd T),.val (.int k),.val L,.val (.int p),.val (qf w wd T k),.val Z,.val Se,.no,.no]) ?_
   (zA (γ':=[.val (zT p m w wd T),.val (.int k),.val L,.val (.int p),.val (qf w wd T k),.val Z,.val Se,.val Ol,.no]) ?_
   (zA (γ':=[.val (zT p m w wd T),.val (.int k),.val L,.val (.int p),.val (qf w wd T k),.val Z,.val Se,.val Ol,.val Ne]) ?_ ?_))))))
  ·simp [gr1,zP,zi5,xu,L]
  ·simp [gr2,xu,wz,aa]
  ·simp [gr3,jd,L,ac,e3,Z]
  ·simp [gr4,jd,L,ac,e4,eS,Se]
  ·simp [gr5,jd,Se,bb,e5,Ol]
  ·simp [gr6,jd,eN,ba]
   rw [e6];simp [Ne]
  ·have be:(bars.filter λb=> !b.has k).length<=100:=zj9 (List.length_filter_le _ _) ah
   have q1:=O k;have q2:=O (k+1);cases hw:w k with
   | false=>
    have eq:=Z7 false;have h1:U.length+wd k<=lim:=by omega
    have h2:(bars.filter λb=> !b.has k).length+(U.length+wd k)<=lim:=by omega
    simp [gr7,xA,hw,eq,Z,Ol,Ne,kY,h1,h2]
   | true=>
    have eq:=Z7 true;have h1:wd k+U.length<=lim:=by omega
    have h2:(bars.filter λb=> !b.has k).length+(wd k+U.length)<=lim:=by omega
    simp [gr7,xA,hw,eq,Z,Ol,Ne,kY,h1,h2]
end
section
variable{wd:Nat->Nat}{m k:Nat}{p:Int}{w:Nat->Bool}{T:Nat->Nat->Nat->Int}
def WR(c:Nat):Bar:=⟨0,1,λ_=>jH c⟩
theorem zdB(U:Pr p):BrInv p w wd T 0 ((zi2 (wd 0)).map WR):=by
 have two:=U.two;have mem : ∀b,b∈(zi2 (wd 0)).map WR ↔ ∃c,c<wd 0/\b=WR c:=λb=>by
  rw [zjx];exact⟨λ⟨c,h1,h2⟩=>⟨c,zi6.mp h1,h2.symm⟩,λ⟨c,h1,h2⟩=>⟨c,zi6.mpr h1,h2.symm⟩⟩
 have S : ∀c,(WR c).has 0=true:=λc=>has_iff.mpr ⟨zjb _,by show 0<0+1;omega⟩;refine⟨λb I=>?_,λr Y v=>?_,λr Y=>?_,?_⟩
 ·obtain⟨c,O,rfl⟩:=(mem b).mp I
  exact⟨zjb _,by show 0+1<=0+1;omega,λr i _ _=>by show 0<=jH c i/\jH c i<p;unfold jH;split<;>omega,λj hj=>by omega⟩
 ·have:r=0:=by omega
  subst this;refine(J6 (wd 0) v).le λg Z=>?_;obtain⟨c,O,rfl⟩:=Z;exact .gen ⟨WR c,(mem _).mpr ⟨c,O,rfl⟩,S c,rfl⟩
 ·have:r=0:=by omega
  subst this;rw [List.countP_eq_length.mpr λb I=>?_]
  ·simp
  ·obtain⟨c,O,rfl⟩:=(mem b).mp I
   exact S c
 ·refine zl1 _ ?_
  rw [zlq];exact zkP.mpr λ_ _ _ _ _=>⟨λz=>absurd z (zjP 0),λz=>absurd z (zjP 0)⟩
def ag1:CO Fl:=(zU 1 (jp (zD (zG (zC (sIx (zC (zn F_same_table (za (sIx (zC (sIx (zf 0) (zh (.int 1)))) (zh (.int 0))) zu))) (zh (.int 2))))) (.nm 0) 1 [] jb (jx (za (zh (.int 0)) (za (jx (za (zc 0) zu)) zu))))))
def ag2:CO Fl:=(yX (zX (ya (zC (sIx (zf 0) (zh (.int 2)))))) (.nm 2) (zU 1 (zn wI (za (zc 0) (za (zc 2) (za (zc 1) zu))))))
def ag3:CO Fl:=(xD (YZ jU (zf 1)))
theorem Jl:wJ=ja 3 (zI ag1 (zI ag2 ag3)):=rfl
def zhs(b:Bar):Int×Int:=((b.s:Int),((b.s+b.n - 1:Nat):Int))
theorem VH : ∀bars:List Bar,(∀b,b∈bars->1<=b.n/\b.s+b.n<=100)->VJ jU (bars.map (jR wd))=some (bars.map zhs)
 | [],_=>rfl
 | b::bars,h=>by
  have h1:=h b zju;have e:=KA (wd:=wd) h1.1 h1.2;have z:=VH bars λb I=>h b (zjk _ I);simp only [zjw,VJ,e,z,zi7];rfl
def Qu(bars:List Bar):List Bar:=(QK (bars.map zhs)).map λi=>bars.getD i WP
theorem Qp(z:Pr p)(O : ∀k,wd k<=8)(hm:m<=5)(hT : ∀k i j,k<m->i<hiW w wd k->j<wiW w wd k->0<=T k i j/\T k i j<p) :
 ∃bars,BrInv p w wd T m bars/\bars.length<=48/\wJ [zT p m w wd T]=some (.own ((Qu bars).map (jR wd))):=by
 have hl:=z9;have h0:=O 0;have S:wd 0<=lim:=by omega
 have es:=kh (n:=wd 0) S;have a2:je (jI (wd 0) (wd 0) λi j=>if i=j then 1 else 0)=some (.T,[.int (wd 0:Nat),.int (wd 0:Nat),.tup (zN (wd 0) (wd 0) λi j=>if i=j then 1 else 0)]):=rfl;have e1:zL (.nm 0) jb (jx (za (zh (.int 0)) (za (jx (za (zc 0) zu)) zu))) [.no] (zN (wd 0) (wd 0) λi j=>if i=j then 1 else 0)=some (((zi2 (wd 0)).map WR).map (jR wd)):=by
  rw [zjW];unfold zN;refine zo _ _ λi hi=>zq rfl rfl ?_;show some _=some (jR wd (WR i));unfold jR WR xi;simp;rfl
 have x1:ag1 (zP 3 [zT p m w wd T])=some (.next [.val (zT p m w wd T),.val (.lst (((zi2 (wd 0)).map WR).map (jR wd))),.no]):=by
  simp [ag1,zP,zi5,xu,es,a2,jd,S];rw [e1];simp
 obtain⟨γ',x2,bars,c,I,a4,rfl⟩:=K5 (T:= .nm 2) (F:=zU 1 (zn wI (za (zc 0) (za (zc 2) (za (zc 1) zu))))) (f:=ya (zC (sIx (zf 0) (zh (.int 2)))))
  (λj γ=>∃bars c,BrInv p w wd T j bars/\bars.length<=8*(j+1)/\γ=[.val (zT p m w wd T),.val (.lst (bars.map (jR wd))),c]) m ⋯ (γ:=[.val (zT p m w wd T),.val (.lst (((zi2 (wd 0)).map WR).map (jR wd))),.no])
  (by simp [xu]) ⟨_,_,zdB z,by simp;omega,rfl⟩ λs U γ hγ=>by
    obtain⟨bars,c,I,a4,rfl⟩:=hγ;obtain⟨Y,I',h',e⟩:=za4 (T:=T) (w:=w) (k:=s) z O hm U (hT s · · U) I ⋯;refine⟨_,[.val (zT p m w wd T),.val (.lst (Y.map (jR wd))),.val (.int s)],rfl,?_,Y,_,I',by omega,rfl⟩;simp [e]
 refine⟨bars,I,by omega,?_⟩;have ek:=VH (wd:=wd) bars λb Z=>⟨(I.ok b Z).n1,by have:=(I.ok b Z).le;omega⟩;rw [Jl];refine jK (zA x1 (zA (show ag2 _=_ from x2) ?_));have a8:bars.length<64:=by omega
 unfold ag3;have e3:YZ jU (zf 1) [.val (zT p m w wd T),.val (.lst (bars.map (jR wd))),c]=some ((Qu bars).map (jR wd)):=by
  show((VJ jU (bars.map (jR wd))).bind λps=>if (bars.map (jR wd)).length<64 then some ((QK ps).map λi=>(bars.map (jR wd)).getD i .non)else none)=_;rw [ek];simp only [zi7,zjh,a8,if_true];congr 1;unfold Qu;rw [zjW];refine zjg λi hi=>?_;have h:=KW (bars.map zhs);have hi:=zi6.mp (h.mem_iff.mp hi);rw [zjh]at hi;simp [hi]
 rw [WE,e3];rfl
end
abbrev TB:=Nat×Nat×(Nat->Nat->Int)
section
variable{wd:Nat->Nat}{m k N:Nat}{p:Int}{w:Nat->Bool}{T:Nat->Nat->Nat->Int}{A:Nat->Bar}
def ixs(A:Nat->Bar)(N r:Nat):List Nat:=(zi2 N).filter λj=>(A j).has r
def zdX(A:Nat->Bar)(N r:Nat):Nat->Nat->Int:=λi j=>(A ((ixs A N r).getD j 0)).v r i
end
section
variable{wd:Nat->Nat}{m k N:Nat}{p:Int}{w:Nat->Bool}{T:Nat->Nat->Nat->Int}{A:Nat->Bar}{g:Nat->Nat->Nat->Int}
theorem VP(A N r):(ixs A N r).Nodup:=zma.sublist zmx
end
structure Decp(p:Int)(w:Nat->Bool)(wd:Nat->Nat)(T:Nat->Nat->Nat->Int)(m N:Nat)(A:Nat->Bar):Prop where
 ok : ∀j,j<N->BarOk p w wd T m (A j)
 sp : ∀r,r<=m->∀v:Vc,∃t:Vc,∀i,i<wd r->v i%p=sumTo (λj=>if (A j).has r=true then t j*(A j).v r i else 0) N%p
 inj : ∀r,r<=m->∀t:Vc,(∀i,i<wd r->sumTo (λj=>if (A j).has r=true then t j*(A j).v r i else 0) N%p=0)->∀j,j<N->(A j).has r=true->t j%p=0
 cnt : ∀r,r<=m->(ixs A N r).length=wd r
def Lk(p:Int)(w:Nat->Bool)(wd:Nat->Nat)(T:Nat->Nat->Nat->Int)(k:Nat)(y z:Vc):Prop:=
 if w k=true then ∀i,i<wd k->y i%p=app (T k) (wd (k+1)) z i%p else ∀i,i<wd (k+1)->z i%p=app (T k) (wd k) y i%p
def Wk(p:Int)(w:Nat->Bool)(wd:Nat->Nat)(T:Nat->Nat->Nat->Int)(d:Nat):Nat->Vc->Vc->Prop
 | 0,u,z=>∀i,i<wd d->u i%p=z i%p
 | n+1,u,z=>∃y,Wk p w wd T d n u y/\Lk p w wd T (d+n) y z
section
variable{p:Int}{w:Nat->Bool}{wd:Nat->Nat}{T:Nat->Nat->Nat->Int}{m N N':Nat}{A A':Nat->Bar}{d:Nat}
theorem QO{a b z I c:Int}(h1:a%p=b%p)(h2:z%p=I%p):(a+c*z)%p=(b+c*I)%p:=by
 rw [zjD,h1,zjf,h2,<- zjf,<- zjD]
theorem zgg{k:Nat}{y z I O:Vc}(c:Int)(h:Lk p w wd T k y z)(h':Lk p w wd T k I O):Lk p w wd T k (λi=>y i+c*I i) λi=>z i+c*O i:=by
 unfold Lk at *;split
 ·next hw=>
  rw [if_pos hw]at h h';intro i hi;rw [QO (h i hi) (h' i hi)];exact(wB (λ_ _=>rfl) i).symm
 ·next hw=>
  rw [if_neg hw]at h h';intro i hi;rw [QO (h i hi) (h' i hi)];exact(wB (λ_ _=>rfl) i).symm
theorem zcn : ∀(n:Nat) {u z u' I:Vc} (c:Int),Wk p w wd T d n u z->Wk p w wd T d n u' I->Wk p w wd T d n (λi=>u i+c*u' i) λi=>z i+c*I i
 | 0,u,z,u',I,c,h,h'=>λi hi=>QO (h i hi) (h' i hi)
 | n+1,u,z,u',I,c,⟨y,h1,h2⟩,⟨y',h1',h2'⟩=>⟨_,zcn n c h1 h1',zgg c h2 h2'⟩
theorem WL(k:Nat):Lk p w wd T k (λ_=>0) λ_=>0:=by
 unfold Lk;split<;>exact λi _=>by rw [vG (λ_ _=>by simp) i];simp
theorem Xk : ∀n,Wk p w wd T d n (λ_=>0) λ_=>0
 | 0=>λ_ _=>rfl
 | n+1=>⟨_,Xk n,WL _⟩
theorem zbt{k:Nat}{y z I:Vc}(h:Lk p w wd T k y z)(O : ∀i,i<wd (k+1)->I i%p=z i%p):Lk p w wd T k y I:=by
 unfold Lk at *;split
 ·next hw=>rw [if_pos hw]at h;intro i hi;rw [h i hi];exact(jT O i).symm
 ·next hw=>rw [if_neg hw]at h;intro i hi;rw [O i hi,h i hi]
theorem zd6 : ∀{n:Nat} {u z I:Vc},Wk p w wd T d n u z->(∀i,i<wd (d+n)->I i%p=z i%p)->Wk p w wd T d n u I
 | 0,u,z,I,h,hz=>λi hi=>by rw [h i hi,hz i hi]
 | n+1,u,z,I,⟨y,h1,h2⟩,hz=>⟨y,h1,zbt h2 hz⟩
theorem Qq : ∀{n:Nat} {u u' z:Vc},Wk p w wd T d n u z->(∀i,i<wd d->u' i%p=u i%p)->Wk p w wd T d n u' z
 | 0,u,u',z,h,hu=>λi hi=>by rw [hu i hi,h i hi]
 | n+1,u,u',z,⟨y,h1,h2⟩,hu=>⟨y,Qq h1 hu,h2⟩
theorem zcm{n:Nat}(t:Vc)(u z:Nat->Vc) : ∀K,(∀j,j<K->Wk p w wd T d n (u j) (z j))->Wk p w wd T d n (λi=>sumTo (λj=>t j*u j i) K) λi=>sumTo (λj=>t j*z j i) K
 | 0,_=>Xk n
 | K+1,h=>zcn n (t K) (zcm t u z K λj I=>h j ⋯) (h K ⋯)
theorem zbo{b:Bar}(O:BarOk p w wd T m b){k:Nat}(S:k<m)(h1:b.has k=true)(h2:b.has (k+1)=true):Lk p w wd T k (b.v k) (b.v (k+1)):=by
 unfold Lk;cases hw:w k with
 | true=>
  have z:begR w k=k+1:=by unfold begR;rw [hw];rfl
  have I:endR w k=k:=by unfold endR;rw [hw];rfl
  rw [if_pos rfl];intro i hi;have:=O.arr k S (by rw [z];exact h2) i (by rw [I];exact hi);rw [z,I,h1,if_pos rfl]at this;exact this.symm
 | false=>
  have z:begR w k=k:=by unfold begR;rw [hw];rfl
  have I:endR w k=k+1:=by unfold endR;rw [hw];rfl
  rw [if_neg ⋯];intro i hi;have:=O.arr k S (by rw [z];exact h1) i (by rw [I];exact hi);rw [z,I,h2,if_pos rfl]at this;exact this.symm
theorem Jg{b:Bar}(z:BarOk p w wd T m b)(h1:b.has d=true) : ∀n,d+n<=m->b.has (d+n)=true->Wk p w wd T d n (b.v d) (b.v (d+n))
 | 0,_,_=>λ_ _=>rfl
 | n+1,hn,h2=>by
  have I:b.has (d+n)=true:=has_iff.mpr (by have:=has_iff.mp h1;have:=has_iff.mp h2;omega);exact⟨_,Jg z h1 n ⋯ I,zbo z ⋯ I h2⟩
theorem Wz{b:Bar}(I:BarOk p w wd T m b)(h1:b.has d=true)(hw:w (b.s+b.n - 1)=false) : ∀n,d+n<=m->b.has (d+n)=false->Wk p w wd T d n (b.v d) λ_=>0
 | 0,_,h2=>by rw [zmq,h1]at h2;cases h2
 | n+1,hn,h2=>by
  cases h3:b.has (d+n)with
  | false=>exact⟨_,Wz I h1 hw n ⋯ h3,WL _⟩
  | true=>
   refine⟨_,Jg I h1 n ⋯ h3,?_⟩;have Y:=has_iff.mp h3;have Z : ¬(d+n+1<b.s+b.n):=λz=>by
    have:b.has (d+(n+1))=true:=has_iff.mpr ⋯;rw [this]at h2;cases h2
   have O:b.s+b.n - 1=d+n:=by omega
   rw [O]at hw;have S:begR w (d+n)=d+n:=by unfold begR;rw [hw];rfl
   have U:endR w (d+n)=d+n+1:=by unfold endR;rw [hw];rfl
   have:=I.arr (d+n) ⋯;rw [S,U]at this;unfold Lk;rw [hw,if_neg ⋯];intro i hi;rw [this h3 i hi,show b.has (d+n+1)=false from h2];simp
theorem wY(D:Decp p w wd T m N A) : ∀n,d+n<=m->∀{u z:Vc},Wk p w wd T d n u z->∀{a b:Vc},(∀i,i<wd d->u i%p=sumTo (λj=>if (A j).has d=true then a j*(A j).v d i else 0) N%p)->(∀i,i<wd (d+n)->z i%p=sumTo (λj=>if (A j).has (d+n)=true then b j*(A j).v (d+n) i else 0) N%p)->
 ∀j,j<N->(A j).has d=true->((A j).has (d+n)=true->a j%p=b j%p)/\((A j).has (d+n)=false->w ((A j).s+(A j).n - 1)=true->a j%p=0):=by
 have a0 : ∀r,r<=m->∀{v:Vc} {a b:Vc},(∀i,i<wd r->v i%p=sumTo (λj=>if (A j).has r=true then a j*(A j).v r i else 0) N%p)->(∀i,i<wd r->v i%p=sumTo (λj=>if (A j).has r=true then b j*(A j).v r i else 0) N%p)->∀j,j<N->(A j).has r=true->a j%p=b j%p:=λr hr v a b h1 h2 j O S=>by
  have:=D.inj r hr (λj=>a j - b j) (λi hi=>by
   have e:sumTo (λj=>if (A j).has r=true then (a j - b j)*(A j).v r i else 0) N=sumTo (λj=>if (A j).has r=true then a j*(A j).v r i else 0) N+sumTo (λj=>(if (A j).has r=true then b j*(A j).v r i else 0)*(-1)) N:=by
    rw [<- jO];refine zw λj _=>?_;split
    ·rw [Int.sub_mul];omega
    ·simp
   rw [e,kr,zjD,<- h1 i hi,zjf,<- h2 i hi,<- zjf,<- zjD,show v i+v i * -1=0 by omega];simp) j O S
  exact zk9.mpr this
 have a5 : ∀k,k<m->∀(c:Vc) (r r':Nat),r=begR w k->r'=endR w k->∀i,i<wd r'->app (T k) (wd r) (mxV p A N c r) i%p=sumTo (λj=>if (A j).has r'=true then (if (A j).has r=true then c j else 0)*(A j).v r' i else 0) N%p:=λk hk c r r' e1 e2 i hi=>by
  rw [WC];refine z7 λj O=>?_;cases hx:(A j).has r with
  | false=>simp
  | true=>
   have q:=(D.ok j O).arr k hk (by rw [<- e1];exact hx) i (by rw [<- e2];exact hi);rw [<- e1,<- e2]at q;simp only [if_true];rw [zjf,q,<- zjf];cases hy:(A j).has r'<;>simp
 intro n
 induction n with
 | zero=>
  intro hn u z a1 a b ha Y j O S;refine⟨λ_=>a0 d ⋯ ha (λi hi=>by rw [a1 i hi];exact Y i hi) j O S,λh=>?_⟩;rw [zmq,S]at h;cases h
 | succ n ih=>
  intro hn u z a1 a b ha Y j O S;obtain⟨y,h1,h2⟩:=a1;obtain⟨c,hc⟩:=D.sp (d+n) ⋯ y;obtain⟨i1,i2⟩:=ih ⋯ h1 ha hc j O S;have aa : ∀i,i<wd (d+n)->y i%p=mxV p A N c (d+n) i%p:=λi hi=>by rw [hc i hi];unfold mxV;rw [zjL]
  have ab : ∀i,i<wd (d+n+1)->z i%p=mxV p A N b (d+n+1) i%p:=λi hi=>by rw [Y i hi];unfold mxV;rw [zjL];rfl
  have qd:=has_iff.mp S;cases hw:w (d+n)with
  | false=>
   have eb:begR w (d+n)=d+n:=by unfold begR;rw [hw];rfl
   have ee:endR w (d+n)=d+n+1:=by unfold endR;rw [hw];rfl
   unfold Lk at h2;rw [hw,if_neg ⋯]at h2;have Z:=a0 (d+n+1) ⋯ (v:=z) Y (b:=λj=>if (A j).has (d+n)=true then c j else 0) λi hi=>by
    rw [h2 i hi,jT aa i];exact a5 (d+n) ⋯ c (d+n) (d+n+1) eb.symm ee.symm i hi
   refine⟨λh=>?_,λh U=>?_⟩
   ·have I:(A j).has (d+n)=true:=has_iff.mpr (by have:=has_iff.mp h;omega)
    have:=Z j O h;rw [I,if_pos rfl]at this;rw [i1 I,this]
   ·cases I:(A j).has (d+n)with
    | false=>exact i2 I U
    | true=>
     have q3:=has_iff.mp I;have q2 : ¬(d+n+1<(A j).s+(A j).n):=λz=>by
      have:(A j).has (d+(n+1))=true:=has_iff.mpr ⋯;rw [this]at h;cases h
     rw [show(A j).s+(A j).n - 1=d+n by omega,hw]at U;cases U
  | true=>
   have eb:begR w (d+n)=d+n+1:=by unfold begR;rw [hw];rfl
   have ee:endR w (d+n)=d+n:=by unfold endR;rw [hw];rfl
   unfold Lk at h2;rw [hw,if_pos rfl]at h2;have Z:=a0 (d+n) ⋯ (v:=y) hc (b:=λj=>if (A j).has (d+n+1)=true then b j else 0) λi hi=>by
    rw [h2 i hi,jT ab i];exact a5 (d+n) ⋯ b (d+n+1) (d+n) eb.symm ee.symm i hi
   refine⟨λh=>?_,λh U=>?_⟩
   ·have I:(A j).has (d+n)=true:=has_iff.mpr (by have:=has_iff.mp h;omega)
    have:=Z j O I;rw [show(A j).has (d+n+1)=true from h,if_pos rfl]at this;rw [i1 I,this]
   ·cases I:(A j).has (d+n)with
    | false=>exact i2 I U
    | true=>
     have:=Z j O I;rw [show(A j).has (d+n+1)=false from h,if_neg ⋯]at this;rw [i1 I,this];simp
end
section
variable{p:Int}{n:Nat}
theorem zfS(I:Pr p){h N:Nat}(S:h<=20)(U:N<=8){f:Nat->Nat->Int}(inj : ∀t:Vc,(∀i,i<h->app f N t i%p=0)->∀j,j<N->t j%p=0):N<=h:=by
 obtain⟨q,K,l,s,_,O,Y,Z,a1⟩:=qX I S U f;have hq:q=0:=by
  rcases Nat.eq_zero_or_pos q with z | z
  ·exact z
  ·have h0:=O.lt 0 z
   have:=inj (K 0) (λi hi=>(Y (K 0)).mp (.gen ⟨0,z,rfl⟩) i hi) (l 0) h0;rw [O.one 0 z,I.one]at this;cases this
 obtain⟨B,l',a0,_⟩:=Z;have:=yG a0;omega
theorem vo{m:Nat}(W:Nat->Vc)(t:Vc):Span p n (Fam m W) λi=>sumTo (λj=>t j*W j i) m:=Span.sum (u:=W) t λj z=> .gen ⟨j,z,rfl⟩
theorem zfY(z:Pr p){s m:Nat}{B:Nat->Vc}{l:Nat->Nat}(I:IsB p n s B l){W:Nat->Vc}(hn:n<=20)(hm:m<=8)(sp : ∀v,Span p n (Fam s B) v↔Span p n (Fam m W) v)(O : ∀t:Vc,(∀i,i<n->sumTo (λj=>t j*W j i) m%p=0)->∀j,j<m->t j%p=0):m=s:=by
 have h1:s<=m:=by
  obtain⟨r,Z,S⟩:=KM z (n:=n) ⋯ hm W;have:=k6 z (m:=m) (W:=W) ⟨B,l,I,sp⟩ S;omega
 have hs:s<=n:=yG I;have h2:m<=s:=zfS z ⋯ hm (f:=λi j=>W j (l i)) λt U=>O t λi hi=>by
  have c:=vj I ((sp _).mpr (vo (n:=n) W t)) i hi;rw [c];have:sumTo (λk=>sumTo (λj=>t j*W j (l k)) m*B k i) s%p=sumTo (λ_=>0) s%p:=z7 λk Y=>by
   have:=U k Y;unfold app at this;rw [qN]at this;rw [zjf,this];simp
  rw [this,zF];simp
 omega
theorem zbc(hp:Pr p){s q c:Nat}{B B2 V:Nat->Vc}{l l2:Nat->Nat}(hX:IsB p n s B l)(S:IsB p n q B2 l2)(hn:n<=20)(hc:q+c<=8)(a5 : ∀j,j<c->Span p n (Fam s B) (V j))(KX : ∀v,Span p n (Fam q B2) v->Span p n (Fam s B) v)
 (spX : ∀v,Span p n (Fam s B) v->∃t:Vc,Span p n (Fam q B2) λi=>v i - sumTo (λj=>t j*V j i) c) (a7 : ∀t:Vc,Span p n (Fam q B2) (λi=>sumTo (λj=>t j*V j i) c)->∀j,j<c->t j%p=0):q+c=s:=by
 let W:Nat->Vc:=λj=>if j<q then B2 j else V (j - q);have w1 : ∀j,j<q->W j=B2 j:=λj I=>if_pos I;have w2 : ∀j,W (q+j)=V j:=λj=>by show(if q+j<q then _ else _)=_;rw [if_neg ⋯,zjs]
 have Z : ∀t:Vc,∀i,sumTo (λj=>t j*W j i) (q+c)=sumTo (λj=>t j*B2 j i) q+sumTo (λj=>t (q+j)*V j i) c:=λt i=>by
  rw [xq];congr 1
  ·exact zw λj I=>by rw [w1 j I]
  ·exact zw λj I=>by rw [w2 j]
 refine zfY hp hX hn hc (W:=W) (λv=>⟨λU=>?_,λU=>U.le λg Y=>?_⟩) λt ht=>?_
 ·obtain⟨t,h⟩:=spX v U
  have h1:Span p n (Fam (q+c) W) λi=>v i - sumTo (λj=>t j*V j i) c:=h.le λg Y=>by
   obtain⟨k,O,rfl⟩:=Y;rw [<- w1 k O];exact .gen ⟨k,by omega,rfl⟩
  have h2:Span p n (Fam (q+c) W) λi=>sumTo (λj=>t j*V j i) c:=Span.sum t λj I=>by rw [<- w2 j];exact .gen ⟨q+j,by omega,rfl⟩
  exact(h2.add h1 1).congr λi _=>by rw [Int.one_mul,Int.sub_add_cancel]
 ·obtain⟨k,O,rfl⟩:=Y
  rcases zjl k q with z | z
  ·rw [w1 k z];exact KX _ (.gen ⟨k,z,rfl⟩)
  ·obtain⟨j,rfl⟩ : ∃j,k=q+j:=⟨k - q,by omega⟩
   rw [w2 j];exact a5 j ⋯
 ·have hz : ∀j,j<c->t (q+j)%p=0:=a7 (λj=>t (q+j)) ((vo (n:=n) B2 λj=> -1*t j).congr λi hi=>by
   have:=ht i hi;rw [Z]at this;have e:sumTo (λj=> -1*t j*B2 j i) q=sumTo (λj=>t j*B2 j i) q * -1:=by
    rw [<- kr];exact zw λj _=>by rw [zkY (-1),zk7,zkY (-1),zk7]
   rw [e];refine zk9.mpr ?_;rw [<- this];congr 1;omega)
  intro j I;rcases zjl j q with z | z
  ·have h0 : ∀i,i<n->sumTo (λj=>t j*B2 j i) q%p=0:=λi hi=>by
    have:=ht i hi;rw [Z,zjD]at this;have e:sumTo (λj=>t (q+j)*V j i) c%p=sumTo (λ_=>0) c%p:=z7 λj I=>by rw [zjf,hz j I];simp
    rw [e,zF]at this;simpa using this
   have h1:=h0 (l2 j) (S.lt j z);rw [jm (f:=λk=>t k*B2 k (l2 j)) z λk O a8=>by rw [S.oth k j O z (zj6 a8)];simp]at h1;rw [S.one j z,Int.mul_one]at h1;exact h1
  ·obtain⟨k,rfl⟩ : ∃k,j=q+k:=⟨j - q,by omega⟩
   exact hz k ⋯
end
def cvL(A:Nat->Bar)(N d e:Nat):List Nat:=(zi2 N).filter λj=>(A j).has d && (A j).has e
section
variable{p:Int}{w:Nat->Bool}{wd:Nat->Nat}{T:Nat->Nat->Nat->Int}{m N n:Nat}{A:Nat->Bar}{d:Nat}
theorem We{d e k:Nat}(z:k<(cvL A N d e).length):(cvL A N d e).getD k 0<N/\(A ((cvL A N d e).getD k 0)).has d=true/\(A ((cvL A N d e).getD k 0)).has e=true:=by
 have hm:(cvL A N d e).getD k 0∈cvL A N d e:=by rw [zjd,zi8 z];exact zkN _
 obtain⟨h1,h2⟩:=zjz.mp hm;simp only [Bool.and_eq_true]at h2;exact⟨zi6.mp h1,h2.1,h2.2⟩
theorem zf0(D:Decp p w wd T m N A)(hd:d<=m)(e:Nat):(cvL A N d e).length<=wd d:=by
 rw [<- D.cnt d hd];unfold cvL ixs;rw [<- zjO,<- zjO];exact List.countP_mono_left λj _ h=>by simp only [Bool.and_eq_true]at h;exact h.1
theorem zbi(d e:Nat)(t:Vc) : ∃a:Vc,∀k,k<(cvL A N d e).length->a ((cvL A N d e).getD k 0)=t k:=by
 refine⟨λj=>t ((cvL A N d e).idxOf j),λk z=>?_⟩;have nd:(cvL A N d e).Nodup:=zma.sublist zmx;show t _=_;rw [zjd,zi8 z,zmO,nd.idxOf_getElem _ z]
theorem Wd(d e:Nat)(a:Vc)(i:Nat):sumTo (λk=>a ((cvL A N d e).getD k 0)*(A ((cvL A N d e).getD k 0)).v d i) (cvL A N d e).length=sumTo (λj=>if (A j).has d=true then (if (A j).has e=true then a j else 0)*(A j).v d i else 0) N:=by
 have:=ko (λj=>(A j).has d && (A j).has e) (λj=>a j*(A j).v d i) N;refine this.trans (zw λj _=>?_);cases (A j).has d<;>cases (A j).has e<;>simp
theorem kC(hp:Pr p)(D:Decp p w wd T m N A)(hd:d+n<=m)(hw:wd d<=4){s q:Nat}{B B2:Nat->Vc}{l l2:Nat->Nat}(hX:IsB p (wd d) s B l)(S : ∀u,Span p (wd d) (Fam s B) u ↔ ∃z,Wk p w wd T d n u z)
 (hK:IsB p (wd d) q B2 l2) (U : ∀u,Span p (wd d) (Fam q B2) u↔Wk p w wd T d n u λ_=>0):q+(cvL A N d (d+n)).length=s:=by
 have hc:=zf0 D (show d<=m by omega) (d+n);have hq:=yG hK;refine zbc hp hX hK ⋯ ⋯ (V:=λk=>(A ((cvL A N d (d+n)).getD k 0)).v d) (λk I=>?_) (λv Y=>(S v).mpr ⟨_,(U v).mp Y⟩) (λv Y=>?_) λt ht=>?_
 ·obtain⟨h1,h2,O⟩:=We I
  exact(S _).mpr ⟨_,Jg (D.ok _ h1) h2 n hd O⟩
 ·obtain⟨z,Z⟩:=(S v).mp Y
  obtain⟨a,ha⟩:=D.sp d ⋯ v;obtain⟨b,hb⟩:=D.sp (d+n) hd z;have kK:=wY D n hd Z ha hb;refine⟨λk=>a ((cvL A N d (d+n)).getD k 0),(U _).mpr ?_⟩;let u:Nat->Vc:=λj=>if (A j).has d=true/\(A j).has (d+n)=false/\w ((A j).s+(A j).n - 1)=false then (A j).v d else λ_=>0;have hu : ∀j,j<N->Wk p w wd T d n (u j) λ_=>0:=λj hj=>by
   show Wk p w wd T d n (if _ then _ else _) _;split
   ·next h=>exact Wz (D.ok j hj) h.1 h.2.2 n hd h.2.1
   ·exact Xk n
  have hs:=zcm a u (λ_ _=>0) N hu;refine zd6 (Qq hs λi hi=>?_) λi _=>by simp [zF]
  rw [Wd d (d+n) a i];rw [zkF,ha i hi,<- zkF];have e:sumTo (λj=>if (A j).has d=true then a j*(A j).v d i else 0) N - sumTo (λj=>if (A j).has d=true then (if (A j).has (d+n)=true then a j else 0)*(A j).v d i else 0) N=sumTo (λj=>(if (A j).has d=true then a j*(A j).v d i else 0)+(if (A j).has d=true then (if (A j).has (d+n)=true then a j else 0)*(A j).v d i else 0) * -1) N:=by
   rw [jO,kr];omega
  rw [e];refine z7 λj hj=>?_;show _=a j*(if _ then (A j).v d else λ_=>0) i%p;cases h1:(A j).has d with
  | false=>simp
  | true=>
   cases h2:(A j).has (d+n)with
   | true=>
    have e0:a j*(A j).v d i+a j*(A j).v d i * -1=0:=by omega
    simp only [if_true,e0,Bool.true_eq_false,false_and,and_false,if_false,zmZ]
   | false=>
    cases O:w ((A j).s+(A j).n - 1)with
    | false=>simp
    | true=>
     have:=(kK j hj h1).2 h2 O;simp only [if_true,zkB,if_false,Int.zero_mul,zmr,zmZ,Bool.true_eq_false,and_false];rw [zjf,this];simp
 ·obtain⟨a,ha⟩:=zbi (A:=A) (N:=N) d (d+n) t
  have Z:=(U _).mp ht;have kK:=wY D n hd Z (a:=λj=>if (A j).has (d+n)=true then a j else 0) (b:=λ_=>0) (λi hi=>by
   rw [<- Wd d (d+n) a i];congr 1;exact zw λk I=>by rw [ha k I]) (λi _=>by
   have:sumTo (λj=>if (A j).has (d+n)=true then 0*(A j).v (d+n) i else 0) N=sumTo (λ_=>0) N:=zw λj _=>by simp
   rw [this,zF])
  intro k I;obtain⟨h1,h2,O⟩:=We I;have:=(kK _ h1 h2).1 O;rw [O,if_pos rfl,ha k I]at this;simpa using this
theorem ZW : ∀(t:Nat) (z:Vc),Kq p w wd T d (wd d) t z↔Wk p w wd T d t z λx=>z (wd d+x)
 | 0,z=>Iff.rfl
 | t+1,z=>by
  have e : ∀u:Vc,Kq p w wd T d (wd d) t (jv (wd d) z u)↔Wk p w wd T d t z u:=λu=>by
   rw [ZW t];have e1:(λx=>jv (wd d) z u (wd d+x))=u:=funext λx=>zQ x;rw [e1];exact⟨λh=>Qq h λi hi=>by rw [zK hi],λh=>Qq h λi hi=>by rw [zK hi]⟩
  show(∃u:Vc,Kq p w wd T d (wd d) t (jv (wd d) z u)/\Stp p w wd T (d+t) u λx=>z (wd d+x)) ↔ ∃y,Wk p w wd T d t z y/\Lk p w wd T (d+t) y λx=>z (wd d+x);exact exists_congr λu=>and_congr (e u) Iff.rfl
end
section
variable{p:Int}{w:Nat->Bool}{wd:Nat->Nat}{T:Nat->Nat->Nat->Int}{m N:Nat}{A:Nat->Bar}
theorem zaX(r:Nat)(t:Vc) : ∃a:Vc,∀k,k<(ixs A N r).length->a ((ixs A N r).getD k 0)=t k:=by
 refine⟨λj=>t ((ixs A N r).idxOf j),λk z=>?_⟩;show t _=_;rw [zjd,zi8 z,zmO,(VP A N r).idxOf_getElem _ z]
theorem VO(r:Nat)(a:Vc)(i:Nat):sumTo (λj=>if (A j).has r=true then a j*(A j).v r i else 0) N=app (zdX A N r) (ixs A N r).length (λk=>a ((ixs A N r).getD k 0)) i:=by
 have:=ko (λj=>(A j).has r) (λj=>a j*(A j).v r i) N;rw [<- this];unfold app;rw [qN];rfl
theorem zcc{r j:Nat}(z:j<N)(I:(A j).has r=true) : ∃k,k<(ixs A N r).length/\(ixs A N r).getD k 0=j:=by
 have O:j∈ixs A N r:=zjz.mpr ⟨zi6.mpr z,by simpa using I⟩;obtain⟨i,hi,e⟩:=zmw O;exact⟨i,hi,by rw [zjd,zi8 hi];simpa using e⟩
theorem zdH(U:Pr p)(Y : ∀k,wd k<=8)(ok : ∀j,j<N->BarOk p w wd T m (A j))(cnt : ∀r,r<=m->(ixs A N r).length=wd r)(S : ∀r,r<=m->∀v:Vc,∃t,∀i,i<wd r->v i%p=app (zdX A N r) (wd r) t i%p):Decp p w wd T m N A where
 ok:=ok
 cnt:=cnt
 sp:=λr z v=>by
  obtain⟨t,I⟩:=S r z v;obtain⟨a,ha⟩:=zaX (A:=A) (N:=N) r t;refine⟨a,λi hi=>?_⟩;rw [I i hi,VO,cnt r z];unfold app;congr 1;exact zw λk O=>by show _=_*a _;rw [ha k (by rw [cnt r z];exact O)]
 inj:=λr z t I j Z hh=>by
  obtain⟨k,O,e⟩:=zcc Z hh;have:=wt U (Y r) (S r z) (t:=λk=>t ((ixs A N r).getD k 0)) (λi hi=>by
   have:=I i hi;rw [VO,cnt r z]at this;exact this) k (by rw [<- cnt r z];exact O)
  rw [e]at this;exact this
theorem zbf(U:Pr p)(Y : ∀k,wd k<=8){bars:List Bar}(I:BrInv p w wd T m bars):Decp p w wd T m bars.length λj=>bars.getD j WP:=by
 let A:Nat->Bar:=λj=>bars.getD j WP;have S:bars=(zi2 bars.length).map A:=(j4 WP _).symm;have cnt : ∀r,r<=m->(ixs A bars.length r).length=wd r:=λr z=>by
  have:=I.ct r z;rw [S,zlj,zjO]at this;exact this
 refine zdH U Y (λj O=>I.ok _ ?_) cnt λr z v=>?_
 ·rw [zjd,zi8 O];exact zkN _
 ·have Z:Span p (wd r) (Fam (wd r) λj i=>zdX A bars.length r i j) v:=(I.sp r z v).le λgg hg=>by
   obtain⟨b,h1,h2,rfl⟩:=hg;rw [S]at h1;obtain⟨j,O,rfl⟩:=zjx.mp h1;obtain⟨k,hk,e⟩:=zcc (A:=A) (zi6.mp O) h2;refine .gen ⟨k,by rw [<- cnt r z];exact hk,?_⟩;funext c;show(A j).v r c=(A ((ixs A bars.length r).getD k 0)).v r c;rw [e]
  exact col_span.mp Z
end
def F_kept:List D->Option Res:=ja 7 (zI (zU 3 (jp (jg F_link (za (zc 0) (za (zc 1) (za (zc 2) zu)))))) (zI (zU 4 (sIx (zC (sIx (zf 0) (zh (.int 1)))) (zc 1))) (zI (zU 5 (sIx (zC (sIx (zf 0) (zh (.int 1)))) (zc 2))) (zI (zU 6 (jp (jg F_base_of (za (sIx (zf 0) (zh (.int 0))) (za (zv jj (zc 5) (zc 4)) (za (jp (zD (zG (zf 3)) (.nm 0) 1 [4] jb (zv jj (Qs (zc 0) (sBd (zc 1)) Yr) (Qs (zc 0) Yr (sBd (zc 1)))))) zu)))))) (j3 (zv xC (zv xC (ya (zf 3)) (ya (jy (jg F_behind_noughts (za (zc 5) (za (zc 6) zu)))))) (ya (jy (jg F_behind_noughts (za (zc 4) (za (zc 3) zu)))))))))))
def F_number_of:List D->Option Res:=ja 4 (zI (zU 3 (zv jj (JH (zc 0) (jx (za (zv xC (zc 1) (zh (.int 1))) (za (zc 2) zu))) (zh (.int 0))) (JH (zc 0) (jx (za (zc 1) (za (zv jj (zc 2) (zh (.int 1))) zu))) (zh (.int 0))))) (j3 (zv jj (zv xC (qY (zc 0) (jx (za (zc 1) (za (zc 2) zu)))) (zc 3)) (JH (zc 0) (jx (za (zv xC (zc 1) (zh (.int 1))) (za (zv jj (zc 2) (zh (.int 1))) zu))) (zh (.int 0))))))
def F_numbers:List D->Option Res:=ja 3 (zI (zU 1 (jp (jg F_stretches_of (za (ya (zC (sIx (zf 0) (zh (.int 1))))) zu)))) (zI (zU 2 (Zc (zD (zG (zf 1)) (.tp [0,1]) 2 [0] jb (jx (za (jx (za (zc 0) (za (zc 1) zu))) (za (zn F_kept (za (zc 2) (za (zc 0) (za (zc 1) zu)))) zu)))))) (j3 (Zc (zD (zG (zf 1)) (.tp [0,1]) 2 [2] jb (jx (za (jx (za (zc 0) (za (zc 1) zu))) (za (zn F_number_of (za (zc 2) (za (zc 0) (za (zc 1) zu)))) zu))))))))
def kp1:CO Fl:=zU 3 (jp (jg F_link (za (zc 0) (za (zc 1) (za (zc 2) zu)))))
def kp2:CO Fl:=zU 4 (sIx (zC (sIx (zf 0) (zh (.int 1)))) (zc 1))
def kp3:CO Fl:=zU 5 (sIx (zC (sIx (zf 0) (zh (.int 1)))) (zc 2))
def kp4:CO Fl:=zU 6 (jp (jg F_base_of (za (sIx (zf 0) (zh (.int 0))) (za (zv jj (zc 5) (zc 4)) (za (jp (zD (zG (zf 3)) (.nm 0) 1 [4] jb (zv jj (Qs (zc 0) (sBd (zc 1)) Yr) (Qs (zc 0) Yr (sBd (zc 1)))))) zu)))))
def kp5:CO Fl:=j3 (zv xC (zv xC (ya (zf 3)) (ya (jy (jg F_behind_noughts (za (zc 5) (za (zc 6) zu)))))) (ya (jy (jg F_behind_noughts (za (zc 4) (za (zc 3) zu))))))
theorem zfE:F_kept=ja 7 (zI kp1 (zI kp2 (zI kp3 (zI kp4 kp5)))):=rfl
section
variable{p:Int}{w:Nat->Bool}{wd:Nat->Nat}{T:Nat->Nat->Nat->Int}{m:Nat}
theorem Yc{a b q s:Nat}{B:Nat->Vc}{l:Nat->Nat}(I:IsB p (a+b) q B l)(hs:s<=q)(s1 : ∀k,k<s->l k<a)(s2 : ∀k,s<=k->k<q->a<=l k) :
 IsB p a s B l/\∀u,Span p a (Fam s B) u ↔ ∃z,Span p (a+b) (Fam q B) (jv a u z):=by
 refine⟨{
  lt:=s1
  mono:=λk m h1 h2=>I.mono k m h1 ⋯
  one:=λk O=>I.one k ⋯
  bef:=λk j O U=>I.bef k j ⋯ U
  oth:=λk m O hm Y=>I.oth k m ⋯ ⋯ Y
  rng:=λk i O hi=>I.rng k i ⋯ ⋯},λu=>⟨λS=>?_,λS=>?_⟩⟩
 ·obtain⟨t,Z⟩:=xP S
  refine⟨λj=>sumTo (λk=>t k*B k (a+j)) s,(Span.sum (u:=B) t (m:=s) λk O=> .gen ⟨k,by omega,rfl⟩).congr λi hi=>?_⟩;rcases zjl i a with z | z
  ·rw [zK z,Z i z]
  ·obtain⟨j,rfl⟩ : ∃j,i=a+j:=⟨i - a,by omega⟩
   rw [zQ]
 ·obtain⟨z,hz⟩:=S
  have c:=vj I hz;refine(vo (n:=a) B λk=>jv a u z (l k)).congr λi hi=>?_;have:=c i ⋯;rw [zK hi]at this;rw [this];obtain⟨e,rfl⟩ : ∃e,q=s+e:=⟨q - s,by omega⟩;rw [xq];have e0:sumTo (λk=>jv a u z (l (s+k))*B (s+k) i) e=sumTo (λ_=>0) e:=zw λk O=>by
   rw [I.bef (s+k) i ⋯ (by have:=s2 (s+k) ⋯ ⋯;omega)];simp
  rw [e0,zF,zmr]
theorem Kz{a b q:Nat}{B:Nat->Vc}(v:Vc):Span p (b+a) (Fam q λk=>jv b (λj=>B k (a+j)) (B k)) (jv b (λ_=>0) v)↔Span p (a+b) (Fam q B) (jv a v λ_=>0):=by
 constructor
 ·intro h
  refine(h.map (n':=a+b) (G':=Fam q B) (λi=>if i<a then b+i else i - a) (λi hi=>by split<;>omega) λg I=>?_).congr λi hi=>?_
  ·obtain⟨k,O,rfl⟩:=I
   refine(Span.gen (g:=B k) ⟨k,O,rfl⟩).congr λi hi=>?_;show jv b (λj=>B k (a+j)) (B k) (if i<a then b+i else i - a)%p=_;split
   ·rw [zQ]
   ·rw [zK ⋯];congr 2;omega
  ·split
   ·next z=>rw [zQ,zK z]
   ·next z=>
    obtain⟨j,rfl⟩ : ∃j,i=a+j:=⟨i - a,by omega⟩;rw [zQ,zK ⋯]
 ·intro h
  refine(h.map (n':=b+a) (G':=Fam q λk=>jv b (λj=>B k (a+j)) (B k)) (λi=>if i<b then a+i else i - b) (λi hi=>by split<;>omega) λg I=>?_).congr λi hi=>?_
  ·obtain⟨k,O,rfl⟩:=I
   refine(Span.gen (g:=jv b (λj=>B k (a+j)) (B k)) ⟨k,O,rfl⟩).congr λi hi=>?_;split
   ·next z=>rw [zK z]
   ·next z=>
    obtain⟨j,rfl⟩ : ∃j,i=b+j:=⟨i - b,by omega⟩;rw [zQ];congr 2;omega
  ·split
   ·next z=>rw [zQ,zK z]
   ·next z=>
    obtain⟨j,rfl⟩ : ∃j,i=b+j:=⟨i - b,by omega⟩;rw [zQ,zK ⋯];congr 2;omega
theorem Z0(hp:Pr p)(Y : ∀k,wd k<=4)(hT : ∀k x y,0<=T k x y/\T k x y<p)(hm:m<=20){i j:Nat}(a9:i<=j)(hj:j<=m) :
 ∃(s q:Nat) (B B2:Nat->Vc) (l l2:Nat->Nat),F_kept [zT p m w wd T,.int i,.int j]=some (.val (.int ((s:Int) - (q:Int))))/\IsB p (wd i) s B l/\(∀u,Span p (wd i) (Fam s B) u ↔ ∃z,Wk p w wd T i (j - i) u z)/\IsB p (wd i) q B2 l2/\∀u,Span p (wd i) (Fam q B2) u↔Wk p w wd T i (j - i) u λ_=>0:=by
 have hl:=z9;have ha:=Y i;have ak:=Y j;obtain⟨q,B,l,e1,O,Z⟩:=WN (m:=m) (w:=w) hp Y hT a9 hj;have hq:=yG O;have S:q<=lim:=by omega
 obtain⟨r,B',l',e2,U,hS⟩:=qb hp (show wd j+wd i<=100 by omega) S .L λk=>jv (wd j) (λx=>B k (wd i+x)) (B k);have hr:=yG U;obtain⟨s,hs,s1,s2⟩:=kt (l:=l) (wd i) O.mono;obtain⟨s',a4,a5,a6⟩:=kt (l:=l') (wd j) U.mono;have b1:=xJ O S hs s1 s2;have b2:=xJ U ⋯ a4 a5 a6;obtain⟨h1,h2⟩:=Yc O hs s1 s2;obtain⟨h3,h4⟩:=w5 U a4 a5 a6;refine⟨s,r - s',B,_,l,_,?_,h1,λu=>?_,h3,λu=>?_⟩
 ·have ae:i<m+1:=by omega
  have af:j<m+1:=by omega
  have sw:zL (.nm 0) jb (zv jj (Qs (zc 0) (sBd (zc 1)) Yr) (Qs (zc 0) Yr (sBd (zc 1)))) [.no,.val (.int (wd i))] (zN q (wd i+wd j) B)=some (zN q (wd j+wd i) λk=>jv (wd j) (λx=>B k (wd i+x)) (B k)):=by
   unfold zN;refine zo _ _ λk hk=>zq rfl rfl ?_;have a7:wd j+wd i<=lim:=by omega
   simp [Kf,Ke,jj,a7,qK]
  let R:=zT p m w wd T;let I:D:= .lst (zN q (wd i+wd j) B);let L2:D:= .lst (zN r (wd j+wd i) B');rw [zfE];refine jK (zA (γ':=[.val R,.val (.int i),.val (.int j),.val I,.no,.no,.no]) ?_
   (zA (γ':=[.val R,.val (.int i),.val (.int j),.val I,.val (.int (wd i)),.no,.no]) ?_
   (zA (γ':=[.val R,.val (.int i),.val (.int j),.val I,.val (.int (wd i)),.val (.int (wd j)),.no]) ?_
   (zA (γ':=[.val R,.val (.int i),.val (.int j),.val I,.val (.int (wd i)),.val (.int (wd j)),.val L2]) ?_ ?_))))
  ·simp [kp1,zP,zi5,R,I,e1]
  ·simp [kp2,R,xu,ae]
  ·simp [kp3,R,xu,af]
  ·have c1:((wd j:Int)+(wd i:Int))=((wd j+wd i:Nat):Int):=by omega
   have a7:wd j+wd i<=lim:=by omega
   simp only [dsq]at e2;simp [kp4,jd,R,xu,I,S,sw];rw [c1,e2];simp [L2]
  ·have r1:q - s<=lim:=by omega
   have r2:r - s'<=lim:=by omega
   have f1:(q:Int) - ((r - s':Nat):Int) - ((q - s:Nat):Int)=(s:Int) - ((r - s':Nat):Int):=by omega
   simp [kp5,I,L2,b1,b2,S,r1,r2,f1]
 ·rw [h2 u]
  constructor
  ·rintro⟨z,hz⟩
   have:=(ZW (j - i) _).mp ((Z _).mp hz);exact⟨_,Qq this λx hx=>by rw [zK hx]⟩
  ·rintro⟨z,hz⟩
   refine⟨z,(Z _).mpr ((ZW (j - i) _).mpr ?_)⟩;rw [show(λx=>jv (wd i) u z (wd i+x))=z from funext λx=>zQ x];exact Qq hz λx hx=>by rw [zK hx]
 ·rw [h4 u,hS,Kz,Z,ZW,show(λx=>jv (wd i) u (λ_=>0) (wd i+x))=λ_=>0 from funext λx=>zQ x]
  exact⟨λh=>Qq h λx hx=>by rw [zK hx],λh=>Qq h λx hx=>by rw [zK hx]⟩
end
def stN(M:Nat):List (Nat×Nat):=(zi2 M).flatMap λi=>(zkn i (M - i)).map λj=>(i,j)
def kI(s:Nat×Nat):List Int:=[(s.1:Int),(s.2:Int)]
def kD(s:Nat×Nat):D:= .tup [.int s.1,.int s.2]
theorem mem_st{M:Nat}{s:Nat×Nat}:s∈stN M↔s.1<=s.2/\s.2<M:=by
 unfold stN;simp only [List.mem_flatMap,zi6,zjx,List.mem_range'_1];constructor
 ·rintro⟨i,hi,j,z,rfl⟩
  exact⟨z.1,by show j<M;omega⟩
 ·intro h
  exact⟨s.1,by omega,s.2,⟨h.1,by omega⟩,rfl⟩
theorem vv : ∀M:Fin 7,(stN M.val).Nodup/\((stN M.val).map kI).Nodup/\(stN M.val).length<=21:=by decide +kernel
theorem zg2 : ∀M:Fin 7,F_stretches_of [.int (M.val:Int)]=some (.own ((stN M.val).map kD))
 | ⟨0,_⟩=>by kernel_rfl
 | ⟨1,_⟩=>by kernel_rfl
 | ⟨2,_⟩=>by kernel_rfl
 | ⟨3,_⟩=>by kernel_rfl
 | ⟨4,_⟩=>by kernel_rfl
 | ⟨5,_⟩=>by kernel_rfl
 | ⟨6,_⟩=>by kernel_rfl
theorem X3{s t:Nat×Nat}(h:kI s=kI t):s=t:=by
 unfold kI at h;simp only [List.cons.injEq,and_true]at h;obtain⟨a,b⟩:=s;obtain⟨c,d⟩:=t;simp only [Prod.mk.injEq];have h1:=h.1;have h2:=h.2;dsimp only at h1 h2;omega
theorem QZ(f:Nat×Nat->D)(k:List Int) : ∀L:List (Nat×Nat),Q0 (L.map kI) (L.map f) k=(L.find? λs=>decide (kI s=k)).map f
 | []=>rfl
 | s::L=>by
  show(if kI s=k then _ else _)=_;by_cases h:kI s=k
  ·rw [if_pos h,zme (by simpa using h)];rfl
  ·rw [if_neg h,zmf (by simpa using h)];exact QZ f k L
theorem V3{L:List (Nat×Nat)}{s:Nat×Nat}(h:s∈L):(L.find? λt=>decide (kI t=kI s))=some s:=by
 cases e:L.find? λt=>decide (kI t=kI s)with
 | none=>
  have:=zlN.mp e s h;simp at this
 | some t=>
  have:=List.find?_some e;rw [X3 (of_decide_eq_true this)]
def atS(f:Nat×Nat->Int)(M:Nat)(a b:Int):Int:=if 0<=a/\a<=b/\b<M then f (a.toNat,b.toNat)else 0
theorem Z5(f:Nat×Nat->Int)(M:Nat)(a b:Int):(Q0 ((stN M).map kI) ((stN M).map λs=> .int (f s)) [a,b]).getD (.int 0) = .int (atS f M a b):=by
 rw [QZ (λs=> .int (f s))];unfold atS;split
 ·next h=>
  have e:[a,b]=kI (a.toNat,b.toNat):=by unfold kI;simp;omega
  rw [e,V3 (mem_st.mpr (by show a.toNat<=b.toNat/\b.toNat<M;omega))];rfl
 ·next h=>
  rw [zlN.mpr λs I z=>h ?_]
  ·rfl
  ·have hm:=mem_st.mp I
   have z:=of_decide_eq_true z;unfold kI at z;simp only [List.cons.injEq,and_true]at z;omega
theorem yR(f:Nat×Nat->Int){M:Nat}{s:Nat×Nat}(h:s∈stN M):Q0 ((stN M).map kI) ((stN M).map λs=>D.int (f s)) [(s.1:Int),(s.2:Int)]=some (.int (f s)):=by
 rw [QZ (λs=> .int (f s))];rw [show [(s.1:Int),(s.2:Int)]=kI s from rfl,V3 h];rfl
def zdk(f:Nat×Nat->Int)(M:Nat)(s:Nat×Nat):Int:=f s - (atS f M ((s.1:Int) - 1) s.2+atS f M s.1 ((s.2:Int)+1))+atS f M ((s.1:Int) - 1) ((s.2:Int)+1)
def jw(f:Nat×Nat->Int)(M:Nat):D:= .dct ((stN M).map kI) ((stN M).map λs=> .int (f s))
theorem zfJ(a b:Int):Yt (.tup [.int a,.int b])=some [a,b]:=rfl
def no1:CO Fl:=zU 3 (zv jj (JH (zc 0) (jx (za (zv xC (zc 1) (zh (.int 1))) (za (zc 2) zu))) (zh (.int 0))) (JH (zc 0) (jx (za (zc 1) (za (zv jj (zc 2) (zh (.int 1))) zu))) (zh (.int 0))))
def no2:CO Fl:=j3 (zv jj (zv xC (qY (zc 0) (jx (za (zc 1) (za (zc 2) zu)))) (zc 3)) (JH (zc 0) (jx (za (zv xC (zc 1) (zh (.int 1))) (za (zv jj (zc 2) (zh (.int 1))) zu))) (zh (.int 0))))
theorem zfx:F_number_of=ja 4 (zI no1 no2):=rfl
theorem Vu(f:Nat×Nat->Int){M:Nat}{s:Nat×Nat}(h:s∈stN M):F_number_of [jw f M,.int s.1,.int s.2]=some (.val (.int (zdk f M s))):=by
 have h1:=Z5 f M ((s.1:Int) - 1) s.2;have h2:=Z5 f M s.1 ((s.2:Int)+1);have z:=Z5 f M ((s.1:Int) - 1) ((s.2:Int)+1);have I:=yR f h;rw [zfx];refine jK (zA (γ':=[.val (jw f M),.val (.int s.1),.val (.int s.2),.val (.int (atS f M ((s.1:Int) - 1) s.2+atS f M s.1 ((s.2:Int)+1)))]) ?_ ?_)
 ·simp [no1,zP,zi5,jw,za7,zfJ,h1,h2]
 ·simp [no2,jw,za7,zfJ,z,I,zdk]
theorem ZH(f:Nat×Nat->Int) : ∀L:List (Nat×Nat),xO (L.map λs=>D.tup [kD s,.int (f s)])=some (L.map kD,L.map λs=> .int (f s))
 | []=>rfl
 | s::L=>by
  show(xO (L.map λs=>D.tup [kD s,.int (f s)])).map _=_;rw [ZH f L];rfl
theorem VG : ∀L:List (Nat×Nat),Ya (L.map kD)=some (L.map kI)
 | []=>rfl
 | s::L=>by
  show(Yt (kD s)).bind _=_;rw [show Yt (kD s)=some (kI s)from rfl];show(Ya (L.map kD)).map _=_;rw [VG L];rfl
def nm1:CO Fl:=zU 1 (jp (jg F_stretches_of (za (ya (zC (sIx (zf 0) (zh (.int 1))))) zu)))
def nm2:CO Fl:=zU 2 (Zc (zD (zG (zf 1)) (.tp [0,1]) 2 [0] jb (jx (za (jx (za (zc 0) (za (zc 1) zu))) (za (zn F_kept (za (zc 2) (za (zc 0) (za (zc 1) zu)))) zu)))))
def nm3:CO Fl:=j3 (Zc (zD (zG (zf 1)) (.tp [0,1]) 2 [2] jb (jx (za (jx (za (zc 0) (za (zc 1) zu))) (za (zn F_number_of (za (zc 2) (za (zc 0) (za (zc 1) zu)))) zu)))))
theorem zfA:F_numbers=ja 3 (zI nm1 (zI nm2 nm3)):=rfl
section
variable{p:Int}{w:Nat->Bool}{wd:Nat->Nat}{T:Nat->Nat->Nat->Int}{m:Nat}
theorem KZ(hm:m<=5)(f:Nat×Nat->Int)(Z : ∀s,s∈stN (m+1)->F_kept [zT p m w wd T,.int s.1,.int s.2]=some (.val (.int (f s)))):F_numbers [zT p m w wd T]=some (.val (jw (zdk f (m+1)) (m+1))):=by
 have hl:=z9;obtain⟨n1,z,n3⟩:=vv ⟨m+1,by omega⟩;have O:=zg2 ⟨m+1,by omega⟩;dsimp only at n1 z n3 O;have U:(stN (m+1)).length<=lim:=by omega
 let S:D:= .lst ((stN (m+1)).map kD);have c1:zL (.tp [0,1]) jb (jx (za (jx (za (zc 0) (za (zc 1) zu))) (za (zn F_kept (za (zc 2) (za (zc 0) (za (zc 1) zu)))) zu))) [.no,.no,.val (zT p m w wd T)] ((stN (m+1)).map kD)=some ((stN (m+1)).map λs=>D.tup [kD s,.int (f s)]):=by
  refine zo _ _ λs I=>zq (γ1:=[.val (.int s.1),.val (.int s.2),.val (zT p m w wd T)]) rfl rfl ?_;have:=Z s I;simp [this,kD]
 have c2:zL (.tp [0,1]) jb (jx (za (jx (za (zc 0) (za (zc 1) zu))) (za (zn F_number_of (za (zc 2) (za (zc 0) (za (zc 1) zu)))) zu))) [.no,.no,.val (jw f (m+1))] ((stN (m+1)).map kD)=some ((stN (m+1)).map λs=>D.tup [kD s,.int (zdk f (m+1) s)]):=by
  refine zo _ _ λs I=>zq (γ1:=[.val (.int s.1),.val (.int s.2),.val (jw f (m+1))]) rfl rfl ?_;have:=Vu f I;simp [this,kD]
 have u1:=ZH f (stN (m+1));have u2:=ZH (zdk f (m+1)) (stN (m+1));have Y:=VG (stN (m+1));have em:((m:Int)+1)=((m+1:Nat):Int):=by omega
 rw [zfA];refine jK (zA (γ':=[.val (zT p m w wd T),.val S,.no]) ?_ (zA (γ':=[.val (zT p m w wd T),.val S,.val (jw f (m+1))]) ?_ ?_))
 ·simp [nm1,zP,zi5,xu]
  rw [em,O];simp [S]
 ·simp [nm2,jd,S,U,c1,u1,Y,z,jw]
 ·simp [nm3,jd,S,U,c2,u2,Y,z]
  rfl
end
def vq:List Int->Int
 | []=>0
 | x::r=>x+vq r
def cvZ(K:List (Nat×Nat))(a b:Int):Nat:=K.countP λx=>decide ((x.1:Int)<=a) && decide (b<=(x.2:Int))
def muZ(K:List (Nat×Nat))(s:Nat×Nat):Nat:=K.countP λx=>decide (x=s)
theorem vA(x:Nat×Nat)(K:List (Nat×Nat))(a b:Int):(cvZ (x::K) a b:Int)=(cvZ K a b:Int)+if (x.1:Int)<=a/\b<=(x.2:Int)then 1 else 0:=by
 unfold cvZ;rw [zmX];by_cases h1:(x.1:Int)<=a
 ·by_cases h2:b<=(x.2:Int)
  ·rw [if_pos (show(decide ((x.1:Int)<=a) && decide (b<=(x.2:Int)))=true by simp only [decide_eq_true h1,decide_eq_true h2];rfl),if_pos ⟨h1,h2⟩];rfl
  ·rw [if_neg (show ¬(decide ((x.1:Int)<=a) && decide (b<=(x.2:Int)))=true by simp only [decide_eq_false h2,Bool.and_false];decide),if_neg λz=>h2 z.2];rfl
 ·rw [if_neg (show ¬(decide ((x.1:Int)<=a) && decide (b<=(x.2:Int)))=true by simp only [decide_eq_false h1,Bool.false_and];decide),if_neg λz=>h1 z.1];rfl
theorem XT(x s:Nat×Nat)(K:List (Nat×Nat)):(muZ (x::K) s:Int)=(muZ K s:Int)+if (x.1=s.1/\x.2=s.2)then 1 else 0:=by
 unfold muZ;rw [zmX];by_cases h:x=s
 ·rw [if_pos (decide_eq_true h),if_pos (by rw [h];exact⟨rfl,rfl⟩)];rfl
 ·rw [if_neg (by simpa using h),if_neg λz=>h (Prod.ext z.1 z.2)];rfl
theorem yo(s:Nat×Nat) : ∀K:List (Nat×Nat),(cvZ K s.1 s.2:Int) - ((cvZ K ((s.1:Int) - 1) s.2:Int)+(cvZ K s.1 ((s.2:Int)+1):Int))+(cvZ K ((s.1:Int) - 1) ((s.2:Int)+1):Int)=(muZ K s:Int)
 | []=>rfl
 | x::K=>by
  have z:=yo s K;rw [vA,vA,vA,vA,XT];generalize (cvZ K s.1 s.2:Int)=I at *;generalize (cvZ K ((s.1:Int) - 1) s.2:Int)=O at *;generalize (cvZ K s.1 ((s.2:Int)+1):Int)=S at *;generalize (cvZ K ((s.1:Int) - 1) ((s.2:Int)+1):Int)=c4 at *;generalize (muZ K s:Int)=c5 at *
  repeat' split
  all_goals omega
theorem zb7(x:Nat×Nat) : ∀{L:List (Nat×Nat)},L.Nodup->vq (L.map λs=>if x=s then (1:Int)else 0)=if x∈L then 1 else 0
 | [],_=>rfl
 | s::L,h=>by
  have h':=zkp.mp h;show(if x=s then (1:Int)else 0)+vq (L.map λs=>if x=s then (1:Int)else 0)=_;rw [zb7 x h'.2];by_cases e:x=s
  ·subst e
   simp [h'.1]
  ·simp [e]
theorem Xw(f g:Nat×Nat->Int) : ∀L:List (Nat×Nat),vq (L.map λs=>f s+g s)=vq (L.map f)+vq (L.map g)
 | []=>rfl
 | s::L=>by
  show f s+g s+vq (L.map λs=>f s+g s)=f s+vq (L.map f)+(g s+vq (L.map g));rw [Xw f g L];omega
section
variable{p:Int}{w:Nat->Bool}{wd:Nat->Nat}{T:Nat->Nat->Nat->Int}{m N:Nat}{A:Nat->Bar}
def y6(A:Nat->Bar)(N:Nat):List (Nat×Nat):=(zi2 N).map λj=>((A j).s,(A j).s+(A j).n - 1)
theorem yN(D:Decp p w wd T m N A) : ∀x,x∈y6 A N->x∈stN (m+1):=λx hx=>by
 obtain⟨j,z,rfl⟩:=zjx.mp hx;have h1:=(D.ok j (zi6.mp z)).n1;have h2:=(D.ok j (zi6.mp z)).le;exact mem_st.mpr (by show(A j).s<=(A j).s+(A j).n - 1/\(A j).s+(A j).n - 1<m+1;omega)
theorem Zs(D:Decp p w wd T m N A){i j:Nat}(I:i<=j):(cvL A N i j).length=cvZ (y6 A N) i j:=by
 unfold cvL cvZ y6;rw [<- zjO,zlj];refine zko λk z=>?_;have h1:=(D.ok k (zi6.mp z)).n1;simp only [Bool.and_eq_true,zlK,decide_eq_true_eq];rw [has_iff,has_iff];omega
theorem zd0(D:Decp p w wd T m N A){a b:Int}(I:a<=b):atS (λs=>(cvZ (y6 A N) s.1 s.2:Int)) (m+1) a b=(cvZ (y6 A N) a b:Int):=by
 unfold atS;split
 ·next h=>
  show((cvZ (y6 A N) (a.toNat:Int) (b.toNat:Int):Nat):Int)=_;rw [zkL h.1,zkL ⋯]
 ·next h=>
  have:cvZ (y6 A N) a b=0:=by
   unfold cvZ;rw [zlF];intro x hx z;have:=mem_st.mp (yN D x hx);simp only [Bool.and_eq_true,decide_eq_true_eq]at z;omega
  rw [this];rfl
theorem zfw(D:Decp p w wd T m N A){s:Nat×Nat}(z:s.1<=s.2):zdk (λs=>(cvZ (y6 A N) s.1 s.2:Int)) (m+1) s=(muZ (y6 A N) s:Int):=by
 unfold zdk;rw [zd0 D ⋯,zd0 D ⋯,zd0 D ⋯];exact yo s _
theorem ZZ(z:Pr p)(I : ∀k,wd k<=4)(S : ∀k x y,0<=T k x y/\T k x y<p)(hm:m<=20)(D:Decp p w wd T m N A){i j:Nat}(O:i<=j)(U:j<=m):F_kept [zT p m w wd T,.int i,.int j]=some (.val (.int ((cvZ (y6 A N) i j:Nat):Int))):=by
 obtain⟨s,q,B,B2,l,l2,e,h1,h2,Y,Z⟩:=Z0 (w:=w) z I S hm O U;have:=kC z D (n:=j - i) ⋯ (I i) h1 h2 Y Z;rw [show i+(j - i)=j by omega]at this;rw [e,<- Zs D O];congr 3;omega
end
def JI:CO Fl:=(zI (Qx (.tp [7,8]) (zn F_law_ends_k22 (za (zc 5) (za (zc 6) zu)))) (qR 4 (jx (za (zc 6) (za (jx (za (sIx (zf 2) (zc 8)) (za (sIx (zf 2) (zc 7)) (za (zO (jy (zD (zG (zC (sIx (zf 3) (zc 5)))) (.nm 0) 1 [] jb (zO (zf 0))))) zu)))) zu)))))
theorem Y3:F_law_row_k22=ja 9 (zI (xm 4 (qB zu)) (zI (yX (yY (zc 1)) (.tp [5,6]) JI) (j3 (jx (za (zc 0) (za (zO (zf 2)) (za (zO (zf 4)) zu))))))):=rfl
def Z9:CO Fl:=(zI (Qx (.tp [9,10]) (zn F_law_ends_k22 (za (zc 7) (za (zc 8) zu)))) (qR 6 (jp (jg F_law_rows_k22 (za (zc 0) (za (zv jj (zv jj (zc 1) (zh (.int 10))) (zv qV (zh (.int 20)) (zc 7))) (za (zc 2) (za (sIx (zf 5) (zc 10)) (za (sIx (zf 5) (zc 9)) zu)))))))))
theorem wu:F_law_drawn_k22=ja 11 (zI (zU 5 (jp (zD (zX (zv jj (JF (zc 3)) (zh (.int 1)))) (.nm 0) 1 [0,1,4] jb (zv qL (zn F_law_cell (za (zc 1) (za (zv jj (zc 2) (zc 0)) zu))) (zv jj (zc 3) (zh (.int 1))))))) (zI (xm 6 (qB zu)) (zI (yX (yY (zc 3)) (.tp [7,8]) Z9) (zd9 6 (j3 (zn F_law_row_k22 (za (zc 2) (za (zc 3) (za (zc 5) (za (zc 6) zu)))))))))):=rfl
section
variable{p:Int}{m:Nat}{w:Nat->Bool}{wd:Nat->Nat}{T:Nat->Nat->Nat->Int}
def qh(w:Nat->Bool)(wd:Nat->Nat)(T:Nat->Nat->Nat->Int)(m:Nat):List D:=(zi2 m).map λk=>D.lst (xp (hiW w wd k) (wiW w wd k) (T k))
@[simp] theorem YM(m):(qh w wd T m).length=m:=by simp [qh]
theorem vO(k):qh w wd T (k+1)=qh w wd T k++[D.lst (xp (hiW w wd k) (wiW w wd k) (T k))]:=by simp [qh,zkh]
theorem Yo(k):jS (k+1) w wd T=jS k w wd T++[qf w wd T k]:=by simp [jS,zkh]
theorem zaN(h v:Nat)(f:Nat->Nat->Int):zL (.nm 0) jb (zO (zf 0)) [Cell.no] (xp h v f)=some (zN h v f):=by
 unfold xp zN;refine zo _ _ λy z=>zq rfl rfl ?_;simp
abbrev rc(p:Int)(m:Nat)(w:Nat->Bool)(wd:Nat->Nat)(T:Nat->Nat->Nat->Int)(acc:List D)(c5 c6 c7 c8:Cell):Ctx:=[.val (.int p),.val (.str (qM m w)),.val (.lst (zz (m+1) λk=>(wd k:Int))),.val (.lst (qh w wd T m)),.own acc,c5,c6,c7,c8]
theorem KL(hm:m<=5)(I : ∀k,wd k<=4){k:Nat}(z:k<m)(acc:List D)(ha:acc.length<lim)(c7 c8:Cell) : ∃O S,JI (rc p m w wd T acc (.val (.int k)) (.val (.str (qm (wch (w k))))) c7 c8)=some (.next (rc p m w wd T (acc++[qf w wd T k]) (.val (.int k)) (.val (.str (qm (wch (w k))))) O S)):=by
 have hl:=z9;have h1:=Q5 w z;have h2:=Xb w z;have U:hiW w wd k<=lim:=by rw [X4];have:=I (endR w k);omega
 have i1:ixD (m+1) ((endR w k:Nat):Int)=some (endR w k):=by rw [jZ,if_pos h1]
 have i2:ixD (m+1) ((begR w k:Nat):Int)=some (begR w k):=by rw [jZ,if_pos h2]
 have i3:ixD m (k:Int)=some k:=by rw [jZ,if_pos z]
 have w1:(zz (m+1) λk=>(wd k:Int))[endR w k]? = some (.int (wd (endR w k):Int)):=xj (n:=m+1) (λk=>(wd k:Int)) h1;have w2:(zz (m+1) λk=>(wd k:Int))[begR w k]? = some (.int (wd (begR w k):Int)):=xj (n:=m+1) (λk=>(wd k:Int)) h2;have Y:(qh w wd T m)[k]? = some (D.lst (xp (hiW w wd k) (wiW w wd k) (T k))):=by simp [qh,z]
 refine⟨.val (.int ((begR w k:Nat):Int)),.val (.int ((endR w k:Nat):Int)),?_⟩;unfold JI;rw [zR,Xg,qr];simp only [rc,j1,qG,jJ,zi9,zja,zE,zi7,zjt,Q4,ku,kf,zjI,zjH];have Z:(zD (zG (zC (sIx (zf 3) (zc 5)))) (.nm 0) 1 [] jb (zO (zf 0))) [.val (.int p),.val (.str (qM m w)),.val (.lst (zz (m+1) λk=>(wd k:Int))),.val (.lst (qh w wd T m)),.own acc,.val (.int k),.val (.str (qm (wch (w k)))),.val (.int ((begR w k:Nat):Int)),.val (.int ((endR w k:Nat):Int))]=some (zN (hiW w wd k) (wiW w wd k) (T k)):=by
  simp only [qD,kH,yw,kP,jQ,jJ,zi9,zja,zE,zW,Qm,zi7,zjt,jG,YM,i3,Y,Zr,U,if_true];exact zaN _ _ _
 simp only [yx,WD,j1,qG,jJ,kP,jQ,Zv,Xi,Z,zi9,zja,zE,zW,qp,Qm,zi7,zjt,jG,qu,i1,i2,w1,w2,zjv,zjX,ha,if_true];rw [<- X4 w wd k,<- Yy w wd k];rfl
theorem kZ(hm:m<=5)(S : ∀k,wd k<=4):F_law_row_k22 [.int p,.str (qM m w),.lst (zz (m+1) λk=>(wd k:Int)),.lst (qh w wd T m)]=some (.val (zT p m w wd T)):=by
 have hl:=z9;have U:=km w (show m<=1000 by omega);have Y : ∀(k s:Nat) (c5 c6 c7 c8:Cell),s+k=m->∃Z a0 a1 a2,qo (.tp [5,6]) JI ((zkn s k).map λ(k:Nat)=>D.tup [.int k,.str (qm (wch (w k)))]) (rc p m w wd T (jS s w wd T) c5 c6 c7 c8)=some (.next (rc p m w wd T (jS m w wd T) Z a0 a1 a2)):=by
  intro k
  induction k with
  | zero=>
   intro s c5 c6 c7 c8 h;obtain rfl:s=m:=by omega
   exact⟨c5,c6,c7,c8,rfl⟩
  | succ k ih=>
   intro s c5 c6 c7 c8 h;obtain⟨z,I,e⟩:=KL (p:=p) (w:=w) (T:=T) hm S (show s<m by omega) (jS s w wd T) (by simp;omega) c7 c8;obtain⟨a4,a5,a6,a7,O⟩:=ih (s+1) (.val (.int s)) (.val (.str (qm (wch (w s))))) z I ⋯;refine⟨a4,a5,a6,a7,?_⟩;rw [zkj,zjw,jF];show((JI (rc p m w wd T _ (.val (.int s)) (.val (.str (qm (wch (w s))))) c7 c8)).bind _)=_;rw [e];rw [Yo]at O;exact O
 obtain⟨d5,d6,z,I,e⟩:=Y m 0 .no .no .no .no ⋯;rw [<- zkk]at e;rw [Y3];unfold ja;rw [zR];show(zI _ _ (rc p m w wd T [] .no .no .no .no)).bind _=_;rw [zR,Qo,wD];simp only [rc,jJ,zi9,zja,zE,zi7,U,if_true,yT];have e0:jS 0 w wd T=[]:=rfl;simp only [rc,e0]at e;rw [e];simp;rfl
abbrev wc(ns:List Int)(p:Int)(m:Nat)(w:Nat->Bool)(wd:Nat->Nat)(wide:Nat)(acc:List D)(c7 c8 c9 c10:Cell):Ctx:=[.val (qO ns),.val (.int 2),.val (.int p),.val (.str (qM m w)),.val (.int wide),.val (.lst (zz (m+1) λk=>(wd k:Int))),.own acc,c7,c8,c9,c10]
def T22(ns:List Int)(p:Int)(w:Nat->Bool)(wd:Nat->Nat)(k x y:Nat):Int:=Qd ns p (2+10+20*(k:Int)+(x:Int)*((wiW w wd k:Nat):Int)+(y:Int))
theorem V9{ns:List Int}(O:ns.length<=63)(S:Pr p)(hm:m<=5)(z : ∀k,wd k<=4)(wide:Nat){k:Nat}(I:k<m)(acc:List D)(ha:acc.length<lim)(c9 c10:Cell) : ∃U Y,Z9 (wc ns p m w wd wide acc (.val (.int k)) (.val (.str (qm (wch (w k))))) c9 c10)=some (.next (wc ns p m w wd wide (acc++[D.lst (xp (hiW w wd k) (wiW w wd k) (T22 ns p w wd k))]) (.val (.int k)) (.val (.str (qm (wch (w k))))) U Y)):=by
 have hl:=z9;have h1:=Q5 w I;have h2:=Xb w I;have i1:ixD (m+1) ((endR w k:Nat):Int)=some (endR w k):=by rw [jZ,if_pos h1]
 have i2:ixD (m+1) ((begR w k:Nat):Int)=some (begR w k):=by rw [jZ,if_pos h2]
 have w1:(zz (m+1) λk=>(wd k:Int))[endR w k]? = some (.int (wd (endR w k):Int)):=xj (n:=m+1) (λk=>(wd k:Int)) h1;have w2:(zz (m+1) λk=>(wd k:Int))[begR w k]? = some (.int (wd (begR w k):Int)):=xj (n:=m+1) (λk=>(wd k:Int)) h2;have Z:Zu 20 (k:Int)=true:=ke _ _ ⋯ ⋯;have R:=zbN O S (at_:=2+10+20*(k:Int)) ⋯ ⋯ (h:=wd (endR w k)) (w:=wd (begR w k)) (z _) (z _);refine⟨.val (.int ((begR w k:Nat):Int)),.val (.int ((endR w k:Nat):Int)),?_⟩;unfold Z9;rw [zR,Xg,qr];simp only [wc,j1,qG,jJ,zi9,zja,zE,zi7,zjt,Q4,ku,kf,zjI,zjH];have bm:qV (.int 20) (.int (k:Int))=some (.int (20*(k:Int))):=by rw [Kc,Z];rfl
 simp only [yx,wC,Ko,j1,qG,jJ,qA,wE,kP,jQ,vz,bm,zi9,zja,zE,zW,qp,Qm,zi7,zjt,jG,qu,i1,i2,w1,w2,zjv,zjX,ha,if_true,R,vw];unfold T22;rw [X4,Yy];rfl
theorem vk{ns:List Int}(O:ns.length<=63)(S:Pr p)(hm:m<=5){wide:Nat}(hw:wide<=4) :
 ∃wd T,F_law_drawn_k22 [qO ns,.int 2,.int p,.str (qM m w),.int wide]=some (.val (zT p m w wd T))/\(∀k,wd k<=wide)/\∀k x y,0<=T k x y/\T k x y<p:=by
 have hl:=z9;have U:m+1<=lim:=by omega
 have Y:=km w (show m<=1000 by omega);let wd:Nat->Nat:=λk=>(qz ns (2+(k:Int))%((wide:Int)+1)).toNat;have z : ∀k:Nat,qz ns (2+(k:Int))%((wide:Int)+1)=(wd k:Int)/\wd k<=wide:=λk=>by
  have g1:=zj0 (qz ns (2+(k:Int))) (show(wide:Int)+1≠0 by omega);have g2:=zjJ (qz ns (2+(k:Int))) (show(0:Int)<(wide:Int)+1 by omega);have:(wd k:Int)=qz ns (2+(k:Int))%((wide:Int)+1):=zkL g1;exact⟨this.symm,by omega⟩
 refine⟨wd,T22 ns p w wd,?_,λk=>(z k).2,λk x y=>Wm S.pos⟩;have I : ∀k,wd k<=4:=λk=>by have:=(z k).2;omega
 generalize wd=wd at z I ⊢;have a4:(0:Int)<(wide:Int)+1:=by omega
 have k1:zL (.nm 0) jb (zv qL (zn F_law_cell (za (zc 1) (za (zv jj (zc 2) (zc 0)) zu))) (zv jj (zc 3) (zh (.int 1)))) [Cell.no,Cell.val (qO ns),Cell.val (.int 2),Cell.val (.int wide)] (zz (m+1) λi=>(i:Int))=some (zz (m+1) λk=>(wd k:Int)):=by
  rw [z6,z6];refine zo _ _ λk Z=>zq rfl rfl ?_;have Z:=zi6.mp Z;simp [(ww O (k:=2+(k:Int)) ⋯ ⋯).1,a4,(z k).1]
 have e1:(zU 5 (jp (zD (zX (zv jj (JF (zc 3)) (zh (.int 1)))) (.nm 0) 1 [0,1,4] jb (zv qL (zn F_law_cell (za (zc 1) (za (zv jj (zc 2) (zc 0)) zu))) (zv jj (zc 3) (zh (.int 1))))))) (zP 11 [qO ns,.int 2,.int p,.str (qM m w),.int wide])=some (.next [.val (qO ns),.val (.int 2),.val (.int p),.val (.str (qM m w)),.val (.int wide),.val (.lst (zz (m+1) λk=>(wd k:Int))),.no,.no,.no,.no,.no]):=by
  rw [Zw,wC,qD,kg,show zP 11 [qO ns,D.int 2,.int p,.str (qM m w),.int wide]=[.val (qO ns),.val (.int 2),.val (.int p),.val (.str (qM m w)),.val (.int wide),.no,.no,.no,.no,.no,.no]from rfl];simp only [wE,WG,jJ,qA,zi9,zja,zE,zi7,Y,if_true,ZE,vz,jG];rw [show((m:Int)+1)=((m+1:Nat):Int)by omega];simp only [yP U,if_true,zjM,zi7,jD,qu,U];rw [show jd 1 [0,1,4] [Cell.val (qO ns),Cell.val (D.int 2),Cell.val (D.int p),Cell.val (D.str (qM m w)),Cell.val (D.int (wide:Int)),Cell.no,Cell.no,Cell.no,Cell.no,Cell.no,Cell.no]=[Cell.no,Cell.val (qO ns),Cell.val (.int 2),Cell.val (.int wide)]from rfl,k1];rfl
 have a6 : ∀(k s:Nat) (c7 c8 c9 c10:Cell),s+k=m->∃a7 a8 a9 aa,qo (.tp [7,8]) Z9 ((zkn s k).map λ(k:Nat)=>D.tup [.int k,.str (qm (wch (w k)))]) (wc ns p m w wd wide (qh w wd (T22 ns p w wd) s) c7 c8 c9 c10)=some (.next (wc ns p m w wd wide (qh w wd (T22 ns p w wd) m) a7 a8 a9 aa)):=by
  intro k
  induction k with
  | zero=>
   intro s c7 c8 c9 c10 h;obtain rfl:s=m:=by omega
   exact⟨c7,c8,c9,c10,rfl⟩
  | succ k ih=>
   intro s c7 c8 c9 c10 h;obtain⟨d9,a1,e⟩:=V9 (p:=p) (w:=w) O S hm I wide (show s<m by omega) (qh w wd (T22 ns p w wd) s) (by simp;omega) c9 c10;obtain⟨ac,ad,ae,af,e'⟩:=ih (s+1) (.val (.int s)) (.val (.str (qm (wch (w s))))) d9 a1 ⋯;refine⟨ac,ad,ae,af,?_⟩;rw [zkj,zjw,jF];show((Z9 (wc ns p m w wd wide _ (.val (.int s)) (.val (.str (qm (wch (w s))))) c9 c10)).bind _)=_;rw [e];rw [vO]at e';exact e'
 obtain⟨d7,d8,d9,a1,e⟩:=a6 m 0 .no .no .no .no ⋯;rw [<- zkk]at e;have R:=kZ (p:=p) (w:=w) (T:=T22 ns p w wd) hm I;rw [wu];unfold ja;rw [zR,e1,qH,zR];show(zI _ _ (wc ns p m w wd wide [] .no .no .no .no)).bind _=_;rw [zR,Qo,wD];simp only [wc,jJ,zi9,zja,zE,zi7,Y,if_true,yT];have e0:qh w wd (T22 ns p w wd) 0=[]:=rfl;simp only [wc,e0]at e;rw [e];simp [R]
end
def u1:CO Fl:=(zU 1 (zn F_law_cell (za (zc 0) (za (zh (.int 0)) zu))))
def u2:CO Fl:=(zU 2 (sIx (jy (qB (za (zh (.int 2)) (za (zh (.int 3)) (za (zh (.int 5)) (za (zh (.int 7)) zu)))))) (zv qL (zc 1) (zh (.int 4)))))
def u3:CO Fl:=(Qx (.tp [3,4]) (sIx (jy (qB (za (jx (za (zh (.int 4)) (za (zh (.int 2)) zu))) (za (jx (za (zh (.int 3)) (za (zh (.int 2)) zu))) (za (jx (za (zh (.int 2)) (za (zh (.int 2)) zu))) (za (jx (za (zh (.int 2)) (za (zh (.int 2)) zu))) (za (jx (za (zh (.int 6)) (za (zh (.int 1)) zu))) (za (jx (za (zh (.int 5)) (za (zh (.int 1)) zu))) (za (jx (za (zh (.int 4)) (za (zh (.int 1)) zu))) (za (jx (za (zh (.int 3)) (za (zh (.int 1)) zu))) zu)))))))))) (zv qL (zc 1) (zh (.int 8)))))
theorem wf{c:Int}{n:Nat}(hn:0<n) : ∃a:Nat,c%(n:Int)=a/\a<n:=by
 obtain⟨a,ha⟩:=zk0 (zj0 c (show(n:Int)≠0 by omega));have:=zjJ c (show(0:Int)<n by omega);exact⟨a,ha,by omega⟩
theorem ze8{c:Int}(h:0<=c) : ∃q:Nat,Pr (q:Int)/\([D.int 2,.int 3,.int 5,.int 7])[(c%4).toNat]? = some (.int q)/\ixD 4 (c%4)=some (c%4).toNat:=by
 have h1:=zj0 c (show(4:Int)≠0 by decide);have h2:=zjJ c (show(0:Int)<4 by decide);obtain⟨r,z⟩:=zk0 h1;rw [z];have I:r<4:=by omega
 rw [jZ,if_pos I,zjM];rcases (by omega:r=0\/r=1\/r=2\/r=3)with e | e | e | e<;>subst e
 ·exact⟨2,.inl rfl,rfl,rfl⟩
 ·exact⟨3,.inr (.inl rfl),rfl,rfl⟩
 ·exact⟨5,.inr (.inr (.inl rfl)),rfl,rfl⟩
 ·exact⟨7,.inr (.inr (.inr rfl)),rfl,rfl⟩
section
variable{p:Int}{w:Nat->Bool}{wd:Nat->Nat}{T:Nat->Nat->Nat->Int}{m N:Nat}{A:Nat->Bar}
theorem kx(I:Pr p)(O : ∀k,wd k<=4)(S : ∀k x y,0<=T k x y/\T k x y<p)(hm:m<=5)(D:Decp p w wd T m N A):F_numbers [zT p m w wd T]=some (.val (jw (λs=>(muZ (y6 A N) s:Int)) (m+1))):=by
 rw [KZ hm (λs=>(cvZ (y6 A N) s.1 s.2:Int)) λs z=>by
  have:=mem_st.mp z;exact ZZ I O S ⋯ D this.1 ⋯]
 congr 2;unfold jw;congr 1;exact zjg λs z=>by rw [zfw D (mem_st.mp z).1]
end
section
variable{p:Int}{w:Nat->Bool}{wd:Nat->Nat}{T:Nat->Nat->Nat->Int}{m N:Nat}{A:Nat->Bar}
theorem ZD(i d:Nat) : ∀(n:Nat) {u z:Vc},Wk p (λk=>w (i+k)) (λk=>wd (i+k)) (λk=>T (i+k)) d n u z↔Wk p w wd T (i+d) n u z
 | 0,u,z=>Iff.rfl
 | n+1,u,z=>by
  show(∃y,Wk p (λk=>w (i+k)) (λk=>wd (i+k)) (λk=>T (i+k)) d n u y/\Lk p (λk=>w (i+k)) (λk=>wd (i+k)) (λk=>T (i+k)) (d+n) y z) ↔ ∃y,Wk p w wd T (i+d) n u y/\Lk p w wd T (i+d+n) y z;refine exists_congr λy=>and_congr (ZD i d n) ?_;unfold Lk;rw [show i+d+n=i+(d+n)by omega,show i+(d+n)+1=i+(d+n+1)by omega]
theorem zcg(I:Pr p)(O : ∀k,wd k<=4)(hT : ∀k x y,0<=T k x y/\T k x y<p)(hm:m<=20)(D:Decp p w wd T m N A){i e:Nat}(he:i+e<=m){N':Nat}{A':Nat->Bar}(U:Decp p (λk=>w (i+k)) (λk=>wd (i+k)) (λk=>T (i+k)) e N' A'){a b:Nat}(a1:a<=b)(hb:b<=e) :
 cvZ (y6 A' N') a b=cvZ (y6 A N) ((i:Int)+a) ((i:Int)+b):=by
 obtain⟨s,q,B,B2,l,l2,_,h1,h2,Y,S⟩:=Z0 (w:=w) I O hT hm (show i+a<=i+b by omega) (show i+b<=m by omega);rw [show i+b - (i+a)=b - a by omega]at h2 S;have Z:=kC I D (n:=b - a) ⋯ (O (i+a)) h1 h2 Y S;have k2:=kC I U (d:=a) (n:=b - a) ⋯ (O (i+a)) h1 (λu=>(h2 u).trans (exists_congr λz=>(ZD i a (b - a)).symm)) Y λu=>(S u).trans (ZD i a (b - a)).symm;rw [show a+(b - a)=b by omega,Zs U a1]at k2;rw [show i+a+(b - a)=i+b by omega,Zs D (show i+a<=i+b by omega)]at Z;have e1:((i+a:Nat):Int)=(i:Int)+a:=by omega
 have e2:((i+b:Nat):Int)=(i:Int)+b:=by omega
 rw [e1,e2]at Z;omega
theorem XS{M:Nat}{K I:List (Nat×Nat)}(h1 : ∀x,x∈K->x∈stN M)(h2 : ∀x,x∈I->x∈stN M)(h : ∀a b:Nat,a<=b->b<M->cvZ K a b=cvZ I a b){s:Nat×Nat}(Y:s.1<=s.2):muZ K s=muZ I s:=by
 have z : ∀{L:List (Nat×Nat)} {a b:Int},(∀x,x∈L->x∈stN M)->a<0\/(M:Int)<=b->cvZ L a b=0:=λ{L a b} S U=>by
  unfold cvZ;rw [zlF];intro x hx q;have:=mem_st.mp (S x hx);simp only [Bool.and_eq_true,decide_eq_true_eq]at q;omega
 have O : ∀{a b:Int},a<=b->cvZ K a b=cvZ I a b:=λ{a b} U=>by
  by_cases c:a<0\/(M:Int)<=b
  ·rw [z h1 c,z h2 c]
  ·have:=h a.toNat b.toNat ⋯ ⋯
   rw [zkL ⋯,zkL ⋯]at this;exact this
 have i1:=yo s K;have i2:=yo s I;rw [O ⋯,O ⋯,O ⋯,O ⋯]at i1;omega
def kO(i j:Nat)(x:Nat×Nat):Nat×Nat:=(max x.1 i - i,min x.2 j - i)
def wg(i j:Nat)(x:Nat×Nat):Bool:=decide (max x.1 i<=min x.2 j)
theorem zdS{i e:Nat}{K:List (Nat×Nat)}{a b:Nat}(O:a<=b)(S:b<=e):cvZ ((K.filter (wg i (i+e))).map (kO i (i+e))) a b=cvZ K ((i:Int)+a) ((i:Int)+b):=by
 unfold cvZ;rw [zlj,List.countP_filter];refine zko λx hx=>?_;simp only [zlK,Bool.and_eq_true,decide_eq_true_eq];have I:wg i (i+e) x=true↔max x.1 i<=min x.2 (i+e):=decide_eq_true_iff;rw [I];show((((max x.1 i - i:Nat)):Int)<=a/\(b:Int)<=((min x.2 (i+e) - i:Nat):Int))/\_↔_;constructor
 ·rintro⟨⟨h1,h2⟩,z⟩
  constructor
  ·omega
  ·rcases Nat.le_total x.2 (i+e)with q | q
   ·rw [zlJ q]at h2 z
    omega
   ·rw [Nat.min_eq_right q]at h2 z
    omega
 ·rintro⟨h1,h2⟩
  refine⟨⟨?_,?_⟩,?_⟩
  ·rcases Nat.le_total x.1 i with q | q
   ·rw [Nat.max_eq_right q];omega
   ·rw [Nat.max_eq_left q];omega
  ·rcases Nat.le_total x.2 (i+e)with q | q
   ·rw [zlJ q];omega
   ·rw [Nat.min_eq_right q];omega
  ·rw [Nat.le_min,Nat.max_le,Nat.max_le]
   omega
theorem zdR{i e:Nat}{K:List (Nat×Nat)} : ∀x,x∈(K.filter (wg i (i+e))).map (kO i (i+e))->x∈stN (e+1):=λx hx=>by
 obtain⟨y,z,rfl⟩:=zjx.mp hx;have hm:=(zjz.mp z).2;simp only [wg,decide_eq_true_eq]at hm;exact mem_st.mpr (by show max y.1 i - i<=min y.2 (i+e) - i/\min y.2 (i+e) - i<e+1;omega)
end
theorem zaW{h w h' w':Nat}(f g:Nat->Nat->Int):jI (h+h') (w+w') (QW h w f g λ_ _=>0)=jI (h+h') (w+w') (kG h w f g):=by
 have:zN (h+h') (w+w') (QW h w f g λ_ _=>0)=zN (h+h') (w+w') (kG h w f g):=by
  unfold zN;refine zjg λi hi=>?_;rw [kE λj z=>?_];unfold QW kG;split<;>rfl
 unfold jI;rw [this]
section
variable{p p':Int}{m m':Nat}{w w':Nat->Bool}{wd wd':Nat->Nat}{T T':Nat->Nat->Nat->Int}
abbrev Jr(m:Nat)(wd wd':Nat->Nat):D:= .tup (zz (m+1) λk=>((wd k+wd' k:Nat):Int))
theorem YJ(hm:m<=900):(zU 2 (zO (jy (zD (wK (sIx (zf 0) (zh (.int 1))) (sIx (zf 1) (zh (.int 1)))) (.tp [0,1]) 2 [] jb (zv jj (zc 0) (zc 1)))))) (zP 3 [zT p m w wd T,zT p m w wd' T'])=some (.next [.val (zT p m w wd T),.val (zT p m w wd' T'),.val (Jr m wd wd')]):=by
 have U:=z9;have z:m+1<=lim:=by omega
 have I:=xv p m w wd T;have x1:=xv p m w wd' T';have O:zL (.tp [0,1]) jb (zv jj (zc 0) (zc 1)) [Cell.no,Cell.no] ((zi2 (m+1)).map λi=>D.tup [.int (wd i:Int),.int (wd' i:Int)])=some (zz (m+1) λk=>((wd k+wd' k:Nat):Int)):=by
  rw [z6 (m+1) λk=>((wd k+wd' k:Nat):Int)];refine zo _ _ λk Y=>zq rfl rfl ?_;show zv _ _ _ [Cell.val (.int (wd k:Int)),Cell.val (.int (wd' k:Int))]=_;simp
 have i1:ixD 3 1=some 1:=rfl;have src:wK (sIx (zf 0) (zh (.int 1))) (sIx (zf 1) (zh (.int 1))) [.val (zT p m w wd T),.val (zT p m w wd' T'),.no]=some ((zi2 (m+1)).map λi=>D.tup [.int (wd i:Int),.int (wd' i:Int)]):=by
  rw [<- yb (m+1) (λk=>(wd k:Int)) λk=>(wd' k:Int)];simp only [zcj,kP,jQ,qA,zi9,zja,zjv,zjX,zki,zlC,zW,zi7,zjt,I,x1,jG,i1,yV]
 have S:((zi2 (m+1)).map λi=>D.tup [.int (wd i:Int),.int (wd' i:Int)]).length<=lim:=by simpa using z
 show(((zD _ _ _ _ _ _ [.val (zT p m w wd T),.val (zT p m w wd' T'),.no]).map λds=>(Sk.L,ds)).map λa=>D.tup a.2).map _=_;rw [qD,src];simp only [zi7];rw [if_pos S,show jd 2 [] [.val (zT p m w wd T),.val (zT p m w wd' T'),.no]=[Cell.no,Cell.no]from rfl,O];rfl
theorem YI:Yq (zz (m+1) λk=>((wd k+wd' k:Nat):Int))=some (sumTo (λk=>(wd k:Int)) (m+1)+sumTo (λk=>(wd' k:Int)) (m+1)):=by
 rw [ye,<- Wx];congr 1
theorem Xv:Yq (zz (m+1) λk=>(wd k:Int)+(wd' k:Int))=some (sumTo (λk=>(wd k:Int)) (m+1)+sumTo (λk=>(wd' k:Int)) (m+1)):=by
 rw [ye,<- Wx]
theorem zbD(hm:m<=900)(h : ¬(30<sumTo (λk=>(wd k:Int)) (m+1)+sumTo (λk=>(wd' k:Int)) (m+1))):F_widths_together [zT p m w wd T,zT p m w wd' T']=some (.val (Jr m wd wd'))/\jn [zT p m w wd T,zT p m w wd' T']=none:=by
 have z:=YI (m:=m) (wd:=wd) (wd':=wd');have I:=Xv (m:=m) (wd:=wd) (wd':=wd');have tg:F_ask_together [Jr m wd wd']=some (.val .non):=by
  simp [F_ask_together,ja,zP,zi5,je,Jr,z,I,h]
 have O:jB [Jr m wd wd']=none:=by
  simp [jB,QC,zP,zi5,je,Jr,z,I,h,xIf,xNo]
 have s1:=YJ (p:=p) (w:=w) (wd:=wd) (wd':=wd') (T:=T) (T':=T') hm;constructor
 ·refine jK (zA s1 (zA (γ':=[.val (zT p m w wd T),.val (zT p m w wd' T'),.val (Jr m wd wd')]) ?_ rfl))
  simp only [WH,qr,j1,qG,jJ,zi9,zja,zE,zi7,zjt,tg]
 ·unfold jn QC
  rw [Xf,s1];show(yc jB (za (zc 2) zu)) [.val (zT p m w wd T),.val (zT p m w wd' T'),.val (Jr m wd wd')]=none;simp [yc,O]
theorem W2(hm:m<=900)(h:30<sumTo (λk=>(wd k:Int)) (m+1)+sumTo (λk=>(wd' k:Int)) (m+1)):jn [zT p m w wd T,zT p m w wd' T']=some ((("TooMany" : Str),none):Xn):=by
 have z:=YI (m:=m) (wd:=wd) (wd':=wd');have I:=Xv (m:=m) (wd:=wd) (wd':=wd');have O:jB [Jr m wd wd']=some ((("TooMany" : Str),none):Xn):=by
  simp [jB,QC,zP,zi5,je,Jr,z,I,h,xIf,zcu]
 have s1:=YJ (p:=p) (w:=w) (wd:=wd) (wd':=wd') (T:=T) (T':=T') hm;unfold jn QC;rw [Xf,s1];show(yc jB (za (zc 2) zu)) [.val (zT p m w wd T),.val (zT p m w wd' T'),.val (Jr m wd wd')]=_;simp [yc,O]
abbrev noJ(m:Nat)(w:Nat->Bool)(wd wd':Nat->Nat):D:= .lst (J0 m w wd wd' λ_ _ _=>0)
theorem VL(hm:m<=900)(S : ∀k,wd k<=400)(U : ∀k,wd' k<=400)(h : ¬(30<sumTo (λk=>(wd k:Int)) (m+1)+sumTo (λk=>(wd' k:Int)) (m+1))):F_joined [zT p m w wd T,zT p m w wd' T',noJ m w wd wd']=some (.val (zf7 p m w wd wd' T T')):=by
 have hl:=z9;have a2:m<=lim:=by omega
 have Y:=xv p m w wd T;have x1:=xv p m w wd' T';have l2:2<=lim:=by omega
 have l3:3<=lim:=by omega
 have tg:=(zbD (p:=p) (w:=w) (T:=T) (T':=T') hm h).1;have I : ∀(u:Nat->Nat),(∀k,u k<=400)->∀k,hiW w u k<=400/\wiW w u k<=400:=λu Z k=>by
  rw [<- VX,<- Yz];have:=Z (endR w k);have:=Z (begR w k);omega
 have a3:zL (.tp [0,1,2]) jb (jx (za (sIx (zf 0) (zh (.int 0))) (za (zn F_tables_joined (za (sIx (zf 0) (zh (.int 1))) (za (sIx (zf 1) (zh (.int 1))) (za (zc 2) zu)))) zu))) [Cell.no,Cell.no,Cell.no] ((zi2 m).map λk=>D.tup [qf w wd T k,qf w wd' T' k,jI (hiW w wd k) (wiW w wd' k) λ_ _=>0])=some (jS m w (λk=>wd k+wd' k) λk=>kG (hiW w wd k) (wiW w wd k) (T k) (T' k)):=by
  unfold jS;refine zo _ _ λk hk=>zq rfl rfl ?_;have j:=VM (h:=hiW w wd k) (w:=wiW w wd k) (h':=hiW w wd' k) (w':=wiW w wd' k) (T k) (T' k) (λ_ _=>0) (I wd S k).1 (I wd S k).2 (I wd' U k).1 (I wd' U k).2;rw [zaW]at j;have a0:je (qf w wd T k)=some (.T,[.str (qm (wch (w k))),jI (hiW w wd k) (wiW w wd k) (T k)]):=rfl;have a1:je (qf w wd' T' k)=some (.T,[.str (qm (wch (w k))),jI (hiW w wd' k) (wiW w wd' k) (T' k)]):=rfl;have O:ixD 2 0=some 0:=rfl;have i1:ixD 2 1=some 1:=rfl;show jx _ [Cell.val (qf w wd T k),Cell.val (qf w wd' T' k),Cell.val (jI (hiW w wd k) (wiW w wd' k) λ_ _=>0)]=_;simp only [WD,j1,qG,kP,jQ,jJ,qA,qr,zi9,zja,zjv,zjX,zki,zlC,zE,zW,zi7,zjt,a0,a1,jG,O,i1,j,zec,l2,if_true];unfold qf;rw [zdz,zcv]
 have s1:(zU 3 (zn F_widths_together (za (zc 0) (za (zc 1) zu)))) (zP 5 [zT p m w wd T,zT p m w wd' T',noJ m w wd wd'])=some (.next [.val (zT p m w wd T),.val (zT p m w wd' T'),.val (noJ m w wd wd'),.val (Jr m wd wd'),.no]):=by
  show(((zn F_widths_together _) [.val (zT p m w wd T),.val (zT p m w wd' T'),.val (noJ m w wd wd'),.no,.no]).map _)=_;simp only [qr,j1,qG,jJ,zi9,zja,zE,zi7,zjt,tg];rfl
 have i2:ixD 3 2=some 2:=rfl;have s2:(zU 4 (jp (zD (YY (sIx (zf 0) (zh (.int 2))) (sIx (zf 1) (zh (.int 2))) (zc 2)) (.tp [0,1,2]) 3 [] jb (jx (za (sIx (zf 0) (zh (.int 0))) (za (zn F_tables_joined (za (sIx (zf 0) (zh (.int 1))) (za (sIx (zf 1) (zh (.int 1))) (za (zc 2) zu)))) zu)))))) [.val (zT p m w wd T),.val (zT p m w wd' T'),.val (noJ m w wd wd'),.val (Jr m wd wd'),.no]=some (.next [.val (zT p m w wd T),.val (zT p m w wd' T'),.val (noJ m w wd wd'),.val (Jr m wd wd'),.val (.lst (jS m w (λk=>wd k+wd' k) λk=>kG (hiW w wd k) (wiW w wd k) (T k) (T' k)))]):=by
  have z:Jt (jS m w wd T) (jS m w wd' T') (J0 m w wd wd' λ_ _ _=>0)=(zi2 m).map λk=>D.tup [qf w wd T k,qf w wd' T' k,jI (hiW w wd k) (wiW w wd' k) λ_ _=>0]:=by
   unfold Jt jS J0;rw [zkO,zkO,zjW];rfl
  have src:YY (sIx (zf 0) (zh (.int 2))) (sIx (zf 1) (zh (.int 2))) (zc 2) [.val (zT p m w wd T),.val (zT p m w wd' T'),.val (noJ m w wd wd'),.val (Jr m wd wd'),.no]=some ((zi2 m).map λk=>D.tup [qf w wd T k,qf w wd' T' k,jI (hiW w wd k) (wiW w wd' k) λ_ _=>0]):=by
   rw [<- z];simp only [zd2,kP,jQ,jJ,qA,zi9,zja,zjv,zjX,zki,zlC,zW,zE,zi7,zjt,Y,x1,jG,i2,yV,Qn]
  have hz:((zi2 m).map λk=>D.tup [qf w wd T k,qf w wd' T' k,jI (hiW w wd k) (wiW w wd' k) λ_ _=>0]).length<=lim:=by simpa using a2
  show((zD _ _ _ _ _ _ [.val (zT p m w wd T),.val (zT p m w wd' T'),.val (noJ m w wd wd'),.val (Jr m wd wd'),.no]).map D.lst).map _=_;rw [qD,src];simp only [zi7];rw [if_pos hz,show jd 3 [] [.val (zT p m w wd T),.val (zT p m w wd' T'),.val (noJ m w wd wd'),.val (Jr m wd wd'),.no]=[Cell.no,Cell.no,Cell.no]from rfl,a3];rfl
 have s3:(j3 (jx (za (sIx (zf 0) (zh (.int 0))) (za (zc 3) (za (zO (zf 4)) zu))))) [.val (zT p m w wd T),.val (zT p m w wd' T'),.val (noJ m w wd wd'),.val (Jr m wd wd'),.val (.lst (jS m w (λk=>wd k+wd' k) λk=>kG (hiW w wd k) (wiW w wd k) (T k) (T' k)))]=some (.ret (.val (zf7 p m w wd wd' T T'))):=by
  have O:ixD 3 0=some 0:=rfl;simp only [Zx,WD,j1,qG,kP,jQ,jJ,qA,Zv,zi9,zja,zjv,zjX,zki,zlC,zW,zE,zi7,zjt,Y,jG,O,Qn,l3,if_true];rfl
 exact jK (zA s1 (zA s2 s3))
theorem zdl(hm:m<=900)(S : ∀k,wd k<=400)(U : ∀k,wd' k<=400):(za (zc 0) (za (zc 1) (za (jp (zD (wK (sIx (zf 0) (zh (.int 2))) (sIx (zf 1) (zh (.int 2)))) (.tp [0,1]) 2 [] jb (zn F_no_join (za (sIx (zf 0) (zh (.int 1))) (za (sIx (zf 1) (zh (.int 1))) zu))))) zu))) [.val (zT p m w wd T),.val (zT p m w wd' T')]=some [zT p m w wd T,zT p m w wd' T',noJ m w wd wd']:=by
 have hl:=z9;have Y:m<=lim:=by omega
 have Z:=xv p m w wd T;have x1:=xv p m w wd' T';have I : ∀(u:Nat->Nat),(∀k,u k<=400)->∀k,hiW w u k<=400/\wiW w u k<=400:=λu O k=>by
  rw [<- VX,<- Yz];have:=O (endR w k);have:=O (begR w k);omega
 have i2:ixD 3 2=some 2:=rfl;have a2:zL (.tp [0,1]) jb (zn F_no_join (za (sIx (zf 0) (zh (.int 1))) (za (sIx (zf 1) (zh (.int 1))) zu))) [Cell.no,Cell.no] ((zi2 m).map λk=>D.tup [qf w wd T k,qf w wd' T' k])=some (J0 m w wd wd' λ_ _ _=>0):=by
  unfold J0;refine zo _ _ λk hk=>zq rfl rfl ?_;have a0:je (qf w wd T k)=some (.T,[.str (qm (wch (w k))),jI (hiW w wd k) (wiW w wd k) (T k)]):=rfl;have a1:je (qf w wd' T' k)=some (.T,[.str (qm (wch (w k))),jI (hiW w wd' k) (wiW w wd' k) (T' k)]):=rfl;have i1:ixD 2 1=some 1:=rfl;have nj:F_no_join [jI (hiW w wd k) (wiW w wd k) (T k),jI (hiW w wd' k) (wiW w wd' k) (T' k)]=some (.val (jI (hiW w wd k) (wiW w wd' k) λ_ _=>0)):=by
   have b1:hiW w wd k<=lim:=by have:=(I wd S k).1;omega
   have b2:wiW w wd' k<=lim:=by have:=(I wd' U k).2;omega
   have y0 : ∀(h w:Nat) (f:Nat->Nat->Int),je (jI h w f)=some (.T,[.int h,.int w,.tup (zN h w f)]):=λ_ _ _=>rfl;simp [F_no_join,ja,zP,y0,wH b1 b2]
  show zn _ _ [Cell.val (qf w wd T k),Cell.val (qf w wd' T' k)]=_;simp only [j1,qG,kP,jQ,jJ,qA,qr,zi9,zja,zjv,zjX,zki,zlC,zE,zW,zi7,zjt,a0,a1,jG,i1,nj,zec]
 have z:yC (jS m w wd T) (jS m w wd' T')=(zi2 m).map λk=>D.tup [qf w wd T k,qf w wd' T' k]:=by
  unfold yC jS;rw [zkO];simp
 have hz:((zi2 m).map λk=>D.tup [qf w wd T k,qf w wd' T' k]).length<=lim:=by simpa using Y
 simp only [j1,qG,jJ,wC,qD,zcj,kP,jQ,qA,zi9,zja,zjv,zjX,zki,zlC,zE,zW,zi7,zjt,Z,x1,jG,i2,yV,z,hz,if_true];rw [show jd 2 [] [.val (zT p m w wd T),.val (zT p m w wd' T')]=[Cell.no,Cell.no]from rfl,a2];rfl
theorem zbn(hm:m<=900)(z : ∀k,wd k<=400)(I : ∀k,wd' k<=400) :
 (sumTo (λk=>(wd k:Int)) (m+1)+sumTo (λk=>(wd' k:Int)) (m+1)<=30->F_beside [zT p m w wd T,zT p m w wd' T']=some (.val (zf7 p m w wd wd' T T'))/\vJ [zT p m w wd T,zT p m w wd' T']=none)/\
 (¬sumTo (λk=>(wd k:Int)) (m+1)+sumTo (λk=>(wd' k:Int)) (m+1)<=30->vJ [zT p m w wd T,zT p m w wd' T']=some ((("TooMany" : Str),none):Xn)):=by
 obtain⟨Y,Z⟩:=WA (p:=p) (w:=w) (wd:=wd) (wd':=wd') (T:=T) (T':=T') hm;have e0:zP 2 [zT p m w wd T,zT p m w wd' T']=[.val (zT p m w wd T),.val (zT p m w wd' T')]:=rfl;have O:=zdl (p:=p) (w:=w) (T:=T) (T':=T') hm z I;have S:(za (zc 0) (za (zc 1) zu)) [.val (zT p m w wd T),.val (zT p m w wd' T')]=some [zT p m w wd T,zT p m w wd' T']:=rfl;have s1:(QB (zn F_ask_one_kind (za (zc 0) (za (zc 1) zu)))) [.val (zT p m w wd T),.val (zT p m w wd' T')]=some (.next [.val (zT p m w wd T),.val (zT p m w wd' T')]):=by
  simp only [WH,qr,S,zi7,zjt,Z]
 have gj:Jm [zT p m w wd T,zT p m w wd' T',noJ m w wd wd']=jn [zT p m w wd T,zT p m w wd' T']:=rfl;have U:vJ [zT p m w wd T,zT p m w wd' T']=jn [zT p m w wd T,zT p m w wd' T']:=by
  unfold vJ QC;rw [e0,Xf];have:yc qv (za (zc 0) (za (zc 1) zu)) [.val (zT p m w wd T),.val (zT p m w wd' T')]=none:=by
   unfold yc;rw [S];exact Y
  rw [this,s1];show(yc Jm _) [.val (zT p m w wd T),.val (zT p m w wd' T')]=_;unfold yc;rw [O];exact gj
 refine⟨λh=>⟨?_,?_⟩,λh=>?_⟩
 ·have j:=VL (p:=p) (w:=w) (T:=T) (T':=T') hm z I ⋯
  have s2:(j3 (zn F_joined (za (zc 0) (za (zc 1) (za (jp (zD (wK (sIx (zf 0) (zh (.int 2))) (sIx (zf 1) (zh (.int 2)))) (.tp [0,1]) 2 [] jb (zn F_no_join (za (sIx (zf 0) (zh (.int 1))) (za (sIx (zf 1) (zh (.int 1))) zu))))) zu))))) [.val (zT p m w wd T),.val (zT p m w wd' T')]=some (.ret (.val (zf7 p m w wd wd' T T'))):=by
   rw [Zx,qr,O];simp [j]
  exact jK (zA s1 s2)
 ·rw [U];exact(zbD hm ⋯).2
 ·rw [U];exact W2 hm ⋯
end
section
variable{p:Int}{n n':Nat}
def Yn(n s:Nat)(B B':Nat->Vc):Nat->Vc:=λk=>if k<s then jv n (B k) (λ_=>0)else jv n (λ_=>0) (B' (k - s))
def zeh(n s:Nat)(l l':Nat->Nat):Nat->Nat:=λk=>if k<s then l k else n+l' (k - s)
theorem Wy{s s':Nat}{B B':Nat->Vc}{l l':Nat->Nat}(h:IsB p n s B l)(h':IsB p n' s' B' l')(Z:0<p):IsB p (n+n') (s+s') (Yn n s B B') (zeh n s l l') where
 lt:=λk S=>by
  unfold zeh;split
  ·next q=>have:=h.lt k q;omega
  ·next q=>have:=h'.lt (k - s) ⋯;omega
 mono:=λk m S hm=>by
  unfold zeh;by_cases O:k<s
  ·rw [if_pos O]
   by_cases I:m<s
   ·rw [if_pos I];exact h.mono k m S I
   ·rw [if_neg I];have:=h.lt k O;omega
  ·rw [if_neg O,if_neg ⋯]
   have:=h'.mono (k - s) (m - s) ⋯ ⋯;omega
 one:=λk S=>by
  unfold zeh Yn;by_cases q:k<s
  ·rw [if_pos q,if_pos q,zK (h.lt k q)];exact h.one k q
  ·rw [if_neg q,if_neg q,zQ];exact h'.one (k - s) ⋯
 bef:=λk j S U=>by
  unfold zeh at U;unfold Yn;by_cases q:k<s
  ·rw [if_pos q]at U
   rw [if_pos q,zK (by have:=h.lt k q;omega)];exact h.bef k j q U
  ·rw [if_neg q]at U
   rw [if_neg q];rcases zjl j n with z | z
   ·rw [zK z]
   ·obtain⟨c,rfl⟩ : ∃c,j=n+c:=⟨j - n,by omega⟩
    rw [zQ];exact h'.bef (k - s) c ⋯ ⋯
 oth:=λk m S hm Y=>by
  unfold zeh Yn;by_cases O:k<s
  ·rw [if_pos O]
   by_cases I:m<s
   ·rw [if_pos I,zK (h.lt m I)];exact h.oth k m O I Y
   ·rw [if_neg I,zQ]
  ·rw [if_neg O]
   by_cases I:m<s
   ·rw [if_pos I,zK (h.lt m I)]
   ·rw [if_neg I,zQ];exact h'.oth (k - s) (m - s) ⋯ ⋯ ⋯
 rng:=λk i S hi=>by
  unfold Yn;by_cases q:k<s
  ·rw [if_pos q]
   rcases zjl i n with z | z
   ·rw [zK z];exact h.rng k i q z
   ·obtain⟨c,rfl⟩ : ∃c,i=n+c:=⟨i - n,by omega⟩
    rw [zQ];omega
  ·rw [if_neg q]
   rcases zjl i n with z | z
   ·rw [zK z];omega
   ·obtain⟨c,rfl⟩ : ∃c,i=n+c:=⟨i - n,by omega⟩
    rw [zQ];exact h'.rng (k - s) c ⋯ ⋯
theorem Kl{s s':Nat}{B B':Nat->Vc}(u:Vc):Span p (n+n') (Fam (s+s') (Yn n s B B')) u↔Span p n (Fam s B) u/\Span p n' (Fam s' B') λi=>u (n+i):=by
 constructor
 ·intro h
  constructor
  ·refine(h.map (n':=n) (G':=Fam s B) (λi=>i) (λi hi=>by omega) λg O=>?_)
   obtain⟨k,I,rfl⟩:=O;unfold Yn;split
   ·next q=>exact(Span.gen (g:=B k) ⟨k,q,rfl⟩).congr λi hi=>by rw [zK hi]
   ·exact .zero λi hi=>by rw [zK hi];simp
  ·refine(h.map (n':=n') (G':=Fam s' B') (λi=>n+i) (λi hi=>by omega) λg O=>?_)
   obtain⟨k,I,rfl⟩:=O;unfold Yn;split
   ·exact .zero λi hi=>by rw [zQ];simp
   ·next q=>exact(Span.gen (g:=B' (k - s)) ⟨k - s,by omega,rfl⟩).congr λi hi=>by rw [zQ]
 ·rintro⟨h1,h2⟩
  obtain⟨t,Y⟩:=xP h1;obtain⟨t',Z⟩:=xP h2;refine(vo (n:=n+n') (m:=s+s') (Yn n s B B') λk=>if k<s then t k else t' (k - s)).congr λi hi=>?_;rw [xq];have e1:sumTo (λk=>(if k<s then t k else t' (k - s))*Yn n s B B' k i) s=sumTo (λk=>t k*jv n (B k) (λ_=>0) i) s:=zw λk I=>by unfold Yn;rw [if_pos I,if_pos I]
  have e2:sumTo (λk=>(if s+k<s then t (s+k)else t' (s+k - s))*Yn n s B B' (s+k) i) s'=sumTo (λk=>t' k*jv n (λ_=>0) (B' k) i) s':=zw λk I=>by unfold Yn;rw [if_neg ⋯,if_neg ⋯,zjs]
  rw [e1,e2];rcases zjl i n with z | z
  ·have S:sumTo (λk=>t' k*jv n (λ_=>0) (B' k) i) s'=sumTo (λ_=>0) s':=zw λk _=>by rw [zK z];simp
   have U:sumTo (λk=>t k*jv n (B k) (λ_=>0) i) s=sumTo (λk=>t k*B k i) s:=zw λk _=>by rw [zK z]
   rw [S,U,zF,zmr];exact Y i z
  ·obtain⟨c,rfl⟩ : ∃c,i=n+c:=⟨i - n,by omega⟩
   have S:sumTo (λk=>t k*jv n (B k) (λ_=>0) (n+c)) s=sumTo (λ_=>0) s:=zw λk _=>by rw [zQ];simp
   have U:sumTo (λk=>t' k*jv n (λ_=>0) (B' k) (n+c)) s'=sumTo (λk=>t' k*B' k c) s':=zw λk _=>by rw [zQ]
   rw [S,U,zF,Int.zero_add];exact Z c ⋯
end
theorem xk{h c I:Nat}{f g:Nat->Nat->Int}(z:Vc)(i:Nat):app (kG h c f g) (c+I) z i=if i<h then app f c z i else app g I (λj=>z (c+j)) (i - h):=by
 unfold app;rw [xq];unfold kG;by_cases q:i<h
 ·have e1:sumTo (λj=>(if i<h then jv c (f i) (λ_=>0)else jv c (λ_=>0) (g (i - h))) j*z j) c=sumTo (λj=>f i j*z j) c:=zw λj O=>by rw [if_pos q,zK O]
  have S:sumTo (λj=>(if i<h then jv c (f i) (λ_=>0)else jv c (λ_=>0) (g (i - h))) (c+j)*z (c+j)) I=sumTo (λ_=>0) I:=zw λj O=>by rw [if_pos q,zQ];simp
  rw [e1,S,zF,zmr,if_pos q]
 ·have e1:sumTo (λj=>(if i<h then jv c (f i) (λ_=>0)else jv c (λ_=>0) (g (i - h))) j*z j) c=sumTo (λ_=>0) c:=zw λj O=>by rw [if_neg q,zK O];simp
  have S:sumTo (λj=>(if i<h then jv c (f i) (λ_=>0)else jv c (λ_=>0) (g (i - h))) (c+j)*z (c+j)) I=sumTo (λj=>g (i - h) j*z (c+j)) I:=zw λj O=>by rw [if_neg q,zQ]
  rw [e1,S,zF,Int.zero_add,if_neg q]
section
variable{p:Int}{w:Nat->Bool}{wd wd':Nat->Nat}{T T':Nat->Nat->Nat->Int}{m N N' N2:Nat}{A A' A2:Nat->Bar}
def zci(w:Nat->Bool)(wd:Nat->Nat)(T T':Nat->Nat->Nat->Int):Nat->Nat->Nat->Int:=λk=>kG (hiW w wd k) (wiW w wd k) (T k) (T' k)
theorem vM{a b:Nat}{u v:Vc}:(∀i,i<a+b->u i%p=v i%p)↔(∀i,i<a->u i%p=v i%p)/\∀i,i<b->u (a+i)%p=v (a+i)%p:=
 ⟨λh=>⟨λi hi=>h i ⋯,λi hi=>h (a+i) ⋯⟩,λh i hi=>by
  rcases zjl i a with z | z
  ·exact h.1 i z
  ·obtain⟨c,rfl⟩ : ∃c,i=a+c:=⟨i - a,by omega⟩
   exact h.2 c ⋯⟩
theorem lk_bes{k:Nat}{y z:Vc}:Lk p w (λk=>wd k+wd' k) (zci w wd T T') k y z↔Lk p w wd T k y z/\Lk p w wd' T' k (λi=>y (wd k+i)) λi=>z (wd (k+1)+i):=by
 unfold Lk zci;cases hw:w k with
 | true=>
  have I:wiW w wd k=wd (k+1):=by unfold wiW;rw [hw];rfl
  have O:hiW w wd k=wd k:=by unfold hiW;rw [hw];rfl
  rw [I,O,if_pos rfl,if_pos rfl,if_pos rfl,vM];refine and_congr ⟨λh i hi=>?_,λh i hi=>?_⟩ ⟨λh i hi=>?_,λh i hi=>?_⟩
  ·have:=h i hi;rw [xk,if_pos hi]at this;exact this
  ·rw [xk,if_pos hi];exact h i hi
  ·have:=h i hi;rw [xk,if_neg ⋯,zjs]at this;exact this
  ·rw [xk,if_neg ⋯,zjs];exact h i hi
 | false=>
  have I:wiW w wd k=wd k:=by unfold wiW;rw [hw];rfl
  have O:hiW w wd k=wd (k+1):=by unfold hiW;rw [hw];rfl
  rw [I,O,if_neg zjj,if_neg zjj,if_neg zjj,vM];refine and_congr ⟨λh i hi=>?_,λh i hi=>?_⟩ ⟨λh i hi=>?_,λh i hi=>?_⟩
  ·have:=h i hi;rw [xk,if_pos hi]at this;exact this
  ·rw [xk,if_pos hi];exact h i hi
  ·have:=h i hi;rw [xk,if_neg ⋯,zjs]at this;exact this
  ·rw [xk,if_neg ⋯,zjs];exact h i hi
theorem zh9{k:Nat}{y I z:Vc}(h:Lk p w wd T k y z)(O : ∀i,i<wd k->I i%p=y i%p):Lk p w wd T k I z:=by
 unfold Lk at *;split
 ·next hw=>rw [if_pos hw]at h;intro i hi;rw [O i hi,h i hi]
 ·next hw=>rw [if_neg hw]at h;intro i hi;rw [h i hi];exact(jT O i).symm
theorem Ju(d:Nat) : ∀(n:Nat) {u z:Vc},Wk p w (λk=>wd k+wd' k) (zci w wd T T') d n u z↔Wk p w wd T d n u z/\Wk p w wd' T' d n (λi=>u (wd d+i)) λi=>z (wd (d+n)+i)
 | 0,u,z=>vM
 | n+1,u,z=>by
  constructor
  ·rintro⟨y,h1,h2⟩
   obtain⟨O,S⟩:=(Ju d n).mp h1;obtain⟨b1,b2⟩:=lk_bes.mp h2;exact⟨⟨y,O,b1⟩,⟨_,S,b2⟩⟩
  ·rintro⟨⟨y,O,b1⟩,⟨I,S,b2⟩⟩
   refine⟨jv (wd (d+n)) y I,(Ju d n).mpr ⟨zd6 O λi hi=>by rw [zK hi],?_⟩,lk_bes.mpr ⟨zh9 b1 λi hi=>by rw [zK hi],?_⟩⟩
   ·rw [show(λi=>jv (wd (d+n)) y I (wd (d+n)+i))=I from funext λi=>zQ i]
    exact S
   ·rw [show(λi=>jv (wd (d+n)) y I (wd (d+n)+i))=I from funext λi=>zQ i]
    exact b2
theorem zf6(I:Pr p)(h2 : ∀k,wd k<=2)(Y : ∀k,wd' k<=2)(hT : ∀k x y,0<=T k x y/\T k x y<p)(af : ∀k x y,0<=T' k x y/\T' k x y<p)(hm:m<=20)(D:Decp p w wd T m N A)(Z:Decp p w wd' T' m N' A')(D2:Decp p w (λk=>wd k+wd' k) (zci w wd T T') m N2 A2){a b:Nat}(O:a<=b)(hb:b<=m) :
 cvZ (y6 A2 N2) a b=cvZ (y6 A N) a b+cvZ (y6 A' N') a b:=by
 have w4 : ∀k,wd k<=4:=λk=>by have:=h2 k;omega
 have a3 : ∀k,wd' k<=4:=λk=>by have:=Y k;omega
 obtain⟨s,q,B,B2,l,l2,_,f1,f2,f3,f4⟩:=Z0 (w:=w) I w4 hT hm O hb;obtain⟨s',q',C,C2,l',ak,_,g1,g2,g3,g4⟩:=Z0 (w:=w) I a3 af hm O hb;have k1:=kC I D (n:=b - a) ⋯ (w4 a) f1 f2 f3 f4;have k2:=kC I Z (n:=b - a) ⋯ (a3 a) g1 g2 g3 g4;have k3:=kC I D2 (d:=a) (n:=b - a) ⋯ (show wd a+wd' a<=4 by have:=h2 a;have:=Y a;omega) (Wy f1 g1 I.pos) (λu=>by
  rw [Kl,f2,g2];constructor
  ·rintro⟨⟨z,S⟩,⟨U,ag⟩⟩
   refine⟨jv (wd (a+(b - a))) z U,(Ju a (b - a)).mpr ⟨zd6 S λi hi=>by rw [zK hi],?_⟩⟩;rw [show(λi=>jv (wd (a+(b - a))) z U (wd (a+(b - a))+i))=U from funext λi=>zQ i];exact ag
  ·rintro⟨z,S⟩
   obtain⟨x1,x2⟩:=(Ju a (b - a)).mp S;exact⟨⟨z,x1⟩,⟨_,x2⟩⟩) (Wy f3 g3 I.pos) λu=>by
  rw [Kl,f4,g4];exact(Ju a (b - a)).symm
 rw [show a+(b - a)=b by omega]at k1 k2 k3;rw [Zs D O]at k1;rw [Zs Z O]at k2;rw [Zs D2 O]at k3;omega
theorem zdN(K z:List (Nat×Nat))(a b:Int):cvZ (K++z) a b=cvZ K a b+cvZ z a b:=zlP ..
theorem zdn(K z:List (Nat×Nat))(s:Nat×Nat):muZ (K++z) s=muZ K s+muZ z s:=zlP ..
theorem zf5(S:Pr p)(h2 : ∀k,wd k<=2)(U : ∀k,wd' k<=2)(Y : ∀k x y,0<=T k x y/\T k x y<p)(Z : ∀k x y,0<=T' k x y/\T' k x y<p)(hm:m<=20)(D:Decp p w wd T m N A)(I:Decp p w wd' T' m N' A')(O:Decp p w (λk=>wd k+wd' k) (zci w wd T T') m N2 A2){s:Nat×Nat}(hs:s.1<=s.2) :
 muZ (y6 A2 N2) s=muZ (y6 A N) s+muZ (y6 A' N') s:=by
 rw [<- zdn];refine XS (M:=m+1) (yN O) (λx hx=>?_) (λa b a1 hb=>?_) hs
 ·rcases zkH.mp hx with z | z
  ·exact yN D x z
  ·exact yN I x z
 ·rw [zdN]
  exact zf6 S h2 U Y Z hm D I O a1 ⋯
theorem zf2(O:Pr p)(S : ∀k,wd k<=4)(U : ∀k x y,0<=T k x y/\T k x y<p)(hm:m<=20)(D:Decp p w wd T m N A){i e:Nat}(he:i+e<=m)(z:Decp p (λk=>w (i+k)) (λk=>wd (i+k)) (λk=>T (i+k)) e N' A'){s:Nat×Nat}(Y:s.1<=s.2) :
 muZ (y6 A' N') s=muZ (((y6 A N).filter (wg i (i+e))).map (kO i (i+e))) s:=by
 refine XS (M:=e+1) (yN z) zdR (λa b I Z=>?_) Y;rw [zdS I ⋯,zcg O S U hm D he z I ⋯]
end
theorem X6(I:Nat×Nat->List Int)(g:Nat×Nat->Int) : ∀{L:List (Nat×Nat)} {t:Nat×Nat},(∀x∈L,I x=I t->x=t)->t∈L->V2 (L.map I) (L.map g) (I t)=some (g t)
 | x::L,t,inj,h=>by
  show(if I x=I t then _ else _)=_;by_cases e:I x=I t
  ·rw [if_pos e,inj x zju e]
  ·rw [if_neg e]
   refine X6 I g (λy O=>inj y (zjk _ O)) ?_;rcases zjm.mp h with z | z
   ·exact absurd (by rw [z]) e
   ·exact z
theorem Z1(g:Nat×Nat->Int) : ∀L:List (Nat×Nat),yO (L.map λs=>D.int (g s))=some (L.map g)
 | []=>rfl
 | s::L=>by
  show(yO (L.map λs=>D.int (g s))).map _=_;rw [Z1 g L];rfl
theorem zdG{M:Nat}(f g:Nat×Nat->Int)(z:Nat×Nat->List Int)(h : ∀s,s∈stN M->V2 ((stN M).map z) ((stN M).map g) (kI s)=some (f s)):zeg (jw f M) (.dct ((stN M).map z) ((stN M).map λs=> .int (g s)))=some true:=by
 show(yO _).bind _=_;rw [Z1 f];show(yO _).map _=_;rw [Z1 g];show some (eqT _ _ _ _)=_;congr 1;unfold eqT;rw [decide_eq_true ⋯,zmG,zkq];intro x hx;rw [zkO]at hx;obtain⟨s,I,rfl⟩:=zjx.mp hx;exact decide_eq_true (h s I)
def F_law_left:List D->Option Res:=ja 7 (zI (zgj 3 (XE (Ys 3 (zX (zv jj (zv xC (zc 2) (zc 1)) (zh (.int 1)))) (.nm 4) (Ys 3 (qQ (zc 4) (zv jj (zv xC (zc 2) (zc 1)) (zh (.int 1)))) (.nm 5) (zha (jx (za (zc 4) (za (zc 5) zu))) (zh (.int 0))))) (XE (Ys 3 (wP (zc 0)) (.nm 6) (XE (WQ 3 4 (zv xC (KJ (sIx (zf 6) (zh (.int 0))) (zc 1)) (zc 1))) (XE (WQ 3 5 (zv xC (Qy (sIx (zf 6) (zh (.int 1))) (zc 2)) (zc 1))) (qIf (sB (zv dLe (zc 4) (zc 5))) (zed (jx (za (zc 4) (za (zc 5) zu))) (qY (zc 0) (zc 6))))))) zeT))) (k5 3))
def F_law_k26:List D->Option Res:=ja 14 (zI (zU 1 (zn F_law_cell (za (zc 0) (za (zh (.int 0)) zu)))) (zI (zU 2 (sIx (jy (qB (za (zh (.int 2)) (za (zh (.int 3)) (za (zh (.int 5)) (za (zh (.int 7)) zu)))))) (zv qL (zc 1) (zh (.int 4))))) (zI (zU 3 (zv jj (zh (.int 1)) (zv qL (zv Qb (zc 1) (zh (.int 4))) (zh (.int 5))))) (zI (zU 4 (zn F_law_ways_k22 (za (zv Qb (zc 1) (zh (.int 32))) (za (zc 3) zu)))) (zI (zU 5 (zn F_law_drawn_k22 (za (zc 0) (za (zh (.int 2)) (za (zc 2) (za (zc 4) (za (zh (.int 2)) zu))))))) (zI (zU 6 (zn F_law_drawn_k22 (za (zc 0) (za (zh (.int 130)) (za (zc 2) (za (zc 4) (za (zh (.int 2)) zu))))))) (zI (zU 7 (zn F_numbers (za (zc 5) zu))) (zI (zU 8 (zn F_numbers (za (zc 6) zu))) (zI (zU 9 (zn F_numbers (za (zn F_beside (za (zc 5) (za (zc 6) zu))) zu))) (zI (zU 10 (jp (zD (wP (zc 7)) (.nm 0) 1 [7,8,9] jb (zv dEq (qY (zc 3) (zc 0)) (zv jj (qY (zc 1) (zc 0)) (qY (zc 2) (zc 0))))))) (zI (sIf (zad (sB (zv dNe (KK (zc 9)) (KK (zc 7)))) (qk (sB (zah (zf 10))))) (j3 (zh (.bl false))) j9) (zI (zU 11 (zv qL (zn F_law_cell (za (zc 0) (za (zh (.int 1)) zu))) (zc 3))) (zI (zU 12 (zv jj (zc 11) (zv qL (zv Qb (zn F_law_cell (za (zc 0) (za (zh (.int 1)) zu))) (zh (.int 7))) (zv xC (zc 3) (zc 11))))) (zI (zU 13 (zn F_cut (za (zc 5) (za (zc 11) (za (zc 12) zu))))) (zI (sIf (sB (zv zgE (zn F_numbers (za (zc 13) zu)) (zn F_law_left (za (zc 7) (za (zc 11) (za (zc 12) zu)))))) (j3 (zh (.bl false))) j9) (j3 (zah (jy (zD (zX (zv jj (zv xC (zc 12) (zc 11)) (zh (.int 1)))) (.nm 0) 1 [5,11,13] jb (zv dEq (zn F_kept (za (zc 3) (za (zh (.int 0)) (za (zc 0) zu)))) (zn F_kept (za (zc 1) (za (zc 2) (za (zv jj (zc 2) (zc 0)) zu))))))))))))))))))))))))
def zaU:CO D:=zv jj (zv xC (zc 2) (zc 1)) (zh (.int 1))
def zfD:CO D:=jx (za (zc 4) (za (zc 5) zu))
def zgA:XF:=zha zfD (zh (.int 0))
def lIn:XF:=Ys 3 (qQ (zc 4) zaU) (.nm 5) zgA
def JY:XF:=XE (WQ 3 4 (zv xC (KJ (sIx (zf 6) (zh (.int 0))) (zc 1)) (zc 1))) (XE (WQ 3 5 (zv xC (Qy (sIx (zf 6) (zh (.int 1))) (zc 2)) (zc 1))) (qIf (sB (zv dLe (zc 4) (zc 5))) (zed zfD (qY (zc 0) (zc 6)))))
theorem zaS:F_law_left=ja 7 (zI (zgj 3 (XE (Ys 3 (zX zaU) (.nm 4) lIn) (XE (Ys 3 (wP (zc 0)) (.nm 6) JY) zeT))) (k5 3)):=rfl
theorem JL{k:List Int}{v:D} : ∀{ks:List (List Int)} {vs:List D},ks.length=vs.length->k∉ks->vh ks vs k v=vs++[v]
 | [],[],_,_=>rfl
 | k'::ks,v'::vs,h,hn=>by
  show(if k'=k then _ else _)=_;rw [if_neg λz=>hn (by rw [z];exact zju),JL (by simpa using h) λz=>hn (zjk _ z)];rfl
theorem JM(h:Nat×Nat->Int){v:Int} : ∀{P:List (Nat×Nat)} {s:Nat×Nat},P.Nodup->s∈P->vh (P.map kI) (P.map λt=>D.int (h t)) (kI s) (.int v)=P.map λt=> .int (if t=s then v else h t)
 | x::P,s,nd,hs=>by
  have I:=zkp.mp nd;show(if kI x=kI s then _ else _)=_;by_cases e:x=s
  ·subst e
   rw [if_pos rfl,zjw,if_pos rfl];congr 1;exact zjg λt O=>by rw [if_neg λz=>I.1 (by rw [<- z];exact O)]
  ·rw [if_neg λz=>e (X3 z),zjw,if_neg e]
   show _::vh (P.map kI) (P.map λt=>D.int (h t)) (kI s) (.int v)=_;rw [JM h I.2 (by rcases zjm.mp hs with z | z;exact absurd z.symm e;exact z)]
theorem kI_mem{P:List (Nat×Nat)}{s:Nat×Nat}:kI s∈P.map kI↔s∈P:=⟨λh=>by
 obtain⟨t,z,e⟩:=zjx.mp h;rw [<- X3 e];exact z,λh=>zjx.mpr ⟨s,h,rfl⟩⟩
section
variable{F:D}{i e:Nat}
def cxL(F:D)(i e:Nat)(c4 c5 c6:Cell):Ctx:=[.val F,.val (.int i),.val (.int ((i:Int)+(e:Int))),.no,c4,c5,c6]
theorem VE{a:Nat}{c6:Cell} : ∀(L:List Nat) (P:List (Nat×Nat)) (c5:Cell),(∀b∈L,(a,b)∉P)->L.Nodup->P.length+L.length<=100->
 ∃I,xy (.nm 5) zgA (L.map λ(b:Nat)=>D.int b) (cxL F i e (.val (.int a)) c5 c6) (P.map kI) (P.map λ_=>D.int 0)=some (cxL F i e (.val (.int a)) I c6,(P++L.map λb=>(a,b)).map kI,(P++L.map λb=>(a,b)).map λ_=>D.int 0)
 | [],P,c5,_,_,_=>⟨c5,by simp [xy]⟩
 | b::L,P,c5,h1,nd,hl=>by
  have a1:=z9;have O:=zkp.mp nd;have Y:=h1 b zju;rw [zjv]at hl;obtain⟨I,Z⟩:=VE (c6:=c6) L (P++[(a,b)]) (.val (.int b)) (λb' S z=>by
   rcases zkH.mp z with z | z
   ·exact h1 b' (zjk _ S) z
   ·have:=(Prod.mk.inj (zlh.mp z)).2
    exact O.1 (this ▸ S)) O.2 (by rw [zjY];simp;omega)
  refine⟨I,?_⟩;show(zgA (cxL F i e (.val (.int a)) (.val (.int b)) c6) (P.map kI) (P.map λ_=>D.int 0)).bind _=_;have ep:zgA (cxL F i e (.val (.int a)) (.val (.int b)) c6) (P.map kI) (P.map λ_=>D.int 0)=some (cxL F i e (.val (.int a)) (.val (.int b)) c6,(P++[(a,b)]).map kI,(P++[(a,b)]).map λ_=>D.int 0):=by
   show(if (P.map kI).length<lim then some (_,KP (P.map kI) (kI (a,b)),vh (P.map kI) (P.map λ_=>D.int 0) (kI (a,b)) (.int 0))else none)=_;have U:kI (a,b)∉P.map kI:=λz=>Y (kI_mem.mp z);rw [if_pos (by rw [zjh];omega),JL ⋯ U];unfold KP;rw [if_neg U];simp
  rw [ep,zi7,Z];simp
def zbO(e a:Nat):List (Nat×Nat):=(zkn a (e+1 - a)).map λb=>(a,b)
theorem XZ(c4 c5 c6:Cell):zaU (cxL F i e c4 c5 c6)=some (.int ((e+1:Nat):Int)):=by
 have:(i:Int)+(e:Int) - (i:Int)+1=((e+1:Nat):Int):=by omega
 show some (D.int ((i:Int)+(e:Int) - (i:Int)+1))=_;rw [this]
theorem XY(he:e<=5){c6:Cell} : ∀(L:List Nat) (P:List (Nat×Nat)) (c4 c5:Cell),(∀a∈L,a<=e/\∀s∈P,s.1≠a)->L.Nodup->P.length+L.length*6<=100->
 ∃O I,xy (.nm 4) lIn (L.map λ(b:Nat)=>D.int b) (cxL F i e c4 c5 c6) (P.map kI) (P.map λ_=>D.int 0)=some (cxL F i e O I c6,(P++L.flatMap (zbO e)).map kI,(P++L.flatMap (zbO e)).map λ_=>D.int 0)
 | [],P,c4,c5,_,_,_=>⟨c4,c5,by simp [xy]⟩
 | a::L,P,c4,c5,h1,nd,hl=>by
  have a4:=z9;have Y:=zkp.mp nd;obtain⟨ha,Z⟩:=h1 a zju;rw [zjv]at hl;have a5:(zbO e a).length<=6:=by unfold zbO;rw [zjh,List.length_range'];omega
  obtain⟨I,e1⟩:=VE (F:=F) (i:=i) (e:=e) (a:=a) (c6:=c6) (zkn a (e+1 - a)) P c5 (λb _ z=>Z _ z rfl) List.nodup_range' (by rw [List.length_range'];omega);obtain⟨O,a0,ih⟩:=XY he (c6:=c6) L (P++zbO e a) (.val (.int a)) I (λS U=>⟨(h1 S (zjk _ U)).1,λs hs=>by
   rcases zkH.mp hs with z | z
   ·exact(h1 S (zjk _ U)).2 s z
   ·obtain⟨b,_,rfl⟩:=zjx.mp z
    exact λq=>Y.1 (show a∈L from(show a=S from q) ▸ U)⟩) Y.2 (by rw [zjY];omega)
  refine⟨O,a0,?_⟩;show(lIn (cxL F i e (.val (.int a)) c5 c6) (P.map kI) (P.map λ_=>D.int 0)).bind _=_;have src:qQ (zc 4) zaU (cxL F i e (.val (.int a)) c5 c6)=some ((zkn a (e+1 - a)).map λ(b:Nat)=>D.int b):=by
   rw [WF,XZ];show(if inR (a:Int)=true/\inR ((e+1:Nat):Int)=true then some (qi a (((e+1:Nat):Int) - (a:Int)).toNat)else none)=_;rw [if_pos ⟨y9 ⋯ ⋯,y9 ⋯ ⋯⟩];congr 1;unfold qi;rw [show(((e+1:Nat):Int) - (a:Int)).toNat=e+1 - a by omega,List.range'_eq_map_range,zjW];exact zjg λx _=>by show D.int ((a:Int)+(x:Int))=D.int ((a+x:Nat):Int);congr 1
  have ei:lIn (cxL F i e (.val (.int a)) c5 c6) (P.map kI) (P.map λ_=>D.int 0)=some (cxL F i e (.val (.int a)) I c6,(P++zbO e a).map kI,(P++zbO e a).map λ_=>D.int 0):=by
   show(qQ (zc 4) zaU (cxL F i e (.val (.int a)) c5 c6)).bind _=_;rw [src];exact e1
  rw [ei,zi7,ih];simp
end
theorem zcT(e:Nat):(zi2 (e+1)).flatMap (zbO e)=stN (e+1):=rfl
section
variable{i e M:Nat}
def kK(i j:Nat)(g:Nat×Nat->Int)(s x:Nat×Nat):Int:=if (wg i j x && decide (kO i j x=s))=true then g x else 0
theorem VF(g h:Nat×Nat->Int)(he:e<=5){x:Nat×Nat}(hx:x∈stN M)(c4 c5:Cell) : ∃a0 a1,JY (cxL (jw g M) i e c4 c5 (.val (kD x))) ((stN (e+1)).map kI) ((stN (e+1)).map λs=> .int (h s))=some (cxL (jw g M) i e a0 a1 (.val (kD x)),(stN (e+1)).map kI,(stN (e+1)).map λs=> .int (h s+kK i (i+e) g s x)):=by
 have hl:=z9;obtain⟨n1,n2,n3⟩:=vv ⟨e+1,by omega⟩;dsimp only at n1 n2 n3;let I:Int:=(if (i:Int)>(x.1:Int)then (i:Int)else x.1) - i;let O:Int:=(if (i:Int)+e<(x.2:Int)then (i:Int)+e else x.2) - i;have s1:WQ 3 4 (zv xC (KJ (sIx (zf 6) (zh (.int 0))) (zc 1)) (zc 1)) (cxL (jw g M) i e c4 c5 (.val (kD x))) ((stN (e+1)).map kI) ((stN (e+1)).map λs=> .int (h s))=some (cxL (jw g M) i e (.val (.int I)) c5 (.val (kD x)),(stN (e+1)).map kI,(stN (e+1)).map λs=> .int (h s)):=rfl;have s2:WQ 3 5 (zv xC (Qy (sIx (zf 6) (zh (.int 1))) (zc 2)) (zc 1)) (cxL (jw g M) i e (.val (.int I)) c5 (.val (kD x))) ((stN (e+1)).map kI) ((stN (e+1)).map λs=> .int (h s))=some (cxL (jw g M) i e (.val (.int I)) (.val (.int O)) (.val (kD x)),(stN (e+1)).map kI,(stN (e+1)).map λs=> .int (h s)):=rfl;have e1:I=((max x.1 i - i:Nat):Int):=by
  show(if (i:Int)>(x.1:Int)then (i:Int)else x.1) - i=_;split<;>omega
 refine⟨.val (.int I),.val (.int O),?_⟩;have body:JY (cxL (jw g M) i e c4 c5 (.val (kD x))) ((stN (e+1)).map kI) ((stN (e+1)).map λs=> .int (h s))=(WQ 3 4 (zv xC (KJ (sIx (zf 6) (zh (.int 0))) (zc 1)) (zc 1)) (cxL (jw g M) i e c4 c5 (.val (kD x))) ((stN (e+1)).map kI) ((stN (e+1)).map λs=> .int (h s))).bind λr=>(WQ 3 5 (zv xC (Qy (sIx (zf 6) (zh (.int 1))) (zc 2)) (zc 1)) r.1 r.2.1 r.2.2).bind λr=>qIf (sB (zv dLe (zc 4) (zc 5))) (zed zfD (qY (zc 0) (zc 6))) r.1 r.2.1 r.2.2:=rfl;rw [body,s1,zi7,s2,zi7];show(if decide (I<=O)=true then zed zfD (qY (zc 0) (zc 6)) (cxL (jw g M) i e (.val (.int I)) (.val (.int O)) (.val (kD x))) ((stN (e+1)).map kI) ((stN (e+1)).map λs=> .int (h s))else some _)=_;by_cases hm:max x.1 i<=min x.2 (i+e)
 ·have Y:O=((min x.2 (i+e) - i:Nat):Int):=by
   show(if (i:Int)+e<(x.2:Int)then (i:Int)+e else x.2) - i=_;have:i<=min x.2 (i+e):=zj9 (Nat.le_max_right ..) hm;split<;>omega
  have S:I<=O:=by rw [e1,Y];omega
  rw [if_pos (decide_eq_true S)];have Z:kO i (i+e) x∈stN (e+1):=mem_st.mpr (by show max x.1 i - i<=min x.2 (i+e) - i/\min x.2 (i+e) - i<e+1;omega);have hk:((zfD (cxL (jw g M) i e (.val (.int I)) (.val (.int O)) (.val (kD x)))).bind Yt)=some (kI (kO i (i+e) x)):=by
   show some [I,O]=some [(((kO i (i+e) x).1:Nat):Int),(((kO i (i+e) x).2:Nat):Int)];rw [e1,Y];rfl
  have a5:Q0 ((stN (e+1)).map kI) ((stN (e+1)).map λs=>D.int (h s)) (kI (kO i (i+e) x))=some (.int (h (kO i (i+e) x))):=yR h Z;have hg:qY (zc 0) (zc 6) (cxL (jw g M) i e (.val (.int I)) (.val (.int O)) (.val (kD x)))=some (.int (g x)):=by
   show(Yt (kD x)).bind _=_;exact yR g hx
  unfold zed;rw [hk,zi7,a5];show(((qY (zc 0) (zc 6) _).bind asI).bind _)=_;rw [hg];show(if ((stN (e+1)).map kI).length<lim then some (_,(stN (e+1)).map kI,vh ((stN (e+1)).map kI) ((stN (e+1)).map λs=>D.int (h s)) (kI (kO i (i+e) x)) (.int (h (kO i (i+e) x)+g x)))else none)=_;rw [if_pos (by rw [zjh];omega),JM h n1 Z];congr 3;refine zjg λt ht=>?_;have U:wg i (i+e) x=true:=decide_eq_true hm;unfold kK;rw [U,zmG];by_cases q:t=kO i (i+e) x
  ·rw [if_pos q,if_pos (decide_eq_true q.symm),q]
  ·rw [if_neg q,if_neg (by simpa using λz=>q z.symm),zmr]
 ·have S : ¬I<=O:=by
   rw [e1];show ¬_<=(if (i:Int)+e<(x.2:Int)then (i:Int)+e else x.2) - i;have:=mem_st.mp hx;split<;>omega
  rw [if_neg (by simpa using S)];congr 3;refine zjg λt ht=>?_;have U:wg i (i+e) x=false:=decide_eq_false hm;unfold kK;rw [U];simp
theorem X0(g:Nat×Nat->Int)(he:e<=5) : ∀(L:List (Nat×Nat)) (h:Nat×Nat->Int) (c4 c5 c6:Cell),(∀x∈L,x∈stN M)->∃z I O,xy (.nm 6) JY (L.map kD) (cxL (jw g M) i e c4 c5 c6) ((stN (e+1)).map kI) ((stN (e+1)).map λs=> .int (h s))=some (cxL (jw g M) i e z I O,(stN (e+1)).map kI,(stN (e+1)).map λs=> .int (h s+vq (L.map (kK i (i+e) g s))))
 | [],h,c4,c5,c6,_=>⟨c4,c5,c6,by simp [xy,vq]⟩
 | x::L,h,c4,c5,c6,hL=>by
  obtain⟨S,U,e1⟩:=VF (i:=i) g h he (hL x zju) c4 c5;obtain⟨z,I,O,Y⟩:=X0 g he L (λs=>h s+kK i (i+e) g s x) S U (.val (kD x)) λy Z=>hL y (zjk _ Z);refine⟨z,I,O,?_⟩;show(JY (cxL (jw g M) i e c4 c5 (.val (kD x))) _ _).bind _=_;rw [e1,zi7,Y];congr 3;refine zjg λs _=>?_;show D.int (h s+kK i (i+e) g s x+vq _)=D.int (h s+(kK i (i+e) g s x+vq _));rw [Int.add_assoc]
theorem zds(g:Nat×Nat->Int)(he:e<=5):F_law_left [jw g M,.int i,.int ((i:Int)+(e:Int))]=some (.val (jw (λs=>vq ((stN M).map (kK i (i+e) g s))) (e+1))):=by
 have hl:=z9;obtain⟨n1,S,U⟩:=vv ⟨e+1,by omega⟩;dsimp only at n1 S U;obtain⟨c4,c5,e1⟩:=XY (F:=jw g M) (i:=i) (e:=e) he (c6:= .no) (zi2 (e+1)) [] .no .no (λa ha=>⟨by have:=zi6.mp ha;omega,λs Y=>nomatch Y⟩) zma (by simp;omega);rw [zmj,zcT]at e1;obtain⟨z,I,O,Z⟩:=X0 (i:=i) (M:=M) g he (stN M) (λ_=>0) c4 c5 .no λx h=>h;have a0:zX zaU (cxL (jw g M) i e .no .no .no)=some ((zi2 (e+1)).map λ(b:Nat)=>D.int b):=by
  rw [kg,XZ];show(if inR ((e+1:Nat):Int)=true then some (qi 0 ((e+1:Nat):Int).toNat)else none)=_;rw [if_pos (y9 ⋯ ⋯),zjM,jD];rfl
 have a1:wP (zc 0) (cxL (jw g M) i e c4 c5 .no)=some ((stN M).map kD):=by
  show some (((stN M).map kI).map _)=_;rw [zjW];rfl
 have a2:(XE (Ys 3 (zX zaU) (.nm 4) lIn) (XE (Ys 3 (wP (zc 0)) (.nm 6) JY) zeT)) (cxL (jw g M) i e .no .no .no) [] []=some (cxL (jw g M) i e z I O,(stN (e+1)).map kI,(stN (e+1)).map λs=> .int (0+vq ((stN M).map (kK i (i+e) g s)))):=by
  show((zX zaU (cxL (jw g M) i e .no .no .no)).bind λds=>xy (.nm 4) lIn ds (cxL (jw g M) i e .no .no .no) [] []).bind _=_;rw [a0,zi7];have a3:xy (.nm 4) lIn ((zi2 (e+1)).map λ(b:Nat)=>D.int b) (cxL (jw g M) i e .no .no .no) [] []=some (cxL (jw g M) i e c4 c5 .no,(stN (e+1)).map kI,(stN (e+1)).map λ_=>D.int 0):=e1;rw [a3,zi7];show((wP (zc 0) (cxL (jw g M) i e c4 c5 .no)).bind λds=>xy (.nm 6) JY ds (cxL (jw g M) i e c4 c5 .no) ((stN (e+1)).map kI) ((stN (e+1)).map λ_=>D.int 0)).bind _=_;rw [a1,zi7,Z];rfl
 rw [zaS];refine jK (zA (γ':=[.val (jw g M),.val (.int i),.val (.int ((i:Int)+(e:Int))),.val (jw (λs=>vq ((stN M).map (kK i (i+e) g s))) (e+1)),z,I,O]) ?_ rfl);show(if _ then _ else _)=_;rw [if_pos ⟨rfl,(by show 3<7;decide)⟩];show((XE (Ys 3 (zX zaU) (.nm 4) lIn) (XE (Ys 3 (wP (zc 0)) (.nm 6) JY) zeT)) (cxL (jw g M) i e .no .no .no) [] []).bind _=_;rw [a2,zi7];show(if ((stN (e+1)).map kI).length<=lim then _ else none)=_;rw [if_pos (by rw [zjh];omega)];simp only [Int.zero_add];rfl
theorem Jz{L:List (Nat×Nat)}(nd:L.Nodup)(c:Nat×Nat->Bool) : ∀{K:List (Nat×Nat)},(∀x,x∈K->x∈L)->vq (L.map λx=>if c x=true then (muZ K x:Int)else 0)=(K.countP c:Int)
 | [],_=>by
  have e : ∀L:List (Nat×Nat),vq (L.map λx=>if c x=true then (muZ [] x:Int)else 0)=0:=λL=>by
   induction L with
   | nil=>rfl
   | cons s L O=>
    show(if c s=true then (muZ [] s:Int)else 0)+vq (L.map _)=0;rw [O];split<;>rfl
  rw [e];rfl
 | y::K,h=>by
  have O:=Jz nd c (K:=K) λx hx=>h x (zjk _ hx);have e:(λx=>if c x=true then (muZ (y::K) x:Int)else 0)=λx=>(if y=x then (if c y=true then 1 else 0)else 0)+(if c x=true then (muZ K x:Int)else 0):=funext λx=>by
   by_cases I:c x=true
   ·rw [if_pos I,if_pos I,XT]
    by_cases q:y=x
    ·subst q
     rw [if_pos ⟨rfl,rfl⟩,if_pos rfl,if_pos I];omega
    ·rw [if_neg λz=>q (Prod.ext z.1 z.2),if_neg q];omega
   ·rw [if_neg I,if_neg I]
    by_cases q:y=x
    ·subst q
     rw [if_pos rfl,if_neg I];rfl
    ·rw [if_neg q];rfl
  rw [e,Xw,O,zmX];have o:=zb7 y nd;rw [if_pos (h y zju)]at o;by_cases q:c y=true
  ·have:(λx=>if y=x then (if c y=true then (1:Int)else 0)else 0)=λx=>if y=x then 1 else 0:=funext λx=>by rw [if_pos q]
   rw [this,o,if_pos q];omega
  ·have z : ∀L:List (Nat×Nat),vq (L.map λx=>if y=x then (if c y=true then (1:Int)else 0)else 0)=0:=λL=>by
    induction L with
    | nil=>rfl
    | cons s L O=>
     show(if y=s then (if c y=true then (1:Int)else 0)else 0)+vq (L.map _)=0;rw [O,if_neg q];split<;>rfl
   rw [z,if_neg q];omega
theorem zdQ{K:List (Nat×Nat)}(nd:(stN M).Nodup)(z : ∀x,x∈K->x∈stN M)(i j:Nat)(s:Nat×Nat):vq ((stN M).map (kK i j (λx=>(muZ K x:Int)) s))=(muZ ((K.filter (wg i j)).map (kO i j)) s:Int):=by
 have:=Jz nd (λx=>wg i j x && decide (kO i j x=s)) z;show vq ((stN M).map λx=>if (wg i j x && decide (kO i j x=s))=true then (muZ K x:Int)else 0)=_;rw [this];unfold muZ;rw [zlj,List.countP_filter];congr 1;refine zko λx _=>?_;simp only [zlK,Bool.and_eq_true,decide_eq_true_eq];exact and_comm
end
section
variable{p:Int}{m:Nat}{w:Nat->Bool}{wd:Nat->Nat}{T:Nat->Nat->Nat->Int}
abbrev wcA(a0:Int)(ns:List Int)(p:Int)(m:Nat)(w:Nat->Bool)(wd:Nat->Nat)(wide:Nat)(acc:List D)(c7 c8 c9 c10:Cell):Ctx:=[.val (qO ns),.val (.int a0),.val (.int p),.val (.str (qM m w)),.val (.int wide),.val (.lst (zz (m+1) λk=>(wd k:Int))),.own acc,c7,c8,c9,c10]
def zco(a0:Int)(ns:List Int)(p:Int)(w:Nat->Bool)(wd:Nat->Nat)(k x y:Nat):Int:=Qd ns p (a0+10+20*(k:Int)+(x:Int)*((wiW w wd k:Nat):Int)+(y:Int))
theorem Yi{a0:Int}(h0:0<=a0)(a2:a0<=200){ns:List Int}(O:ns.length<=63)(S:Pr p)(hm:m<=5)(z : ∀k,wd k<=4)(wide:Nat){k:Nat}(I:k<m)(acc:List D)(ha:acc.length<lim)(c9 c10:Cell) : ∃U Y,Z9 (wcA a0 ns p m w wd wide acc (.val (.int k)) (.val (.str (qm (wch (w k))))) c9 c10)=some (.next (wcA a0 ns p m w wd wide (acc++[D.lst (xp (hiW w wd k) (wiW w wd k) (zco a0 ns p w wd k))]) (.val (.int k)) (.val (.str (qm (wch (w k))))) U Y)):=by
 have hl:=z9;have h1:=Q5 w I;have h2:=Xb w I;have i1:ixD (m+1) ((endR w k:Nat):Int)=some (endR w k):=by rw [jZ,if_pos h1]
 have i2:ixD (m+1) ((begR w k:Nat):Int)=some (begR w k):=by rw [jZ,if_pos h2]
 have w1:(zz (m+1) λk=>(wd k:Int))[endR w k]? = some (.int (wd (endR w k):Int)):=xj (n:=m+1) (λk=>(wd k:Int)) h1;have w2:(zz (m+1) λk=>(wd k:Int))[begR w k]? = some (.int (wd (begR w k):Int)):=xj (n:=m+1) (λk=>(wd k:Int)) h2;have Z:Zu 20 (k:Int)=true:=ke _ _ ⋯ ⋯;have R:=zbN O S (at_:=a0+10+20*(k:Int)) ⋯ ⋯ (h:=wd (endR w k)) (w:=wd (begR w k)) (z _) (z _);refine⟨.val (.int ((begR w k:Nat):Int)),.val (.int ((endR w k:Nat):Int)),?_⟩;unfold Z9;rw [zR,Xg,qr];simp only [wcA,j1,qG,jJ,zi9,zja,zE,zi7,zjt,Q4,ku,kf,zjI,zjH];have bm:qV (.int 20) (.int (k:Int))=some (.int (20*(k:Int))):=by rw [Kc,Z];rfl
 simp only [yx,wC,Ko,j1,qG,jJ,qA,wE,kP,jQ,vz,bm,zi9,zja,zE,zW,qp,Qm,zi7,zjt,jG,qu,i1,i2,w1,w2,zjv,zjX,ha,if_true,R,vw];unfold zco;rw [X4,Yy];rfl
theorem vm{a0:Int}(h0:0<=a0)(a4:a0<=200){ns:List Int}(O:ns.length<=63)(S:Pr p)(hm:m<=5){wide:Nat}(hw:wide<=4) :
 ∃wd T,F_law_drawn_k22 [qO ns,.int a0,.int p,.str (qM m w),.int wide]=some (.val (zT p m w wd T))/\(∀k,wd k<=wide)/\∀k x y,0<=T k x y/\T k x y<p:=by
 have hl:=z9;have U:m+1<=lim:=by omega
 have Y:=km w (show m<=1000 by omega);let wd:Nat->Nat:=λk=>(qz ns (a0+(k:Int))%((wide:Int)+1)).toNat;have z : ∀k:Nat,qz ns (a0+(k:Int))%((wide:Int)+1)=(wd k:Int)/\wd k<=wide:=λk=>by
  have g1:=zj0 (qz ns (a0+(k:Int))) (show(wide:Int)+1≠0 by omega);have g2:=zjJ (qz ns (a0+(k:Int))) (show(0:Int)<(wide:Int)+1 by omega);have:(wd k:Int)=qz ns (a0+(k:Int))%((wide:Int)+1):=zkL g1;exact⟨this.symm,by omega⟩
 refine⟨wd,zco a0 ns p w wd,?_,λk=>(z k).2,λk x y=>Wm S.pos⟩;have I : ∀k,wd k<=4:=λk=>by have:=(z k).2;omega
 generalize wd=wd at z I ⊢;have a6:(0:Int)<(wide:Int)+1:=by omega
 have k1:zL (.nm 0) jb (zv qL (zn F_law_cell (za (zc 1) (za (zv jj (zc 2) (zc 0)) zu))) (zv jj (zc 3) (zh (.int 1)))) [Cell.no,Cell.val (qO ns),Cell.val (.int a0),Cell.val (.int wide)] (zz (m+1) λi=>(i:Int))=some (zz (m+1) λk=>(wd k:Int)):=by
  rw [z6,z6];refine zo _ _ λk Z=>zq rfl rfl ?_;have Z:=zi6.mp Z;simp [(ww O (k:=a0+(k:Int)) ⋯ ⋯).1,a6,(z k).1]
 have e1:(zU 5 (jp (zD (zX (zv jj (JF (zc 3)) (zh (.int 1)))) (.nm 0) 1 [0,1,4] jb (zv qL (zn F_law_cell (za (zc 1) (za (zv jj (zc 2) (zc 0)) zu))) (zv jj (zc 3) (zh (.int 1))))))) (zP 11 [qO ns,.int a0,.int p,.str (qM m w),.int wide])=some (.next [.val (qO ns),.val (.int a0),.val (.int p),.val (.str (qM m w)),.val (.int wide),.val (.lst (zz (m+1) λk=>(wd k:Int))),.no,.no,.no,.no,.no]):=by
  rw [Zw,wC,qD,kg,show zP 11 [qO ns,D.int a0,.int p,.str (qM m w),.int wide]=[.val (qO ns),.val (.int a0),.val (.int p),.val (.str (qM m w)),.val (.int wide),.no,.no,.no,.no,.no,.no]from rfl];simp only [wE,WG,jJ,qA,zi9,zja,zE,zi7,Y,if_true,ZE,vz,jG];rw [show((m:Int)+1)=((m+1:Nat):Int)by omega];simp only [yP U,if_true,zjM,zi7,jD,qu,U];rw [show jd 1 [0,1,4] [Cell.val (qO ns),Cell.val (D.int a0),Cell.val (D.int p),Cell.val (D.str (qM m w)),Cell.val (D.int (wide:Int)),Cell.no,Cell.no,Cell.no,Cell.no,Cell.no,Cell.no]=[Cell.no,Cell.val (qO ns),Cell.val (.int a0),Cell.val (.int wide)]from rfl,k1];rfl
 have a8 : ∀(k s:Nat) (c7 c8 c9 c10:Cell),s+k=m->∃a9 aa ab ac,qo (.tp [7,8]) Z9 ((zkn s k).map λ(k:Nat)=>D.tup [.int k,.str (qm (wch (w k)))]) (wcA a0 ns p m w wd wide (qh w wd (zco a0 ns p w wd) s) c7 c8 c9 c10)=some (.next (wcA a0 ns p m w wd wide (qh w wd (zco a0 ns p w wd) m) a9 aa ab ac)):=by
  intro k
  induction k with
  | zero=>
   intro s c7 c8 c9 c10 h;obtain rfl:s=m:=by omega
   exact⟨c7,c8,c9,c10,rfl⟩
  | succ k ih=>
   intro s c7 c8 c9 c10 h;obtain⟨d9,a2,e⟩:=Yi (p:=p) (w:=w) h0 a4 O S hm I wide (show s<m by omega) (qh w wd (zco a0 ns p w wd) s) (by simp;omega) c9 c10;obtain⟨ae,af,ag,ah,e'⟩:=ih (s+1) (.val (.int s)) (.val (.str (qm (wch (w s))))) d9 a2 ⋯;refine⟨ae,af,ag,ah,?_⟩;rw [zkj,zjw,jF];show((Z9 (wcA a0 ns p m w wd wide _ (.val (.int s)) (.val (.str (qm (wch (w s))))) c9 c10)).bind _)=_;rw [e];rw [vO]at e';exact e'
 obtain⟨d7,d8,d9,a2,e⟩:=a8 m 0 .no .no .no .no ⋯;rw [<- zkk]at e;have R:=kZ (p:=p) (w:=w) (T:=zco a0 ns p w wd) hm I;rw [wu];unfold ja;rw [zR,e1,qH,zR];show(zI _ _ (wcA a0 ns p m w wd wide [] .no .no .no .no)).bind _=_;rw [zR,Qo,wD];simp only [wcA,jJ,zi9,zja,zE,zi7,Y,if_true,yT];have e0:qh w wd (zco a0 ns p w wd) 0=[]:=rfl;simp only [wcA,e0]at e;rw [e];simp [R]
end
def zeu:CO Fl:=zU 1 (zn F_law_cell (za (zc 0) (za (zh (.int 0)) zu)))
def zet:CO Fl:=zU 2 (sIx (jy (qB (za (zh (.int 2)) (za (zh (.int 3)) (za (zh (.int 5)) (za (zh (.int 7)) zu)))))) (zv qL (zc 1) (zh (.int 4))))
def zes:CO Fl:=zU 3 (zv jj (zh (.int 1)) (zv qL (zv Qb (zc 1) (zh (.int 4))) (zh (.int 5))))
def zeq:CO Fl:=zU 4 (zn F_law_ways_k22 (za (zv Qb (zc 1) (zh (.int 32))) (za (zc 3) zu)))
def zep:CO Fl:=zU 5 (zn F_law_drawn_k22 (za (zc 0) (za (zh (.int 2)) (za (zc 2) (za (zc 4) (za (zh (.int 2)) zu))))))
def zeo:CO Fl:=zU 6 (zn F_law_drawn_k22 (za (zc 0) (za (zh (.int 130)) (za (zc 2) (za (zc 4) (za (zh (.int 2)) zu))))))
def zen:CO Fl:=zU 7 (zn F_numbers (za (zc 5) zu))
def zem:CO Fl:=zU 8 (zn F_numbers (za (zc 6) zu))
def zel:CO Fl:=zU 9 (zn F_numbers (za (zn F_beside (za (zc 5) (za (zc 6) zu))) zu))
def zbC:CO Fl:=zU 10 (jp (zD (wP (zc 7)) (.nm 0) 1 [7,8,9] jb (zv dEq (qY (zc 3) (zc 0)) (zv jj (qY (zc 1) (zc 0)) (qY (zc 2) (zc 0))))))
def zbB:CO Fl:=sIf (zad (sB (zv dNe (KK (zc 9)) (KK (zc 7)))) (qk (sB (zah (zf 10))))) (j3 (zh (.bl false))) j9
def zbA:CO Fl:=zU 11 (zv qL (zn F_law_cell (za (zc 0) (za (zh (.int 1)) zu))) (zc 3))
def zbz:CO Fl:=zU 12 (zv jj (zc 11) (zv qL (zv Qb (zn F_law_cell (za (zc 0) (za (zh (.int 1)) zu))) (zh (.int 7))) (zv xC (zc 3) (zc 11))))
def zby:CO Fl:=zU 13 (zn F_cut (za (zc 5) (za (zc 11) (za (zc 12) zu))))
def zbx:CO Fl:=sIf (sB (zv zgE (zn F_numbers (za (zc 13) zu)) (zn F_law_left (za (zc 7) (za (zc 11) (za (zc 12) zu)))))) (j3 (zh (.bl false))) j9
def zbw:CO Fl:=j3 (zah (jy (zD (zX (zv jj (zv xC (zc 12) (zc 11)) (zh (.int 1)))) (.nm 0) 1 [5,11,13] jb (zv dEq (zn F_kept (za (zc 3) (za (zh (.int 0)) (za (zc 0) zu)))) (zn F_kept (za (zc 1) (za (zc 2) (za (zv jj (zc 2) (zc 0)) zu))))))))
theorem WZ:F_law_k26=ja 14 (zI zeu (zI zet (zI zes (zI zeq (zI zep (zI zeo (zI zen (zI zem (zI zel (zI zbC (zI zbB (zI zbA (zI zbz (zI zby (zI zbx zbw))))))))))))))):=rfl
theorem law_k26(ns:List Int)(a7:ns.length<=63):F_law_k26 [qO ns]=some (.val (.bl true)):=by
 have hl:=z9;obtain⟨a1,a2,a3⟩:=ww a7 (k:=0) ⋯ ⋯;obtain⟨y1,y2,y3⟩:=ww a7 (k:=1) ⋯ ⋯;generalize qz ns 0=c at a1 a2 a3;generalize qz ns 1=d at y1 y2 y3;obtain⟨q,U,ep,bn⟩:=ze8 a2;obtain⟨m,em,cn⟩:=wf (c:=c/4) (n:=5) ⋯;have hm:m<=5:=by omega
 obtain⟨w,hw⟩:=zek (c:=c/32) ⋯ hm;obtain⟨wd,T,hd,h2,Y⟩:=vk (w:=w) a7 U hm (wide:=2) ⋯;obtain⟨wd',T',bp,a6,a8⟩:=vm (a0:=130) ⋯ ⋯ (w:=w) a7 U hm (wide:=2) ⋯;have a4 : ∀k,wd k<=4:=λk=>by have:=h2 k;omega
 have al : ∀k,wd' k<=4:=λk=>by have:=a6 k;omega
 have am : ∀k,wd k+wd' k<=4:=λk=>by have:=h2 k;have:=a6 k;omega
 have an : ∀k x y,0<=zci w wd T T' k x y/\zci w wd T T' k x y<(q:Int):=λk x y=>by
  have p0:=U.pos;unfold zci kG;split
  ·unfold jv
   split
   ·exact Y k x y
   ·exact⟨Int.le_refl 0,p0⟩
  ·unfold jv
   split
   ·exact⟨Int.le_refl 0,p0⟩
   ·exact a8 k _ _
 obtain⟨i,ei,hi⟩:=wf (c:=d) (n:=m+1) ⋯;obtain⟨e,ej,hj⟩:=wf (c:=d/7) (n:=m+1 - i) ⋯;have ex : ∀{m:Nat} {w:Nat->Bool} {wd:Nat->Nat} {T:Nat->Nat->Nat->Int},m<=5->(∀k,wd k<=4)->(∀k x y,0<=T k x y/\T k x y<(q:Int))->∃N A,Decp (q:Int) w wd T m N A:=λ{m w wd T} hm a4 Y=>by
  have h8 : ∀k,wd k<=8:=λk=>by have:=a4 k;omega
  obtain⟨bars,I,_,_⟩:=Qp (T:=T) (w:=w) (wd:=wd) U h8 hm λk x y _ _ _=>Y k x y;exact⟨_,_,zbf U h8 I⟩
 obtain⟨N,A,Dc⟩:=ex (w:=w) hm a4 Y;obtain⟨N',A',aq⟩:=ex (w:=w) hm al a8;obtain⟨N2,A2,Db⟩:=ex (w:=w) hm am an;obtain⟨N3,A3,Dk⟩:=ex (m:=e) (w:=λk=>w (i+k)) (wd:=λk=>wd (i+k)) (T:=λk=>T (i+k)) ⋯ (λk=>a4 _) λk=>Y _;have nu:=kx U a4 Y hm Dc;have au:=kx U al a8 hm aq;have nuB:=kx U am an hm Db;have av:=kx U (λk=>a4 (i+k)) (λk=>Y (i+k)) ⋯ Dk;have bm:=λ{s:Nat×Nat} (Z:s.1<=s.2)=>zf5 U h2 a6 Y a8 ⋯ Dc aq Db Z;have af:=λ{s:Nat×Nat} (Z:s.1<=s.2)=>zf2 U a4 Y ⋯ Dc (show i+e<=m by omega) Dk Z;have ag:=λ{a b:Nat} (bt:a<=b) (hb:b<=e)=>zcg U a4 Y ⋯ Dc (show i+e<=m by omega) Dk bt hb;have kn:=λ{i j:Nat} (h1:i<=j) (h2:j<=m)=>ZZ U a4 Y ⋯ Dc h1 h2;have ax:=λ{a b:Nat} (h1:a<=b) (h2:b<=e)=>ZZ U (λk=>a4 (i+k)) (λk=>Y (i+k)) ⋯ Dk h1 h2;have ay:=yN Dc;obtain⟨n1,n2,n3⟩:=vv ⟨m+1,by omega⟩;dsimp only at n1 n2 n3;have cl:=λs=>zdQ n1 ay i (i+e) s;generalize y6 A N=K at nu bm af ag kn ay cl;generalize y6 A' N'=K' at au bm;generalize y6 A2 N2=K2 at nuB bm;generalize y6 A3 N3=K3 at av af ag ax;have bx:sumTo (λk=>(wd k:Int)) (m+1)+sumTo (λk=>(wd' k:Int)) (m+1)<=30:=by
  have b : ∀(f:Nat->Nat),(∀k,f k<=2)->∀n,sumTo (λk=>(f k:Int)) n<=2*n:=λf hf n=>by
   induction n with
   | zero=>simp [sumTo]
   | succ n ih=>simp only [sumTo];have:=hf n;omega
  have x1:=b wd h2 (m+1);have x2:=b wd' a6 (m+1);omega
 have be:=((zbn (p:=(q:Int)) (w:=w) (T:=T) (T':=T') (show m<=900 by omega) (λk=>by have:=h2 k;omega) (λk=>by have:=a6 k;omega)).1 bx).1;have cu:=(zbv (p:=(q:Int)) (m:=m) (w:=w) (wd:=wd) (T:=T) (i:=i) (j:=i+e) ⋯ ⋯ ⋯).1;have le:=zds (i:=i) (e:=e) (M:=m+1) (λs=>(muZ K s:Int)) ⋯;have c2:zeg (jw (λs=>(muZ K3 s:Int)) (e+1)) (jw (λs=>vq ((stN (m+1)).map (kK i (i+e) (λs=>(muZ K s:Int)) s))) (e+1))=some true:=by
  refine zdG (λs=>(muZ K3 s:Int)) _ kI λs Z=>?_;rw [X6 kI _ (λx _ z=>X3 z) Z,cl s,af (mem_st.mp Z).1]
 let R:=zT q m w wd T;let R2:=zT q m w wd' T';let g:Nat×Nat->Int:=λs=>(muZ K s:Int);let g':Nat×Nat->Int:=λs=>(muZ K' s:Int);let O:Nat×Nat->Int:=λs=>(muZ K2 s:Int);let M:D:= .int ((m:Int)+1);let W:D:= .str (qM m w);let S:D:= .lst ((stN (m+1)).map λ_=> .bl true);let C:D:=zT q e (λk=>w (i+k)) (λk=>wd (i+k)) (λk=>T (i+k));have c3:c/4%5=(m:Int):=em;have eM:(1+(m:Int))=(m:Int)+1:=by omega
 have rp:(0:Int)<(m:Int)+1:=by omega
 have ei:d%((m:Int)+1)=i:=ei;have c5:(i:Int)<(m:Int)+1:=by omega
 have sp:(0:Int)<(m:Int)+1 - (i:Int):=by omega
 have ej:d/7%((m:Int)+1 - (i:Int))=e:=by rw [<- ej];congr 1;omega
 let J:D:= .int ((i:Int)+(e:Int));have ec:((i+e:Nat):Int)=(i:Int)+(e:Int):=by omega
 rw [ec]at cu;have c7:F_cut [zT q m w wd T,.int i,.int ((i:Int)+(e:Int))]=some (.val C):=by
  rw [cu];unfold zhN;rw [show i+e - i=e by omega]
 have c8:F_law_drawn_k22 [qO ns,.int 2,.int q,.str (qM m w),.int 2]=some (.val (zT q m w wd T)):=hd;have c9:F_law_drawn_k22 [qO ns,.int 130,.int q,.str (qM m w),.int 2]=some (.val (zT q m w wd' T')):=bp;rw [eM]at hw;have ca:(stN (m+1)).length<=lim:=by omega
 have cb:F_numbers [zf7 q m w wd wd' T T']=some (.val (jw O (m+1))):=nuB;rw [WZ];refine jK (zA (γ':=[.val (qO ns),.val (.int c),.no,.no,.no,.no,.no,.no,.no,.no,.no,.no,.no,.no]) ?_
  (zA (γ':=[.val (qO ns),.val (.int c),.val (.int q),.no,.no,.no,.no,.no,.no,.no,.no,.no,.no,.no]) ?_
  (zA (γ':=[.val (qO ns),.val (.int c),.val (.int q),.val M,.no,.no,.no,.no,.no,.no,.no,.no,.no,.no]) ?_
  (zA (γ':=[.val (qO ns),.val (.int c),.val (.int q),.val M,.val W,.no,.no,.no,.no,.no,.no,.no,.no,.no]) ?_
  (zA (γ':=[.val (qO ns),.val (.int c),.val (.int q),.val M,.val W,.val R,.no,.no,.no,.no,.no,.no,.no,.no]) ?_
  (zA (γ':=[.val (qO ns),.val (.int c),.val (.int q),.val M,.val W,.val R,.val R2,.no,.no,.no,.no,.no,.no,.no]) ?_
  (zA (γ':=[.val (qO ns),.val (.int c),.val (.int q),.val M,.val W,.val R,.val R2,.val (jw g (m+1)),.no,.no,.no,.no,.no,.no]) ?_
  (zA (γ':=[.val (qO ns),.val (.int c),.val (.int q),.val M,.val W,.val R,.val R2,.val (jw g (m+1)),.val (jw g' (m+1)),.no,.no,.no,.no,.no]) ?_
  (zA (γ':=[.val (qO ns),.val (.int c),.val (.int q),.val M,.val W,.val R,.val R2,.val (jw g (m+1)),.val (jw g' (m+1)),.val (jw O (m+1)),.no,.no,.no,.no]) ?_
  (zA (γ':=[.val (qO ns),.val (.int c),.val (.int q),.val M,.val W,.val R,.val R2,.val (jw g (m+1)),.val (jw g' (m+1)),.val (jw O (m+1)),.val S,.no,.no,.no]) ?_
  (zA (γ':=[.val (qO ns),.val (.int c),.val (.int q),.val M,.val W,.val R,.val R2,.val (jw g (m+1)),.val (jw g' (m+1)),.val (jw O (m+1)),.val S,.no,.no,.no]) ?_
  (zA (γ':=[.val (qO ns),.val (.int c),.val (.int q),.val M,.val W,.val R,.val R2,.val (jw g (m+1)),.val (jw g' (m+1)),.val (jw O (m+1)),.val S,.val (.int i),.no,.no]) ?_
  (zA (γ':=[.val (qO ns),.val (.int c),.val (.int q),.val M,.val W,.val R,.val R2,.val (jw g (m+1)),.val (jw g' (m+1)),.val (jw O (m+1)),.val S,.val (.int i),.val J,.no]) ?_
  (zA (γ':=[.val (qO ns),.val (.int c),.val (.int q),.val M,.val W,.val R,.val R2,.val (jw g (m+1)),.val (jw g' (m+1)),.val (jw O (m+1)),.val S,.val (.int i),.val J,.val C]) ?_
  (zA (γ':=[.val (qO ns),.val (.int c),.val (.int q),.val M,.val W,.val R,.val R2,.val (jw g (m+1)),.val (jw g' (m+1)),.val (jw O (m+1)),.val S,.val (.int i),.val J,.val C]) ?_ ?_)))))))))))))))
 ·simp [zeu,zP,zi5,a1]
 ·simp [zet,bn,ep]
 ·simp [zes,c3,eM,M]
 ·simp [zeq,M,hw,W]
 ·simp [zep,W,c8,R]
 ·simp [zeo,W,c9,R2]
 ·simp [zen,R,nu,g]
 ·simp [zem,R2,au,g']
 ·simp [zel,R,R2,be,cb]
 ·have c1:zL (.nm 0) jb (zv dEq (qY (zc 3) (zc 0)) (zv jj (qY (zc 1) (zc 0)) (qY (zc 2) (zc 0)))) [.no,.val (jw g (m+1)),.val (jw g' (m+1)),.val (jw O (m+1))] ((stN (m+1)).map kD)=some ((stN (m+1)).map λ_=>D.bl true):=by
   refine zo _ _ λs Z=>zq (γ1:=[.val (kD s),.val (jw g (m+1)),.val (jw g' (m+1)),.val (jw O (m+1))]) rfl rfl ?_;have t1:qY (zc 1) (zc 0) [.val (kD s),.val (jw g (m+1)),.val (jw g' (m+1)),.val (jw O (m+1))]=some (.int (g s)):=yR g Z;have t2:qY (zc 2) (zc 0) [.val (kD s),.val (jw g (m+1)),.val (jw g' (m+1)),.val (jw O (m+1))]=some (.int (g' s)):=yR g' Z;have t3:qY (zc 3) (zc 0) [.val (kD s),.val (jw g (m+1)),.val (jw g' (m+1)),.val (jw O (m+1))]=some (.int (O s)):=yR O Z;have es:O s=g s+g' s:=by
    show(muZ K2 s:Int)=(muZ K s:Int)+(muZ K' s:Int);rw [bm (mem_st.mp Z).1];omega
   rw [wE,wE,t1,t2,t3,es];exact Kd (d:= .int (g s+g' s)) rfl
  have ek:((λk=>D.tup (List.map D.int k))∘kI)=kD:=rfl;have bb:=c1;unfold jw at bb;simp [zbC,jd,ca,jw];rw [ek,bb];simp [S]
 ·have ln:=zbg (d:= .int ((stN (m+1)).length:Int)) rfl
  simp [zbB,jw,ln,S,Jy]
 ·simp [zbA,y1,M,rp,ei]
 ·simp [zbz,y1,M,c5,sp,ej,J]
 ·simp [zby,R,J,c7]
 ·simp [zbx,C,av,J,g,le,c2]
 ·have ch:e+1<=lim:=by omega
  have c1:zL (.nm 0) jb (zv dEq (zn F_kept (za (zc 3) (za (zh (.int 0)) (za (zc 0) zu)))) (zn F_kept (za (zc 1) (za (zc 2) (za (zv jj (zc 2) (zc 0)) zu))))) [.no,.val R,.val (.int i),.val C] (zz (e+1) λk=>(k:Int))=some ((zi2 (e+1)).map λ_=>D.bl true):=by
   rw [z6];refine zo _ _ λk hk=>zq (γ1:=[.val (.int k),.val R,.val (.int i),.val C]) rfl rfl ?_;have hk:=zi6.mp hk;have k1:F_kept [C,.int 0,.int k]=some (.val (.int ((cvZ K3 0 k:Nat):Int))):=ax (a:=0) (b:=k) ⋯ ⋯;have k2:=kn (i:=i) (j:=i+k) ⋯ ⋯;rw [show((i+k:Nat):Int)=(i:Int)+(k:Int)by omega]at k2;have cc:=ag (a:=0) (b:=k) ⋯ ⋯;have k3:cvZ K3 0 k=cvZ K i ((i:Int)+(k:Int)):=by
    have:(i:Int)+((0:Nat):Int)=i:=by omega
    rw [this]at cc;exact cc
   rw [k3]at k1;have er:=Kd (d:= .int ((cvZ K i ((i:Int)+(k:Int)):Nat):Int)) rfl;simp [k1,R,k2,er]
  have ln:(i:Int)+(e:Int) - (i:Int)+1=((e+1:Nat):Int):=by omega
  have ir:inR ((e+1:Nat):Int)=true:=y9 ⋯ ⋯;have src:zX (zv jj (zv xC (zc 12) (zc 11)) (zh (.int 1))) [.val (qO ns),.val (.int c),.val (.int q),.val M,.val W,.val R,.val R2,.val (jw g (m+1)),.val (jw g' (m+1)),.val (jw O (m+1)),.val S,.val (.int i),.val J,.val C]=some (zz (e+1) λk=>(k:Int)):=by
   show(if inR ((i:Int)+(e:Int) - (i:Int)+1)=true then some (qi 0 ((i:Int)+(e:Int) - (i:Int)+1).toNat)else none)=_;rw [ln,if_pos ir,zjM,jD]
  unfold zbw;rw [Zx,zge,Xi,qD,src];simp only [zi7,qu,ch,if_true];rw [show jd 1 [5,11,13] [.val (qO ns),.val (.int c),.val (.int q),.val M,.val W,.val R,.val R2,.val (jw g (m+1)),.val (jw g' (m+1)),.val (jw O (m+1)),.val S,.val (.int i),.val J,.val C]=[Cell.no,.val R,.val (.int i),.val C]from rfl,c1];simp [Jy]
def top(i:Nat):PySem.Stmt:=PySem.Challenge.pw_barsplit_k26_whole_beside_and_cut.main.body.getD i (.Pass ⟨0,0,0,0⟩)
section
variable{CR CL:PySem.Addr}{P:PySem.Program}{w:PySem.World}{K:PySem.W.Frag}{mg:PySem.Str->Option PySem.Value}{base:PySem.Heap}
theorem QT{α:Type}{us:List α}{n:Nat}(h:us.length=n+1) : ∃a t,us=a::t/\t.length=n:=by
 cases us with
 | nil=>exact absurd h (Nat.zero_ne_add_one n)
 | cons a t=>exact⟨a,t,rfl,Nat.succ.inj h⟩
theorem len1{α:Type}{us:List α}(h:us.length=1) : ∃a,us=[a]:=by
 obtain⟨a,z,rfl,h0⟩:=QT h;rw [zjN h0];exact⟨a,rfl⟩
theorem len2{α:Type}{us:List α}(h:us.length=2) : ∃a b,us=[a,b]:=by
 obtain⟨a,z,rfl,h0⟩:=QT h;obtain⟨b,I,rfl,h1⟩:=QT h0;rw [zjN h1];exact⟨a,b,rfl⟩
theorem len3{α:Type}{us:List α}(h:us.length=3) : ∃a b c,us=[a,b,c]:=by
 obtain⟨a,z,rfl,h0⟩:=QT h;obtain⟨b,I,rfl,h1⟩:=QT h0;obtain⟨c,O,rfl,h2⟩:=QT h1;rw [zjN h2];exact⟨a,b,c,rfl⟩
theorem len4{α:Type}{us:List α}(h:us.length=4) : ∃a b c d,us=[a,b,c,d]:=by
 obtain⟨a,I,rfl,h0⟩:=QT h;obtain⟨b,O,rfl,h1⟩:=QT h0;obtain⟨c,S,rfl,h2⟩:=QT h1;obtain⟨d,U,rfl,z⟩:=QT h2;rw [zjN z];exact⟨a,b,c,d,rfl⟩
theorem len5{α:Type}{us:List α}(h:us.length=5) : ∃a b c d e,us=[a,b,c,d,e]:=by
 obtain⟨a,O,rfl,h0⟩:=QT h;obtain⟨b,S,rfl,h1⟩:=QT h0;obtain⟨c,U,rfl,h2⟩:=QT h1;obtain⟨d,Y,rfl,z⟩:=QT h2;obtain⟨e,Z,rfl,I⟩:=QT z;rw [zjN I];exact⟨a,b,c,d,e,rfl⟩
theorem ok_law_cell(D:DefAt K mg "_law_cell" (top 48) ["_law_script","_law_k"])(z:mg "len" = none)(I:mg "min" = none)(O:mg "range" = none):FnD P w K mg base 1 "_law_cell" 2 F_law_cell:=
 xM (N:=["_law_script","_law_k","_law_cell_here","_law_turn","_law_given"]) D ⋯ λX S hw U hm Y h0 hx=>by
  subst S hw U hm Y;exact(by refine zg ?_ ?_;exact(xK (zc2 (zcV (Ve (kT h0 ⋯ z (zy 0 (h0.var ⋯))) zk) (zam (JN h0 (qw (zV (zy 0 (h0.var ⋯)) zk) zk) zk)))) ((by refine zg ?_ ?_;exact(zZ 2 (h0.set 2 ⋯ (zV (zy 0 (h0.var ⋯)) (jo zk (qw (ze 1 (h0.var ⋯)) (qS (kT h0 ⋯ z (zy 0 (h0.var ⋯))) zk))))));refine zg ?_ ?_;exact(xE (T:= .nm 3) (xL hx) h0.calm (j7 h0 ⋯ O (zbU h0 ⋯ I zk (v0 (ze 1 (h0.var ⋯)) (qS (kT h0 ⋯ z (zy 0 (h0.var ⋯))) zk)))) (h0.tgt 3 ⋯) (zx (zZ 2 (h0.set 2 ⋯ (v0 (ze 2 (h0.var ⋯)) (Y8 zk zk))))));exact(zx (jk (qw (ze 2 (h0.var ⋯)) (Y8 zk zk)))))) j6);refine zg ?_ ?_;exact(zZ 4 (h0.set 4 ⋯ (ze 1 (h0.var ⋯))));refine zg ?_ ?_;exact(xK (Ve (kT h0 ⋯ z (zy 0 (h0.var ⋯))) zk) (zx (zZ 4 (h0.set 4 ⋯ (zV (zy 0 (h0.var ⋯)) (qw (ze 1 (h0.var ⋯)) (kT h0 ⋯ z (zy 0 (h0.var ⋯)))))))) j6);exact(zx (jk (qw (qF (qw (jo (jo (jo (qF (qw (ze 4 (h0.var ⋯)) (Y8 zk zk)) zk) (qF (qF zk (ze 1 (h0.var ⋯))) (ze 1 (h0.var ⋯)))) (qF zk (ze 1 (h0.var ⋯)))) zk) zk) zk) zk))))
theorem ok_law_ways_k22(D:DefAt K mg "_law_ways" (top 51) ["_law_cell_here","_law_rooms"])(z:mg "range" = none):FnD P w K mg base 1 "_law_ways" 2 F_law_ways_k22:=
 xM (N:=["_law_cell_here","_law_rooms","_law_ways_here","_law_k"]) D ⋯ λX I hw O hm S h0 hx=>by
  subst I hw O hm S;exact(by refine zg ?_ ?_;exact(zZ 2 (h0.set 2 ⋯ XG));refine zg ?_ ?_;exact(xE (T:= .nm 3) (xL hx) h0.calm (j7 h0 ⋯ z (qS (ze 1 (h0.var ⋯)) zk)) (h0.tgt 3 ⋯) ((by refine zg ?_ ?_;exact(zZ 2 (h0.set 2 ⋯ (zc0 (ze 2 (h0.var ⋯)) (zan XG (qw (ze 0 (h0.var ⋯)) zk)))));exact(zx (zZ 0 (h0.set 0 ⋯ (v0 (ze 0 (h0.var ⋯)) zk)))))));exact(zx (qI 2 (h0.var ⋯))))
theorem ok_law_ends_k22(D:DefAt K mg "_law_ends" (top 49) ["_law_k","_law_way"]):FnD P w K mg base 1 "_law_ends" 2 F_law_ends_k22:=
 xM (N:=["_law_k","_law_way"]) D ⋯ λX z hw I hm O h0 hx=>by
  subst z hw I hm O;exact(by refine zg ?_ ?_;exact(xK (JN h0 (ze 1 (h0.var ⋯)) XG) (zx (jk (jC (xT (zb (ze 0 (h0.var ⋯)) (zb (jo (ze 0 (h0.var ⋯)) zk) zm)))))) j6);exact(zx (jk (jC (xT (zb (jo (ze 0 (h0.var ⋯)) zk) (zb (ze 0 (h0.var ⋯)) zm)))))))
theorem ok_law_row_k22(D:DefAt K mg "_law_row" (top 50) ["_law_p","_law_ways_here","_law_widths","_law_tables"])(I:FnD P w K mg base 1 "_law_ends" 2 F_law_ends_k22)(O:mg "enumerate" = none)(z:mg "tuple" = none):FnD P w K mg base 2 "_law_row" 4 F_law_row_k22:=
 xM (N:=["_law_p","_law_ways_here","_law_widths","_law_tables","_law_arrows","_law_k","_law_way","_law_begin","_law_end"]) D ⋯ λX S hw U hm Y h0 hx=>by
  subst S hw U hm Y;exact(by refine zg ?_ ?_;exact(xf 4 (h0.set 4 ⋯ (v9 (xT zm))));refine zg ?_ ?_;exact(xE (T:= .tp [5,6]) (xL hx) h0.calm (Vm h0 ⋯ O (ze 1 (h0.var ⋯))) (h0.tgts (zY (h0.tgt 5 ⋯) (zY (h0.tgt 6 ⋯) ql))) ((by refine zg ?_ ?_;exact(XJ (T:= .tp [7,8]) (h0.tgts (zY (h0.tgt 7 ⋯) (zY (h0.tgt 8 ⋯) ql))) (jt I ⋯ h0 ⋯ (zb (ze 5 (h0.var ⋯)) (zb (ze 6 (h0.var ⋯)) zm))));exact(zx (QG 4 h0 ⋯ (jC (xT (zb (ze 6 (h0.var ⋯)) (zb (jC (xT (zb (zV (zy 2 (h0.var ⋯)) (ze 8 (h0.var ⋯))) (zb (zV (zy 2 (h0.var ⋯)) (ze 7 (h0.var ⋯))) (zb (j5 h0 ⋯ z (PO.q (jL (own:=["_law_row_here"]) (fr:=[]) (T:= .nm 0) h0.calm (h0.compOk (fr:=[]) ⋯) ⋯ (jM (PV.q (zV (zy 3 (h0.var ⋯)) (ze 5 (h0.var ⋯))))) (λfp s2 H2=>have h1:=h0.cq ["_law_row_here"] [] fp s2 H2 ⋯;h1.tgt 0 ⋯) (λfp s2 H2=>have h1:=h0.cq ["_law_row_here"] [] fp s2 H2 ⋯;j5 h1 ⋯ z (zy 0 (h1.var ⋯)))))) zm))))) zm)))))))));exact(zx (jk (jC (xT (zb (ze 0 (h0.var ⋯)) (zb (j5 h0 ⋯ z (zy 2 (h0.var ⋯))) (zb (j5 h0 ⋯ z (zy 4 (h0.var ⋯))) zm))))))))
theorem ok_law_rows_k22(D:DefAt K mg "_law_rows" (top 52) ["_law_script","_law_at","_law_p","_law_high","_law_wide"])(I:FnD P w K mg base 1 "_law_cell" 2 F_law_cell)(O:mg "int" = none)(z:mg "range" = none):FnD P w K mg base 2 "_law_rows" 5 F_law_rows_k22:=
 xM (N:=["_law_script","_law_at","_law_p","_law_high","_law_wide","_law_rows_here","_law_x","_law_cells"]) D ⋯ λX S hw U hm Y h0 hx=>by
  subst S hw U hm Y;exact(by refine zg ?_ ?_;exact(xf 5 (h0.set 5 ⋯ (v9 (xT zm))));refine zg ?_ ?_;exact(xE (T:= .nm 6) (xL hx) h0.calm (j7 h0 ⋯ z (ze 3 (h0.var ⋯))) (h0.tgt 6 ⋯) ((by refine zg ?_ ?_;exact(jX 7 (psc 7 h0 ⋯ (own:=["_law_y"]) (fr:=[("_law_script",0),("_law_at",1),("_law_wide",4),("_law_x",6)]) (T:= .nm 0) h0.calm (h0.compOk (fr:=[("_law_script",0),("_law_at",1),("_law_wide",4),("_law_x",6)]) ⋯) ⋯ (PIF.c (j7 h0 ⋯ z (ze 4 (h0.var ⋯)))) (λfp s2 H2=>have h1:=h0.cq ["_law_y"] [("_law_script",0),("_law_at",1),("_law_wide",4),("_law_x",6)] fp s2 H2 ⋯;h1.tgt 0 ⋯) (λfp s2 H2=>have h1:=h0.cq ["_law_y"] [("_law_script",0),("_law_at",1),("_law_wide",4),("_law_x",6)] fp s2 H2 ⋯;jt I ⋯ h1 ⋯ (zb (ze 1 (h1.var ⋯)) (zb (jo (jo (ze 2 (h1.var ⋯)) (qF (ze 4 (h1.var ⋯)) (ze 3 (h1.var ⋯)))) (ze 0 (h1.var ⋯))) zm)))));exact(zx (QG 5 h0 ⋯ (PO.v (jL (own:=["_law_cell_here"]) (fr:=[("_law_p",2)]) (T:= .nm 0) h0.calm (h0.compOk (fr:=[("_law_p",2)]) ⋯) ⋯ (jM (zy 7 (h0.var ⋯))) (λfp s2 H2=>have h1:=h0.cq ["_law_cell_here"] [("_law_p",2)] fp s2 H2 ⋯;h1.tgt 0 ⋯) (λfp s2 H2=>have h1:=h0.cq ["_law_cell_here"] [("_law_p",2)] fp s2 H2 ⋯;qF (qw (v0 (ze 0 (h1.var ⋯)) zk) (ze 1 (h1.var ⋯))) (zcZ h1 ⋯ O (zhc (qw (ze 0 (h1.var ⋯)) zk) zk))))))))));exact(zx (qI 5 (h0.var ⋯))))
theorem ok_law_drawn_k22(D:DefAt K mg "_law_drawn" (top 53) ["_law_script","_law_at","_law_p","_law_ways_here","_law_most"])(z:FnD P w K mg base 2 "_law_row" 4 F_law_row_k22)(I:FnD P w K mg base 1 "_law_ends" 2 F_law_ends_k22)(O:FnD P w K mg base 1 "_law_cell" 2 F_law_cell)(S:FnD P w K mg base 2 "_law_rows" 5 F_law_rows_k22)(U:mg "enumerate" = none)(Y:mg "len" = none)(Z:mg "range" = none):FnD P w K mg base 3 "_law_drawn" 5 F_law_drawn_k22:=
 xM (N:=["_law_script","_law_at","_law_p","_law_ways_here","_law_most","_law_widths","_law_tables","_law_k","_law_way","_law_begin","_law_end"]) D ⋯ λX hP hw hK hm hb h0 hx=>by
  subst hP hw hK hm hb;exact(by refine zg ?_ ?_;exact(jX 5 (psc 5 h0 ⋯ (own:=["_law_room"]) (fr:=[("_law_script",0),("_law_at",1),("_law_most",4)]) (T:= .nm 0) h0.calm (h0.compOk (fr:=[("_law_script",0),("_law_at",1),("_law_most",4)]) ⋯) ⋯ (PIF.c (j7 h0 ⋯ Z (jo (zcX h0 ⋯ Y (ze 3 (h0.var ⋯))) zk))) (λfp s2 H2=>have h1:=h0.cq ["_law_room"] [("_law_script",0),("_law_at",1),("_law_most",4)] fp s2 H2 ⋯;h1.tgt 0 ⋯) (λfp s2 H2=>have h1:=h0.cq ["_law_room"] [("_law_script",0),("_law_at",1),("_law_most",4)] fp s2 H2 ⋯;qw (jt O ⋯ h1 ⋯ (zb (ze 1 (h1.var ⋯)) (zb (jo (ze 2 (h1.var ⋯)) (ze 0 (h1.var ⋯))) zm))) (jo (ze 3 (h1.var ⋯)) zk))));refine zg ?_ ?_;exact(xf 6 (h0.set 6 ⋯ (v9 (xT zm))));refine zg ?_ ?_;exact(xE (T:= .tp [7,8]) (xL hx) h0.calm (Vm h0 ⋯ U (ze 3 (h0.var ⋯))) (h0.tgts (zY (h0.tgt 7 ⋯) (zY (h0.tgt 8 ⋯) ql))) ((by refine zg ?_ ?_;exact(XJ (T:= .tp [9,10]) (h0.tgts (zY (h0.tgt 9 ⋯) (zY (h0.tgt 10 ⋯) ql))) (jt I ⋯ h0 ⋯ (zb (ze 7 (h0.var ⋯)) (zb (ze 8 (h0.var ⋯)) zm))));exact(zx (QG 6 h0 ⋯ (PO.v (ZT S ⋯ h0 ⋯ (zb (ze 0 (h0.var ⋯)) (zb (jo (jo (ze 1 (h0.var ⋯)) zk) (qF zk (ze 7 (h0.var ⋯)))) (zb (ze 2 (h0.var ⋯)) (zb (zV (zy 5 (h0.var ⋯)) (ze 10 (h0.var ⋯))) (zb (zV (zy 5 (h0.var ⋯)) (ze 9 (h0.var ⋯))) zm))))))))))));exact(zx (Vh 6 (jk (jt z ⋯ h0 ⋯ (zb (ze 2 (h0.var ⋯)) (zb (ze 3 (h0.var ⋯)) (zb (ze 5 (h0.var ⋯)) (zb (ze 6 (h0.var ⋯)) zm)))))))))
theorem ok_stretches_of(D:DefAt K mg "stretches_of" (top 44) ["many"])(z:mg "range" = none):FnD P w K mg base 1 "stretches_of" 1 F_stretches_of:=
 xM (N:=["many","found","i"]) D ⋯ λX I hw O hm S h0 hx=>by
  subst I hw O hm S;exact(by refine zg ?_ ?_;exact(xf 1 (h0.set 1 ⋯ (v9 (xT zm))));refine zg ?_ ?_;exact(xE (T:= .nm 2) (xL hx) h0.calm (j7 h0 ⋯ z (ze 0 (h0.var ⋯))) (h0.tgt 2 ⋯) (zx (zc4 1 h0 ⋯ (jL (own:=["j"]) (fr:=[("i",2)]) (T:= .nm 0) h0.calm (h0.compOk (fr:=[("i",2)]) ⋯) ⋯ (PIF.c (ZU h0 ⋯ z (ze 2 (h0.var ⋯)) (ze 0 (h0.var ⋯)))) (λfp s2 H2=>have h1:=h0.cq ["j"] [("i",2)] fp s2 H2 ⋯;h1.tgt 0 ⋯) (λfp s2 H2=>have h1:=h0.cq ["j"] [("i",2)] fp s2 H2 ⋯;jC (xT (zb (ze 1 (h1.var ⋯)) (zb (ze 0 (h1.var ⋯)) zm))))))));exact(zx (qI 1 (h0.var ⋯))))
theorem ok_rests(D:DefAt K mg "rests" (top 8) ["p","numbers"])(z:mg "tuple" = none):FnD P w K mg base 1 "rests" 2 F_rests:=
 xM (N:=["p","numbers"]) D ⋯ λX I hw O hm S h0 hx=>by
  subst I hw O hm S;exact zx (jk (j5 h0 ⋯ z (PO.q (jL (own:=["x"]) (fr:=[("p",0)]) (T:= .nm 0) h0.calm (h0.compOk (fr:=[("p",0)]) ⋯) ⋯ (jM (zy 1 (h0.var ⋯))) (λfp s2 H2=>have h1:=h0.cq ["x"] [("p",0)] fp s2 H2 ⋯;h1.tgt 0 ⋯) (λfp s2 H2=>have h1:=h0.cq ["x"] [("p",0)] fp s2 H2 ⋯;qw (ze 0 (h1.var ⋯)) (ze 1 (h1.var ⋯)))))))
theorem ok_inverse(D:DefAt K mg "inverse" (top 9) ["p","x"])(z:mg "range" = none):FnD P w K mg base 1 "inverse" 2 F_inverse:=
 xM (N:=["p","x","y"]) D ⋯ λX I hw O hm S h0 hx=>by
  subst I hw O hm S;exact(by refine zg ?_ ?_;exact(xE (T:= .nm 2) (xL hx) h0.calm (ZU h0 ⋯ z zk (ze 0 (h0.var ⋯))) (h0.tgt 2 ⋯) (zx (xK (JN h0 (qw (qF (ze 1 (h0.var ⋯)) (ze 2 (h0.var ⋯))) (ze 0 (h0.var ⋯))) zk) (zx (qI 2 (h0.var ⋯))) j6)));exact(zx xS))
theorem ok_cleared(D:DefAt K mg "cleared" (top 15) ["p","load","pivot","place"])(z:FnD P w K mg base 1 "rests" 2 F_rests)(I:mg "zip" = none):FnD P w K mg base 2 "cleared" 4 F_cleared:=
 xM (N:=["p","load","pivot","place","much"]) D ⋯ λX O hw S hm U h0 hx=>by
  subst O hw S hm U;exact(by refine zg ?_ ?_;exact(zZ 4 (h0.set 4 ⋯ (zV (zy 1 (h0.var ⋯)) (ze 3 (h0.var ⋯)))));refine zg ?_ ?_;exact(xK (JN h0 (ze 4 (h0.var ⋯)) zk) (zx (qI 1 (h0.var ⋯))) j6);exact(zx (jk (jt z ⋯ h0 ⋯ (zb (ze 0 (h0.var ⋯)) (zb (PO.v (jL (own:=["x","y"]) (fr:=[("much",4)]) (T:= .tp [0,1]) h0.calm (h0.compOk (fr:=[("much",4)]) ⋯) ⋯ (PIF.c (Zi h0 ⋯ I (ze 1 (h0.var ⋯)) (ze 2 (h0.var ⋯)))) (λfp s2 H2=>have h1:=h0.cq ["x","y"] [("much",4)] fp s2 H2 ⋯;h1.tgts (zY (h1.tgt 0 ⋯) (zY (h1.tgt 1 ⋯) ql))) (λfp s2 H2=>have h1:=h0.cq ["x","y"] [("much",4)] fp s2 H2 ⋯;qS (ze 0 (h1.var ⋯)) (qF (ze 2 (h1.var ⋯)) (ze 1 (h1.var ⋯)))))) zm))))))
theorem ok_base_of(D:DefAt K mg "base_of" (top 16) ["p","long","loads"])(z:FnD P w K mg base 1 "rests" 2 F_rests)(O:FnD P w K mg base 1 "inverse" 2 F_inverse)(I:FnD P w K mg base 2 "cleared" 4 F_cleared)(S:mg "range" = none):FnD P w K mg base 3 "base_of" 3 F_base_of:=
 xM (N:=["p","long","loads","left","base","place","leading","times","pivot"]) D ⋯ λX U hw Y hm Z h0 hx=>by
  subst U hw Y hm Z;exact(by refine zg ?_ ?_;exact(jX 3 (psc 3 h0 ⋯ (own:=["load"]) (fr:=[("p",0)]) (T:= .nm 0) h0.calm (h0.compOk (fr:=[("p",0)]) ⋯) ⋯ (jM (zy 2 (h0.var ⋯))) (λfp s2 H2=>have h1:=h0.cq ["load"] [("p",0)] fp s2 H2 ⋯;h1.tgt 0 ⋯) (λfp s2 H2=>have h1:=h0.cq ["load"] [("p",0)] fp s2 H2 ⋯;jt z ⋯ h1 ⋯ (zb (ze 1 (h1.var ⋯)) (zb (ze 0 (h1.var ⋯)) zm)))));refine zg ?_ ?_;exact(xf 4 (h0.set 4 ⋯ (v9 (xT zm))));refine zg ?_ ?_;exact(xE (T:= .nm 5) (xL hx) h0.calm (j7 h0 ⋯ S (ze 1 (h0.var ⋯))) (h0.tgt 5 ⋯) ((by refine zg ?_ ?_;exact(jX 6 (zhe 6 h0 ⋯ (own:=["load"]) (fr:=[("place",5)]) (T:= .nm 0) h0.calm (h0.compOk (fr:=[("place",5)]) ⋯) ⋯ (jM (zy 3 (h0.var ⋯))) (λfp s2 H2=>have h1:=h0.cq ["load"] [("place",5)] fp s2 H2 ⋯;h1.tgt 0 ⋯) (λfp s2 H2=>have h1:=h0.cq ["load"] [("place",5)] fp s2 H2 ⋯;zbX h1 (zV (zy 0 (h1.var ⋯)) (ze 1 (h1.var ⋯))) zk) (λfp s2 H2=>have h1:=h0.cq ["load"] [("place",5)] fp s2 H2 ⋯;ze 0 (h1.var ⋯))));refine zg ?_ ?_;exact(xK (yI (zar (zy 6 (h0.var ⋯)))) (zx JO) j6);refine zg ?_ ?_;exact(zZ 7 (h0.set 7 ⋯ (jt O ⋯ h0 ⋯ (zb (ze 0 (h0.var ⋯)) (zb (zV (PV.q (zV (zy 6 (h0.var ⋯)) zk)) (ze 5 (h0.var ⋯))) zm)))));refine zg ?_ ?_;exact(zZ 8 (h0.set 8 ⋯ (jt z ⋯ h0 ⋯ (zb (ze 0 (h0.var ⋯)) (zb (PO.v (jL (own:=["x"]) (fr:=[("times",7)]) (T:= .nm 0) h0.calm (h0.compOk (fr:=[("times",7)]) ⋯) ⋯ (jM (PV.q (zV (zy 6 (h0.var ⋯)) zk))) (λfp s2 H2=>have h1:=h0.cq ["x"] [("times",7)] fp s2 H2 ⋯;h1.tgt 0 ⋯) (λfp s2 H2=>have h1:=h0.cq ["x"] [("times",7)] fp s2 H2 ⋯;qF (ze 1 (h1.var ⋯)) (ze 0 (h1.var ⋯))))) zm)))));refine zg ?_ ?_;exact(jX 3 (psc 3 h0 ⋯ (own:=["load"]) (fr:=[("p",0),("place",5),("pivot",8)]) (T:= .nm 0) h0.calm (h0.compOk (fr:=[("p",0),("place",5),("pivot",8)]) ⋯) ⋯ (jM (zy 3 (h0.var ⋯))) (λfp s2 H2=>have h1:=h0.cq ["load"] [("p",0),("place",5),("pivot",8)] fp s2 H2 ⋯;h1.tgt 0 ⋯) (λfp s2 H2=>have h1:=h0.cq ["load"] [("p",0),("place",5),("pivot",8)] fp s2 H2 ⋯;jt I ⋯ h1 ⋯ (zb (ze 1 (h1.var ⋯)) (zb (ze 0 (h1.var ⋯)) (zb (ze 3 (h1.var ⋯)) (zb (ze 2 (h1.var ⋯)) zm)))))));exact(zx (xf 4 (h0.set 4 ⋯ (Vl (PO.q (jL (own:=["load"]) (fr:=[("p",0),("place",5),("pivot",8)]) (T:= .nm 0) h0.calm (h0.compOk (fr:=[("p",0),("place",5),("pivot",8)]) ⋯) ⋯ (jM (zy 4 (h0.var ⋯))) (λfp s2 H2=>have h1:=h0.cq ["load"] [("p",0),("place",5),("pivot",8)] fp s2 H2 ⋯;h1.tgt 0 ⋯) (λfp s2 H2=>have h1:=h0.cq ["load"] [("p",0),("place",5),("pivot",8)] fp s2 H2 ⋯;jt I ⋯ h1 ⋯ (zb (ze 1 (h1.var ⋯)) (zb (ze 0 (h1.var ⋯)) (zb (ze 3 (h1.var ⋯)) (zb (ze 2 (h1.var ⋯)) zm))))))) (PO.q (v9 (xT (zb (ze 8 (h0.var ⋯)) zm)))))))))));exact(zx (qI 4 (h0.var ⋯))))
theorem ok_led(D:DefAt K mg "led" (top 10) ["p","table","load"])(z:FnD P w K mg base 1 "rests" 2 F_rests)(I:mg "sum" = none)(O:mg "zip" = none):FnD P w K mg base 2 "led" 3 F_led:=
 xM (N:=["p","table","load"]) D ⋯ λX S hw U hm Y h0 hx=>by
  subst S hw U hm Y;exact zx (jk (jt z ⋯ h0 ⋯ (zb (ze 0 (h0.var ⋯)) (zb (PO.v (jL (own:=["row"]) (fr:=[("load",2)]) (T:= .nm 0) h0.calm (h0.compOk (fr:=[("load",2)]) ⋯) ⋯ (jM (PV.q (zV (zy 1 (h0.var ⋯)) zk))) (λfp s2 H2=>have h1:=h0.cq ["row"] [("load",2)] fp s2 H2 ⋯;h1.tgt 0 ⋯) (λfp s2 H2=>have h1:=h0.cq ["row"] [("load",2)] fp s2 H2 ⋯;zbT h1 ⋯ I (PO.q (jL (own:=["x","y"]) (fr:=[]) (T:= .tp [0,1]) h1.calm (h1.compOk (fr:=[]) ⋯) ⋯ (PIF.c (Zi h1 ⋯ O (ze 0 (h1.var ⋯)) (ze 1 (h1.var ⋯)))) (λfp s2 H2=>have h2:=h1.cq ["x","y"] [] fp s2 H2 ⋯;h2.tgts (zY (h2.tgt 0 ⋯) (zY (h2.tgt 1 ⋯) ql))) (λfp s2 H2=>have h2:=h1.cq ["x","y"] [] fp s2 H2 ⋯;qF (ze 0 (h2.var ⋯)) (ze 1 (h2.var ⋯)))))))) zm))))
theorem ok_led_on(D:DefAt K mg "led_on" (top 18) ["p","table","base"])(z:FnD P w K mg base 3 "base_of" 3 F_base_of)(I:FnD P w K mg base 2 "led" 3 F_led):FnD P w K mg base 4 "led_on" 3 F_led_on:=
 xM (N:=["p","table","base"]) D ⋯ λX O hw S hm U h0 hx=>by
  subst O hw S hm U;exact zx (ZR (ZT z ⋯ h0 ⋯ (zb (ze 0 (h0.var ⋯)) (zb (zV (zy 1 (h0.var ⋯)) zk) (zb (PO.v (jL (own:=["load"]) (fr:=[("p",0),("table",1)]) (T:= .nm 0) h0.calm (h0.compOk (fr:=[("p",0),("table",1)]) ⋯) ⋯ (jM (zy 2 (h0.var ⋯))) (λfp s2 H2=>have h1:=h0.cq ["load"] [("p",0),("table",1)] fp s2 H2 ⋯;h1.tgt 0 ⋯) (λfp s2 H2=>have h1:=h0.cq ["load"] [("p",0),("table",1)] fp s2 H2 ⋯;jt I ⋯ h1 ⋯ (zb (ze 1 (h1.var ⋯)) (zb (ze 2 (h1.var ⋯)) (zb (ze 0 (h1.var ⋯)) zm)))))) zm)))))
theorem ok_behind_noughts(D:DefAt K mg "behind_noughts" (top 17) ["many","base"])(z:mg "any" = none):FnD P w K mg base 1 "behind_noughts" 2 F_behind_noughts:=
 xM (N:=["many","base"]) D ⋯ λX I hw O hm S h0 hx=>by
  subst I hw O hm S;exact zx (ZR (Vk (own:=["load"]) (fr:=[("many",0)]) (T:= .nm 0) h0.calm (h0.compOk (fr:=[("many",0)]) ⋯) ⋯ (jM (zy 1 (h0.var ⋯))) (λfp s2 H2=>have h1:=h0.cq ["load"] [("many",0)] fp s2 H2 ⋯;h1.tgt 0 ⋯) (λfp s2 H2=>have h1:=h0.cq ["load"] [("many",0)] fp s2 H2 ⋯;yI (v6 (ze1 h1 ⋯ z (PV.q (vY (ze 0 (h1.var ⋯)) ZV (xn (ze 1 (h1.var ⋯)))))))) (λfp s2 H2=>have h1:=h0.cq ["load"] [("many",0)] fp s2 H2 ⋯;vY (ze 0 (h1.var ⋯)) (xn (ze 1 (h1.var ⋯))) ZV)))
theorem ok_turned_over(D:DefAt K mg "turned_over" (top 11) ["table"])(I:mg "range" = none)(z:mg "tuple" = none):FnD P w K mg base 1 "turned_over" 1 F_turned_over:=
 xM (N:=["table","columns"]) D ⋯ λX O hw S hm U h0 hx=>by
  subst O hw S hm U;exact(by refine zg ?_ ?_;exact(jX 1 (psc 1 h0 ⋯ (own:=["j"]) (fr:=[("table",0)]) (T:= .nm 0) h0.calm (h0.compOk (fr:=[("table",0)]) ⋯) ⋯ (PIF.c (j7 h0 ⋯ I (zV (zy 0 (h0.var ⋯)) zk))) (λfp s2 H2=>have h1:=h0.cq ["j"] [("table",0)] fp s2 H2 ⋯;h1.tgt 0 ⋯) (λfp s2 H2=>have h1:=h0.cq ["j"] [("table",0)] fp s2 H2 ⋯;j5 h1 ⋯ z (PO.q (jL (own:=["row"]) (fr:=[("j",0)]) (T:= .nm 0) h1.calm (h1.compOk (fr:=[("j",0)]) ⋯) ⋯ (jM (PV.q (zV (zy 1 (h1.var ⋯)) zk))) (λfp s2 H2=>have h2:=h1.cq ["row"] [("j",0)] fp s2 H2 ⋯;h2.tgt 0 ⋯) (λfp s2 H2=>have h2:=h1.cq ["row"] [("j",0)] fp s2 H2 ⋯;zV (zy 0 (h2.var ⋯)) (ze 1 (h2.var ⋯))))))));exact(zx (jk (jC (xT (zb (zV (zy 0 (h0.var ⋯)) zk) (zb (zV (zy 0 (h0.var ⋯)) zk) (zb (j5 h0 ⋯ z (zy 1 (h0.var ⋯))) zm))))))))
theorem ok_same_table(D:DefAt K mg "same_table" (top 12) ["many"])(z:mg "range" = none)(I:mg "tuple" = none):FnD P w K mg base 1 "same_table" 1 F_same_table:=
 xM (N:=["many","rows"]) D ⋯ λX O hw S hm U h0 hx=>by
  subst O hw S hm U;exact(by refine zg ?_ ?_;exact(jX 1 (psc 1 h0 ⋯ (own:=["i"]) (fr:=[("many",0)]) (T:= .nm 0) h0.calm (h0.compOk (fr:=[("many",0)]) ⋯) ⋯ (PIF.c (j7 h0 ⋯ z (ze 0 (h0.var ⋯)))) (λfp s2 H2=>have h1:=h0.cq ["i"] [("many",0)] fp s2 H2 ⋯;h1.tgt 0 ⋯) (λfp s2 H2=>have h1:=h0.cq ["i"] [("many",0)] fp s2 H2 ⋯;j5 h1 ⋯ I (PO.q (jL (own:=["j"]) (fr:=[("i",0)]) (T:= .nm 0) h1.calm (h1.compOk (fr:=[("i",0)]) ⋯) ⋯ (PIF.c (j7 h1 ⋯ z (ze 1 (h1.var ⋯)))) (λfp s2 H2=>have h2:=h1.cq ["j"] [("i",0)] fp s2 H2 ⋯;h2.tgt 0 ⋯) (λfp s2 H2=>have h2:=h1.cq ["j"] [("i",0)] fp s2 H2 ⋯;zao (JN h2 (ze 1 (h2.var ⋯)) (ze 0 (h2.var ⋯))) zk zk))))));exact(zx (jk (jC (xT (zb (ze 0 (h0.var ⋯)) (zb (ze 0 (h0.var ⋯)) (zb (j5 h0 ⋯ I (zy 1 (h0.var ⋯))) zm))))))))
theorem ok_led_into(D:DefAt K mg "led_into" (top 19) ["p","table","base"])(z:FnD P w K mg base 1 "behind_noughts" 2 F_behind_noughts)(I:FnD P w K mg base 3 "base_of" 3 F_base_of)(O:FnD P w K mg base 1 "turned_over" 1 F_turned_over)(S:FnD P w K mg base 1 "same_table" 1 F_same_table)(U:mg "zip" = none):FnD P w K mg base 4 "led_into" 3 F_led_into:=
 xM (N:=["p","table","base","pairs","free"]) D ⋯ λX Y hw Z hm hb h0 hx=>by
  subst Y hw Z hm hb;exact(by refine zg ?_ ?_;exact(jX 3 (psc 3 h0 ⋯ (own:=["column","unit"]) (fr:=[]) (T:= .tp [0,1]) h0.calm (h0.compOk (fr:=[]) ⋯) ⋯ (PIF.c (Zi h0 ⋯ U (zV (PV.q (jt O ⋯ h0 ⋯ (zb (ze 1 (h0.var ⋯)) zm))) zk) (zV (PV.q (jt S ⋯ h0 ⋯ (zb (zV (zy 1 (h0.var ⋯)) zk) zm))) zk))) (λfp s2 H2=>have h1:=h0.cq ["column","unit"] [] fp s2 H2 ⋯;h1.tgts (zY (h1.tgt 0 ⋯) (zY (h1.tgt 1 ⋯) ql))) (λfp s2 H2=>have h1:=h0.cq ["column","unit"] [] fp s2 H2 ⋯;jo (ze 0 (h1.var ⋯)) (ze 1 (h1.var ⋯)))));refine zg ?_ ?_;exact(jX 4 (psc 4 h0 ⋯ (own:=["load"]) (fr:=[("table",1)]) (T:= .nm 0) h0.calm (h0.compOk (fr:=[("table",1)]) ⋯) ⋯ (jM (zy 2 (h0.var ⋯))) (λfp s2 H2=>have h1:=h0.cq ["load"] [("table",1)] fp s2 H2 ⋯;h1.tgt 0 ⋯) (λfp s2 H2=>have h1:=h0.cq ["load"] [("table",1)] fp s2 H2 ⋯;jo (ze 0 (h1.var ⋯)) (qF (jC (xT (zb zk zm))) (zV (zy 1 (h1.var ⋯)) zk)))));exact(zx (ZR (ZT z ⋯ h0 ⋯ (zb (zV (zy 1 (h0.var ⋯)) zk) (zb (PO.v (ZT I ⋯ h0 ⋯ (zb (ze 0 (h0.var ⋯)) (zb (jo (zV (zy 1 (h0.var ⋯)) zk) (zV (zy 1 (h0.var ⋯)) zk)) (zb (PO.v (Vl (zy 3 (h0.var ⋯)) (zy 4 (h0.var ⋯)))) zm))))) zm))))))
theorem ok_tables_joined(D:DefAt K mg "tables_joined" (top 33) ["one","other","join"])(z:mg "tuple" = none)(I:mg "zip" = none):FnD P w K mg base 1 "tables_joined" 3 F_tables_joined:=
 xM (N:=["one","other","join","first","second"]) D ⋯ λX O hw S hm U h0 hx=>by
  subst O hw S hm U;exact(by refine zg ?_ ?_;exact(jX 3 (psc 3 h0 ⋯ (own:=["row","beyond"]) (fr:=[]) (T:= .tp [0,1]) h0.calm (h0.compOk (fr:=[]) ⋯) ⋯ (PIF.c (Zi h0 ⋯ I (zV (zy 0 (h0.var ⋯)) zk) (zV (zy 2 (h0.var ⋯)) zk))) (λfp s2 H2=>have h1:=h0.cq ["row","beyond"] [] fp s2 H2 ⋯;h1.tgts (zY (h1.tgt 0 ⋯) (zY (h1.tgt 1 ⋯) ql))) (λfp s2 H2=>have h1:=h0.cq ["row","beyond"] [] fp s2 H2 ⋯;jo (ze 0 (h1.var ⋯)) (ze 1 (h1.var ⋯)))));refine zg ?_ ?_;exact(jX 4 (psc 4 h0 ⋯ (own:=["row"]) (fr:=[("one",0)]) (T:= .nm 0) h0.calm (h0.compOk (fr:=[("one",0)]) ⋯) ⋯ (jM (PV.q (zV (zy 1 (h0.var ⋯)) zk))) (λfp s2 H2=>have h1:=h0.cq ["row"] [("one",0)] fp s2 H2 ⋯;h1.tgt 0 ⋯) (λfp s2 H2=>have h1:=h0.cq ["row"] [("one",0)] fp s2 H2 ⋯;jo (qF (jC (xT (zb zk zm))) (zV (zy 1 (h1.var ⋯)) zk)) (ze 0 (h1.var ⋯)))));exact(zx (jk (jC (xT (zb (jo (zV (zy 0 (h0.var ⋯)) zk) (zV (zy 1 (h0.var ⋯)) zk)) (zb (jo (zV (zy 0 (h0.var ⋯)) zk) (zV (zy 1 (h0.var ⋯)) zk)) (zb (j5 h0 ⋯ z (PV.q (PO.v (Vl (zy 3 (h0.var ⋯)) (zy 4 (h0.var ⋯)))))) zm))))))))
theorem ok_nought_table(D:DefAt K mg "nought_table" (top 13) ["high","wide"]):FnD P w K mg base 1 "nought_table" 2 F_nought_table:=
 xM (N:=["high","wide"]) D ⋯ λX z hw I hm O h0 hx=>by
  subst z hw I hm O;exact zx (jk (jC (xT (zb (ze 0 (h0.var ⋯)) (zb (ze 1 (h0.var ⋯)) (zb (qF (jC (xT (zb (qF (jC (xT (zb zk zm))) (ze 1 (h0.var ⋯))) zm))) (ze 0 (h0.var ⋯))) zm))))))
theorem ok_no_join(D:DefAt K mg "no_join" (top 34) ["one","other"])(z:FnD P w K mg base 1 "nought_table" 2 F_nought_table):FnD P w K mg base 2 "no_join" 2 F_no_join:=
 xM (N:=["one","other"]) D ⋯ λX I hw O hm S h0 hx=>by
  subst I hw O hm S;exact zx (jk (jt z ⋯ h0 ⋯ (zb (zV (zy 0 (h0.var ⋯)) zk) (zb (zV (zy 1 (h0.var ⋯)) zk) zm))))
theorem ok_tables_beside_5(D:DefAt K mg "tables_beside" (top 35) ["one","other"])(z:FnD P w K mg base 1 "tables_joined" 3 F_tables_joined)(I:FnD P w K mg base 2 "no_join" 2 F_no_join):FnD P w K mg base 3 "tables_beside" 2 F_tables_beside_5:=
 xM (N:=["one","other"]) D ⋯ λX O hw S hm U h0 hx=>by
  subst O hw S hm U;exact zx (jk (jt z ⋯ h0 ⋯ (zb (ze 0 (h0.var ⋯)) (zb (ze 1 (h0.var ⋯)) (zb (jt I ⋯ h0 ⋯ (zb (ze 0 (h0.var ⋯)) (zb (ze 1 (h0.var ⋯)) zm))) zm)))))
theorem ok_link(D:DefAt K mg "link" (top 42) ["row","i","j"])(a1:FnD P w K mg base 4 "led_on" 3 F_led_on)(a2:FnD P w K mg base 4 "led_into" 3 F_led_into)(z:FnD P w K mg base 1 "same_table" 1 F_same_table)(I:FnD P w K mg base 3 "tables_beside" 2 F_tables_beside_5)(O:FnBy P w K mg base 3 "arrow_by" CR CL)(S:MethAt P w K mg base 5 CR F_led_on)(U:MethAt P w K mg base 5 CL F_led_into):FnD P w K mg base 6 "link" 3 F_link:=
 xM (N:=["row","i","j","same","base","arrow"]) D ⋯ λX Y hw Z hm hb h0 hx=>by
  subst Y hw Z hm hb;exact(by refine zg ?_ ?_;exact(zZ 3 (h0.set 3 ⋯ (jt z ⋯ h0 ⋯ (zb (zV (PV.q (zV (zy 0 (h0.var ⋯)) zk)) (ze 1 (h0.var ⋯))) zm))));refine zg ?_ ?_;exact(xf 4 (psc 4 h0 ⋯ (own:=["unit"]) (fr:=[]) (T:= .nm 0) h0.calm (h0.compOk (fr:=[]) ⋯) ⋯ (jM (PV.q (zV (zy 3 (h0.var ⋯)) zk))) (λfp s2 H2=>have h1:=h0.cq ["unit"] [] fp s2 H2 ⋯;h1.tgt 0 ⋯) (λfp s2 H2=>have h1:=h0.cq ["unit"] [] fp s2 H2 ⋯;jo (ze 0 (h1.var ⋯)) (ze 0 (h1.var ⋯)))));refine zg ?_ ?_;exact(xE (T:= .nm 5) (xL hx) h0.calm (zda (vY (zV (zy 0 (h0.var ⋯)) zk) (xn (ze 1 (h0.var ⋯))) (xn (ze 2 (h0.var ⋯))))) (h0.tgt 5 ⋯) (zx (Vh 4 (xf 4 (h0.set 4 ⋯ (zax O S U ⋯ ⋯ ⋯ h0 ⋯ (zV (zy 0 (h0.var ⋯)) zk) (zV (zy 5 (h0.var ⋯)) zk) (jt I ⋯ h0 ⋯ (zb (ze 3 (h0.var ⋯)) (zb (zV (zy 5 (h0.var ⋯)) zk) zm))) (ze 4 (h0.var ⋯))))))));exact(zx (qI 4 (h0.var ⋯))))
theorem ok_kept(D:DefAt K mg "kept" (top 43) ["row","i","j"])(O:FnD P w K mg base 6 "link" 3 F_link)(S:FnD P w K mg base 3 "base_of" 3 F_base_of)(I:FnD P w K mg base 1 "behind_noughts" 2 F_behind_noughts)(z:mg "len" = none):FnD P w K mg base 7 "kept" 3 F_kept:=
 xM (N:=["row","i","j","base","first","second","swapped"]) D ⋯ λX U hw Y hm Z h0 hx=>by
  subst U hw Y hm Z;exact(by refine zg ?_ ?_;exact(zZ 3 (h0.set 3 ⋯ (PO.v (ZT O ⋯ h0 ⋯ (zb (ze 0 (h0.var ⋯)) (zb (ze 1 (h0.var ⋯)) (zb (ze 2 (h0.var ⋯)) zm)))))));refine zg ?_ ?_;exact(zZ 4 (h0.set 4 ⋯ (zV (PV.q (zV (zy 0 (h0.var ⋯)) zk)) (ze 1 (h0.var ⋯)))));refine zg ?_ ?_;exact(zZ 5 (h0.set 5 ⋯ (zV (PV.q (zV (zy 0 (h0.var ⋯)) zk)) (ze 2 (h0.var ⋯)))));refine zg ?_ ?_;exact(zZ 6 (h0.set 6 ⋯ (PO.v (ZT S ⋯ h0 ⋯ (zb (zV (zy 0 (h0.var ⋯)) zk) (zb (jo (ze 5 (h0.var ⋯)) (ze 4 (h0.var ⋯))) (zb (PO.v (jL (own:=["load"]) (fr:=[("first",4)]) (T:= .nm 0) h0.calm (h0.compOk (fr:=[("first",4)]) ⋯) ⋯ (jM (zy 3 (h0.var ⋯))) (λfp s2 H2=>have h1:=h0.cq ["load"] [("first",4)] fp s2 H2 ⋯;h1.tgt 0 ⋯) (λfp s2 H2=>have h1:=h0.cq ["load"] [("first",4)] fp s2 H2 ⋯;jo (vY (ze 0 (h1.var ⋯)) (xn (ze 1 (h1.var ⋯))) ZV) (vY (ze 0 (h1.var ⋯)) ZV (xn (ze 1 (h1.var ⋯))))))) zm)))))));exact(zx (jk (qS (qS (kT h0 ⋯ z (zy 3 (h0.var ⋯))) (kT h0 ⋯ z (PO.q (ZT I ⋯ h0 ⋯ (zb (ze 5 (h0.var ⋯)) (zb (ze 6 (h0.var ⋯)) zm)))))) (kT h0 ⋯ z (PO.q (ZT I ⋯ h0 ⋯ (zb (ze 4 (h0.var ⋯)) (zb (ze 3 (h0.var ⋯)) zm)))))))))
theorem ok_number_of(D:DefAt K mg "number_of" (top 45) ["much","i","j"]):FnD P w K mg base 1 "number_of" 3 F_number_of:=
 xM (N:=["much","i","j","longer"]) D ⋯ λX z hw I hm O h0 hx=>by
  subst z hw I hm O;exact(by refine zg ?_ ?_;exact(zZ 3 (h0.set 3 ⋯ (jo (QF h0 (ze 0 (h0.var ⋯)) (jC (xT (zb (qS (ze 1 (h0.var ⋯)) zk) (zb (ze 2 (h0.var ⋯)) zm)))) zk) (QF h0 (ze 0 (h0.var ⋯)) (jC (xT (zb (ze 1 (h0.var ⋯)) (zb (jo (ze 2 (h0.var ⋯)) zk) zm)))) zk))));exact(zx (jk (jo (qS (vZ h0 (ze 0 (h0.var ⋯)) (jC (xT (zb (ze 1 (h0.var ⋯)) (zb (ze 2 (h0.var ⋯)) zm))))) (ze 3 (h0.var ⋯))) (QF h0 (ze 0 (h0.var ⋯)) (jC (xT (zb (qS (ze 1 (h0.var ⋯)) zk) (zb (jo (ze 2 (h0.var ⋯)) zk) zm)))) zk)))))
theorem ok_numbers(D:DefAt K mg "numbers" (top 46) ["row"])(I:FnD P w K mg base 1 "stretches_of" 1 F_stretches_of)(O:FnD P w K mg base 7 "kept" 3 F_kept)(S:FnD P w K mg base 1 "number_of" 3 F_number_of)(z:mg "dict" = none)(U:mg "len" = none):FnD P w K mg base 8 "numbers" 1 F_numbers:=
 xM (N:=["row","stretches","much"]) D ⋯ λX Y hw Z hm hb h0 hx=>by
  subst Y hw Z hm hb;exact(by refine zg ?_ ?_;exact(zZ 1 (h0.set 1 ⋯ (PO.v (ZT I ⋯ h0 ⋯ (zb (kT h0 ⋯ U (PV.q (zV (zy 0 (h0.var ⋯)) zk))) zm)))));refine zg ?_ ?_;exact(zZ 2 (h0.set 2 ⋯ (XH h0 ⋯ z (jL (own:=["i","j"]) (fr:=[("row",0)]) (T:= .tp [0,1]) h0.calm (h0.compOk (fr:=[("row",0)]) ⋯) ⋯ (jM (zy 1 (h0.var ⋯))) (λfp s2 H2=>have h1:=h0.cq ["i","j"] [("row",0)] fp s2 H2 ⋯;h1.tgts (zY (h1.tgt 0 ⋯) (zY (h1.tgt 1 ⋯) ql))) (λfp s2 H2=>have h1:=h0.cq ["i","j"] [("row",0)] fp s2 H2 ⋯;jC (xT (zb (jC (xT (zb (ze 0 (h1.var ⋯)) (zb (ze 1 (h1.var ⋯)) zm)))) (zb (jt O ⋯ h1 ⋯ (zb (ze 2 (h1.var ⋯)) (zb (ze 0 (h1.var ⋯)) (zb (ze 1 (h1.var ⋯)) zm)))) zm))))))));exact(zx (jk (XH h0 ⋯ z (jL (own:=["i","j"]) (fr:=[("much",2)]) (T:= .tp [0,1]) h0.calm (h0.compOk (fr:=[("much",2)]) ⋯) ⋯ (jM (zy 1 (h0.var ⋯))) (λfp s2 H2=>have h1:=h0.cq ["i","j"] [("much",2)] fp s2 H2 ⋯;h1.tgts (zY (h1.tgt 0 ⋯) (zY (h1.tgt 1 ⋯) ql))) (λfp s2 H2=>have h1:=h0.cq ["i","j"] [("much",2)] fp s2 H2 ⋯;jC (xT (zb (jC (xT (zb (ze 0 (h1.var ⋯)) (zb (ze 1 (h1.var ⋯)) zm)))) (zb (jt S ⋯ h1 ⋯ (zb (ze 2 (h1.var ⋯)) (zb (ze 0 (h1.var ⋯)) (zb (ze 1 (h1.var ⋯)) zm)))) zm)))))))))
theorem ok_is_whole(D:DefAt K mg "is_whole" (top 7) ["x"])(I:mg "bool" = none)(O:mg "int" = none)(z:mg "isinstance" = none):FnD P w K mg base 1 "is_whole" 1 F_is_whole:=
 xM (N:=["x"]) D ⋯ λX S hw U hm Y h0 hx=>by
  subst S hw U hm Y;exact zx (jk (Vd (Vb h0 ⋯ z ⋯ O (ze 0 (h0.var ⋯))) (Y9 (zeX (KO h0 ⋯ z ⋯ I (ze 0 (h0.var ⋯)))))))
theorem ok_is_room(D:DefAt K mg "is_room" (top 27) ["many","k"])(z:FnD P w K mg base 1 "is_whole" 1 F_is_whole):FnD P w K mg base 2 "is_room" 2 F_is_room:=
 xM (N:=["many","k"]) D ⋯ λX I hw O hm S h0 hx=>by
  subst I hw O hm S;exact zx (jk (Vd (jt z ⋯ h0 ⋯ (zb (ze 1 (h0.var ⋯)) zm)) (Y9 (zaq zfs zfr zbH zbG zk (ze 1 (h0.var ⋯)) (ze 0 (h0.var ⋯))))))
theorem ok_ask_rooms(D:DefAt K mg "ask_rooms" (top 39) ["row","i","j"])(z:FnD P w K mg base 2 "is_room" 2 F_is_room)(I:mg "len" = none):FnD P w K mg base 3 "ask_rooms" 3 F_ask_rooms:=
 xM (N:=["row","i","j","many"]) D ⋯ λX O hw S hm U h0 hx=>by
  subst O hw S hm U;exact(by refine zg ?_ ?_;exact(zZ 3 (h0.set 3 ⋯ (kT h0 ⋯ I (PV.q (zV (zy 0 (h0.var ⋯)) zk)))));refine zg ?_ ?_;exact(xK (yI (v6 (jt z ⋯ h0 ⋯ (zb (ze 3 (h0.var ⋯)) (zb (ze 1 (h0.var ⋯)) zm))))) (zx xS) j6);exact(zx (xK (zc2 (zbS (yI (v6 (jt z ⋯ h0 ⋯ (zb (ze 3 (h0.var ⋯)) (zb (ze 2 (h0.var ⋯)) zm))))) (Y7 (ze2 (ze 2 (h0.var ⋯)) (ze 1 (h0.var ⋯)))))) (zx xS) j6)))
theorem ok_cut(D:DefAt K mg "cut" (top 40) ["row","i","j"])(z:FnD P w K mg base 3 "ask_rooms" 3 F_ask_rooms):FnD P w K mg base 4 "cut" 3 F_cut:=
 xM (N:=["row","i","j"]) D ⋯ λX I hw O hm S h0 hx=>by
  subst I hw O hm S;exact(by refine zg ?_ ?_;exact(ZS (jt z ⋯ h0 ⋯ (zb (ze 0 (h0.var ⋯)) (zb (ze 1 (h0.var ⋯)) (zb (ze 2 (h0.var ⋯)) zm)))));exact(zx (jk (jC (xT (zb (zV (zy 0 (h0.var ⋯)) zk) (zb (vY (zV (zy 0 (h0.var ⋯)) zk) (xn (ze 1 (h0.var ⋯))) (xn (jo (ze 2 (h0.var ⋯)) zk))) (zb (vY (zV (zy 0 (h0.var ⋯)) zk) (xn (ze 1 (h0.var ⋯))) (xn (ze 2 (h0.var ⋯)))) zm))))))))
theorem ok_ways_of(D:DefAt K mg "ways_of" (top 28) ["row"]):FnD P w K mg base 1 "ways_of" 1 F_ways_of:=
 xM (N:=["row"]) D ⋯ λX z hw I hm O h0 hx=>by
  subst z hw I hm O;exact zx (jk (zcY XG (PO.q (jL (own:=["arrow"]) (fr:=[]) (T:= .nm 0) h0.calm (h0.compOk (fr:=[]) ⋯) ⋯ (jM (PV.q (zV (zy 0 (h0.var ⋯)) zk))) (λfp s2 H2=>have h1:=h0.cq ["arrow"] [] fp s2 H2 ⋯;h1.tgt 0 ⋯) (λfp s2 H2=>have h1:=h0.cq ["arrow"] [] fp s2 H2 ⋯;zV (zy 0 (h1.var ⋯)) zk)))))
theorem ok_one_kind(D:DefAt K mg "one_kind" (top 29) ["one","other"])(z:FnD P w K mg base 1 "ways_of" 1 F_ways_of):FnD P w K mg base 2 "one_kind" 2 F_one_kind:=
 xM (N:=["one","other"]) D ⋯ λX I hw O hm S h0 hx=>by
  subst I hw O hm S;exact zx (jk (Vd (zap h0 (zV (zy 0 (h0.var ⋯)) zk) (zV (zy 1 (h0.var ⋯)) zk)) (Y9 (zap h0 (jt z ⋯ h0 ⋯ (zb (ze 0 (h0.var ⋯)) zm)) (jt z ⋯ h0 ⋯ (zb (ze 1 (h0.var ⋯)) zm))))))
theorem ok_ask_one_kind(D:DefAt K mg "ask_one_kind" (top 30) ["one","other"])(z:FnD P w K mg base 2 "one_kind" 2 F_one_kind):FnD P w K mg base 3 "ask_one_kind" 2 F_ask_one_kind:=
 xM (N:=["one","other"]) D ⋯ λX I hw O hm S h0 hx=>by
  subst I hw O hm S;exact zx (xK (yI (v6 (jt z ⋯ h0 ⋯ (zb (ze 0 (h0.var ⋯)) (zb (ze 1 (h0.var ⋯)) zm))))) (zx xS) j6)
theorem ok_ask_together(D:DefAt K mg "ask_together" (top 31) ["widths"])(z:mg "sum" = none)(I:GL K mg "MOST_TOGETHER" (.int 30)):FnD P w K mg base 1 "ask_together" 1 F_ask_together:=
 xM (N:=["widths"]) D ⋯ λX O hw S hm U h0 hx=>by
  subst O hw S hm U;exact zx (xK (Ve (zbT h0 ⋯ z (zy 0 (h0.var ⋯))) (zhd h0 ⋯ I)) (zx xS) j6)
theorem ok_widths_together(D:DefAt K mg "widths_together" (top 36) ["one","other"])(z:FnD P w K mg base 1 "ask_together" 1 F_ask_together)(I:mg "tuple" = none)(O:mg "zip" = none):FnD P w K mg base 2 "widths_together" 2 F_widths_together:=
 xM (N:=["one","other","widths"]) D ⋯ λX S hw U hm Y h0 hx=>by
  subst S hw U hm Y;exact(by refine zg ?_ ?_;exact(zZ 2 (h0.set 2 ⋯ (j5 h0 ⋯ I (PO.q (jL (own:=["x","y"]) (fr:=[]) (T:= .tp [0,1]) h0.calm (h0.compOk (fr:=[]) ⋯) ⋯ (PIF.c (Zi h0 ⋯ O (zV (zy 0 (h0.var ⋯)) zk) (zV (zy 1 (h0.var ⋯)) zk))) (λfp s2 H2=>have h1:=h0.cq ["x","y"] [] fp s2 H2 ⋯;h1.tgts (zY (h1.tgt 0 ⋯) (zY (h1.tgt 1 ⋯) ql))) (λfp s2 H2=>have h1:=h0.cq ["x","y"] [] fp s2 H2 ⋯;jo (ze 0 (h1.var ⋯)) (ze 1 (h1.var ⋯))))))));refine zg ?_ ?_;exact(ZS (jt z ⋯ h0 ⋯ (zb (ze 2 (h0.var ⋯)) zm)));exact(zx (qI 2 (h0.var ⋯))))
theorem ok_joined(D:DefAt K mg "joined" (top 37) ["one","other","joins"])(z:FnD P w K mg base 2 "widths_together" 2 F_widths_together)(I:FnD P w K mg base 1 "tables_joined" 3 F_tables_joined)(O:mg "tuple" = none)(S:mg "zip" = none):FnD P w K mg base 3 "joined" 3 F_joined:=
 xM (N:=["one","other","joins","widths","arrows"]) D ⋯ λX U hw Y hm Z h0 hx=>by
  subst U hw Y hm Z;exact(by refine zg ?_ ?_;exact(zZ 3 (h0.set 3 ⋯ (jt z ⋯ h0 ⋯ (zb (ze 0 (h0.var ⋯)) (zb (ze 1 (h0.var ⋯)) zm)))));refine zg ?_ ?_;exact(jX 4 (psc 4 h0 ⋯ (own:=["a","b","join"]) (fr:=[]) (T:= .tp [0,1,2]) h0.calm (h0.compOk (fr:=[]) ⋯) ⋯ (PIF.c (zc8 h0 ⋯ S (zV (zy 0 (h0.var ⋯)) zk) (zV (zy 1 (h0.var ⋯)) zk) (ze 2 (h0.var ⋯)))) (λfp s2 H2=>have h1:=h0.cq ["a","b","join"] [] fp s2 H2 ⋯;h1.tgts (zY (h1.tgt 0 ⋯) (zY (h1.tgt 1 ⋯) (zY (h1.tgt 2 ⋯) ql)))) (λfp s2 H2=>have h1:=h0.cq ["a","b","join"] [] fp s2 H2 ⋯;jC (xT (zb (zV (zy 0 (h1.var ⋯)) zk) (zb (jt I ⋯ h1 ⋯ (zb (zV (zy 0 (h1.var ⋯)) zk) (zb (zV (zy 1 (h1.var ⋯)) zk) (zb (ze 2 (h1.var ⋯)) zm)))) zm))))));exact(zx (jk (jC (xT (zb (zV (zy 0 (h0.var ⋯)) zk) (zb (ze 3 (h0.var ⋯)) (zb (j5 h0 ⋯ O (zy 4 (h0.var ⋯))) zm))))))))
theorem ok_beside(D:DefAt K mg "beside" (top 38) ["one","other"])(z:FnD P w K mg base 3 "ask_one_kind" 2 F_ask_one_kind)(I:FnD P w K mg base 3 "joined" 3 F_joined)(O:FnD P w K mg base 2 "no_join" 2 F_no_join)(S:mg "zip" = none):FnD P w K mg base 4 "beside" 2 F_beside:=
 xM (N:=["one","other"]) D ⋯ λX U hw Y hm Z h0 hx=>by
  subst U hw Y hm Z;exact(by refine zg ?_ ?_;exact(ZS (jt z ⋯ h0 ⋯ (zb (ze 0 (h0.var ⋯)) (zb (ze 1 (h0.var ⋯)) zm))));exact(zx (jk (jt I ⋯ h0 ⋯ (zb (ze 0 (h0.var ⋯)) (zb (ze 1 (h0.var ⋯)) (zb (PO.v (jL (own:=["a","b"]) (fr:=[]) (T:= .tp [0,1]) h0.calm (h0.compOk (fr:=[]) ⋯) ⋯ (PIF.c (Zi h0 ⋯ S (zV (zy 0 (h0.var ⋯)) zk) (zV (zy 1 (h0.var ⋯)) zk))) (λfp s2 H2=>have h1:=h0.cq ["a","b"] [] fp s2 H2 ⋯;h1.tgts (zY (h1.tgt 0 ⋯) (zY (h1.tgt 1 ⋯) ql))) (λfp s2 H2=>have h1:=h0.cq ["a","b"] [] fp s2 H2 ⋯;jt O ⋯ h1 ⋯ (zb (zV (zy 0 (h1.var ⋯)) zk) (zb (zV (zy 1 (h1.var ⋯)) zk) zm))))) zm)))))))
theorem ok_law_left(D:DefAt K mg "_law_left" (top 54) ["_law_found","_law_i","_law_j"])(I:mg "max" = none)(O:mg "min" = none)(z:mg "range" = none):FnD P w K mg base 1 "_law_left" 3 F_law_left:=
 xM (N:=["_law_found","_law_i","_law_j","_law_told","_law_first","_law_last","_law_stretch"]) D ⋯ λX S hw U hm Y h0 hx=>by
  subst S hw U hm Y;exact zau 3 (h0.set 3 ⋯ zaC) (Y6 (Y5 (T:= .nm 4) (xL hx) h0.calm (j7 h0 ⋯ z (jo (qS (ze 2 (h0.var ⋯)) (ze 1 (h0.var ⋯))) zk)) (h0.tgt 4 ⋯) (XD (Y5 (T:= .nm 5) (xL hx) h0.calm (ZU h0 ⋯ z (ze 4 (h0.var ⋯)) (jo (qS (ze 2 (h0.var ⋯)) (ze 1 (h0.var ⋯))) zk)) (h0.tgt 5 ⋯) (XD (zeQ (Vi (by have:=h0.u64;omega) (h0.var ⋯) (jC (xT (zb (ze 4 (h0.var ⋯)) (zb (ze 5 (h0.var ⋯)) zm)))) zk (by rfl))))))) (Y6 (Y5 (T:= .nm 6) (xL hx) h0.calm (XN (ze 0 (h0.var ⋯))) (h0.tgt 6 ⋯) (zbR (zbQ (h0.set 4 ⋯ (qS (zeY h0 ⋯ I (zV (zy 6 (h0.var ⋯)) zk) (ze 1 (h0.var ⋯))) (ze 1 (h0.var ⋯))))) (zbR (zbQ (h0.set 5 ⋯ (qS (zbU h0 ⋯ O (zV (zy 6 (h0.var ⋯)) zk) (ze 2 (h0.var ⋯))) (ze 1 (h0.var ⋯))))) (XD (zg9 (ze3 (ze 4 (h0.var ⋯)) (ze 5 (h0.var ⋯))) (XD (zeR (Vi (by have:=h0.u64;omega) (h0.var ⋯) (jC (xT (zb (ze 4 (h0.var ⋯)) (zb (ze 5 (h0.var ⋯)) zm)))) (zaB op_add (zdd (by have:=h0.u64;omega) (h0.var ⋯) (jC (xT (zb (ze 4 (h0.var ⋯)) (zb (ze 5 (h0.var ⋯)) zm))))) (vZ h0 (ze 0 (h0.var ⋯)) (ze 6 (h0.var ⋯)))) (by rfl))))))))) (zeS (zx (qI 3 (h0.var ⋯))))))
theorem ok_law{f:Addr}{fd:FuncData}(D:L2.Fun K "law" "law" (top 55) f fd)(I:FnD P w K mg base 1 "_law_cell" 2 F_law_cell)(Z:FnD P w K mg base 1 "_law_ways" 2 F_law_ways_k22)(O:FnD P w K mg base 3 "_law_drawn" 5 F_law_drawn_k22)(z:FnD P w K mg base 8 "numbers" 1 F_numbers)(a0:FnD P w K mg base 4 "cut" 3 F_cut)(a1:FnD P w K mg base 4 "beside" 2 F_beside)(a2:FnD P w K mg base 1 "_law_left" 3 F_law_left)(S:FnD P w K mg base 7 "kept" 3 F_kept)(U:mg "all" = none)(Y:mg "len" = none)(a3:mg "range" = none):FnOk P w K mg base CX0 9 f fd ["_law_script"] (spF K 1 F_law_k26):=
 zhD (N:=["_law_script","_law_cell_here","_law_p","_law_rooms","_law_ways_here","_law_row_here","_law_other","_law_found","_law_told","_law_both","_law_sums","_law_i","_law_j","_law_part"]) D ⋯ λX hP hw hK hm hb h0 hx=>by
  subst hP hw hK hm hb;exact(by refine zg ?_ ?_;exact(zZ 1 (h0.set 1 ⋯ (jt I ⋯ h0 ⋯ (zb (ze 0 (h0.var ⋯)) (zb zk zm)))));refine zg ?_ ?_;exact(zZ 2 (h0.set 2 ⋯ (zV (PO.q (v9 (xT (zb zk (zb zk (zb zk (zb zk zm))))))) (qw (ze 1 (h0.var ⋯)) zk))));refine zg ?_ ?_;exact(zZ 3 (h0.set 3 ⋯ (jo zk (qw (v0 (ze 1 (h0.var ⋯)) zk) zk))));refine zg ?_ ?_;exact(zZ 4 (h0.set 4 ⋯ (jt Z ⋯ h0 ⋯ (zb (v0 (ze 1 (h0.var ⋯)) zk) (zb (ze 3 (h0.var ⋯)) zm)))));refine zg ?_ ?_;exact(zZ 5 (h0.set 5 ⋯ (jt O ⋯ h0 ⋯ (zb (ze 0 (h0.var ⋯)) (zb zk (zb (ze 2 (h0.var ⋯)) (zb (ze 4 (h0.var ⋯)) (zb zk zm))))))));refine zg ?_ ?_;exact(zZ 6 (h0.set 6 ⋯ (jt O ⋯ h0 ⋯ (zb (ze 0 (h0.var ⋯)) (zb zk (zb (ze 2 (h0.var ⋯)) (zb (ze 4 (h0.var ⋯)) (zb zk zm))))))));refine zg ?_ ?_;exact(zZ 7 (h0.set 7 ⋯ (jt z ⋯ h0 ⋯ (zb (ze 5 (h0.var ⋯)) zm))));refine zg ?_ ?_;exact(zZ 8 (h0.set 8 ⋯ (jt z ⋯ h0 ⋯ (zb (ze 6 (h0.var ⋯)) zm))));refine zg ?_ ?_;exact(zZ 9 (h0.set 9 ⋯ (jt z ⋯ h0 ⋯ (zb (jt a1 ⋯ h0 ⋯ (zb (ze 5 (h0.var ⋯)) (zb (ze 6 (h0.var ⋯)) zm))) zm))));refine zg ?_ ?_;exact(jX 10 (psc 10 h0 ⋯ (own:=["_law_each"]) (fr:=[("_law_found",7),("_law_told",8),("_law_both",9)]) (T:= .nm 0) h0.calm (h0.compOk (fr:=[("_law_found",7),("_law_told",8),("_law_both",9)]) ⋯) ⋯ (PIF.c (XN (ze 7 (h0.var ⋯)))) (λfp s2 H2=>have h1:=h0.cq ["_law_each"] [("_law_found",7),("_law_told",8),("_law_both",9)] fp s2 H2 ⋯;h1.tgt 0 ⋯) (λfp s2 H2=>have h1:=h0.cq ["_law_each"] [("_law_found",7),("_law_told",8),("_law_both",9)] fp s2 H2 ⋯;zap h1 (vZ h1 (ze 3 (h1.var ⋯)) (ze 0 (h1.var ⋯))) (jo (vZ h1 (ze 1 (h1.var ⋯)) (ze 0 (h1.var ⋯))) (vZ h1 (ze 2 (h1.var ⋯)) (ze 0 (h1.var ⋯)))))));refine zg ?_ ?_;exact(xK (zc2 (zbS (zbX h0 (Va h0 ⋯ Y (ze 9 (h0.var ⋯))) (Va h0 ⋯ Y (ze 7 (h0.var ⋯)))) (Y7 (yI (v6 (zbW h0 ⋯ U (zy 10 (h0.var ⋯)))))))) (zx (jk ze0)) j6);refine zg ?_ ?_;exact(zZ 11 (h0.set 11 ⋯ (qw (jt I ⋯ h0 ⋯ (zb (ze 0 (h0.var ⋯)) (zb zk zm))) (ze 3 (h0.var ⋯)))));refine zg ?_ ?_;exact(zZ 12 (h0.set 12 ⋯ (jo (ze 11 (h0.var ⋯)) (qw (v0 (jt I ⋯ h0 ⋯ (zb (ze 0 (h0.var ⋯)) (zb zk zm))) zk) (qS (ze 3 (h0.var ⋯)) (ze 11 (h0.var ⋯)))))));refine zg ?_ ?_;exact(zZ 13 (h0.set 13 ⋯ (jt a0 ⋯ h0 ⋯ (zb (ze 5 (h0.var ⋯)) (zb (ze 11 (h0.var ⋯)) (zb (ze 12 (h0.var ⋯)) zm))))));refine zg ?_ ?_;exact(xK (zc3 h0 (jt z ⋯ h0 ⋯ (zb (ze 13 (h0.var ⋯)) zm)) (jt a2 ⋯ h0 ⋯ (zb (ze 7 (h0.var ⋯)) (zb (ze 11 (h0.var ⋯)) (zb (ze 12 (h0.var ⋯)) zm))))) (zx (jk ze0)) j6);exact(zx (jk (zbW h0 ⋯ U (PO.q (jL (own:=["_law_k"]) (fr:=[("_law_row_here",5),("_law_i",11),("_law_part",13)]) (T:= .nm 0) h0.calm (h0.compOk (fr:=[("_law_row_here",5),("_law_i",11),("_law_part",13)]) ⋯) ⋯ (PIF.c (j7 h0 ⋯ a3 (jo (qS (ze 12 (h0.var ⋯)) (ze 11 (h0.var ⋯))) zk))) (λfp s2 H2=>have h1:=h0.cq ["_law_k"] [("_law_row_here",5),("_law_i",11),("_law_part",13)] fp s2 H2 ⋯;h1.tgt 0 ⋯) (λfp s2 H2=>have h1:=h0.cq ["_law_k"] [("_law_row_here",5),("_law_i",11),("_law_part",13)] fp s2 H2 ⋯;zap h1 (jt S ⋯ h1 ⋯ (zb (ze 3 (h1.var ⋯)) (zb zk (zb (ze 0 (h1.var ⋯)) zm)))) (jt S ⋯ h1 ⋯ (zb (ze 1 (h1.var ⋯)) (zb (ze 2 (h1.var ⋯)) (zb (jo (ze 2 (h1.var ⋯)) (ze 0 (h1.var ⋯))) zm)))))))))))
theorem ok_init{f C:Addr}{fd:FuncData}(z:L2.Fun K "__init__" "Arrow.__init__" (inCls (top 21) 0) f fd)(c:ClsA K C):FnOk P w K mg base CX0 1 f fd ["self","p","table"] (vT C):=
 zdD (k:=0) z ⋯ c λX I hw O hm S h0=>by
  subst I hw O hm S;exact yl (zb0 (h0.var ⋯) (h0.var ⋯) rfl) (yK (zb0 (h0.var ⋯) (h0.var ⋯) rfl))
theorem ok_forthR{f C:Addr}{fd:FuncData}(I:L2.Fun K "forth" "Right.forth" (inCls (top 22) 0) f fd)(c:ClsA K C)(O:FnD P w K mg base 4 "led_on" 3 F_led_on):FnOk P w K mg base CX0 5 f fd ["self","base"] (spForth K C F_led_on):=
 X9 (k:=4) I ⋯ c λX S hw U hm z h0=>by
  subst S hw U hm z;obtain⟨fa,fd,ps,hn,G,hm,Y,z⟩:=O.ex;rw [hn]at G;exact yK (Zh (wa G (h0.room.mono ⋯) (h0.gl (x:="led_on") ⋯).1 hm Y z .nil JS (zS (XO (h0.var ⋯) rfl) (zS (XO (h0.var ⋯) rfl) (zS (h0.var ⋯) jP)))))
theorem ok_forthL{f C:Addr}{fd:FuncData}(I:L2.Fun K "forth" "Left.forth" (inCls (top 23) 0) f fd)(c:ClsA K C)(O:FnD P w K mg base 4 "led_into" 3 F_led_into):FnOk P w K mg base CX0 5 f fd ["self","base"] (spForth K C F_led_into):=
 X9 (k:=4) I ⋯ c λX S hw U hm z h0=>by
  subst S hw U hm z;obtain⟨fa,fd,ps,hn,G,hm,Y,z⟩:=O.ex;rw [hn]at G;exact yK (Zh (wa G (h0.room.mono ⋯) (h0.gl (x:="led_into") ⋯).1 hm Y z .nil JS (zS (XO (h0.var ⋯) rfl) (zS (XO (h0.var ⋯) rfl) (zS (h0.var ⋯) jP)))))
theorem ok_by{f fI CR CL:Addr}{fd z:FuncData}(O:L2.Fun K "arrow_by" "arrow_by" (top 24) f fd)(S:Mk K CR fI)(U:Mk K CL fI)(Y:FnOk P w K mg base CX0 1 fI z ["self","p","table"] (vT CR))(GL:FnOk P w K mg base CX0 1 fI z ["self","p","table"] (vT CL))(I:Binds K z ["self","p","table"] [])(mR:mg "Right" = some (.ref CR))(mL:mg "Left" = some (.ref CL)):FnOk P w K mg base CX0 3 f fd ["p","way","table"] (spBy CR CL):=
 zhC (k:=2) O ⋯ λX Z hw hK hm hb h0=>by
  subst Z hw hK hm hb;exact yK (Zh (L2.pe_ifExp (Vf zhj (h0.var ⋯) zb4 (by with_unfolding_all rfl)) (Vq S Y (h0.room.mono ⋯) (h0.gl (x:="Right") ⋯).1 mR I .nil JS (zS (h0.var ⋯) (zS (h0.var ⋯) jP))) (Vq U GL (h0.room.mono ⋯) (h0.gl (x:="Left") ⋯).1 mL I .nil JS (zS (h0.var ⋯) (zS (h0.var ⋯) jP)))))
end
end DL
namespace PySem.W.Fast
def tw5242785422285959107:=0
def tw7152798416941514036:=0
def tw5439963337154885748:=0
def tw9288787974521651876:=0
def tw4495204661829141113:=0
def tw10858751651214207100:=0
def tw5251445094261220184:=0
def tw14145596628832516087:=0
def tw9061764330300987788:=0
def tw7563619841471692462:=0
def tw7256725682833968410:=0
def tw16210091352740085461:=0
def tw14134133028694523612:=0
def tw47437446229256525:=0
def tw15850906633634748739:=0
def tw3191009478111411728:=0
def tw2650216425897367760:=0
def tw13029257671581079266:=0
def tw9380963049709932417:=0
def tw14422293520749532076:=0
def tw4561879429061222584:=0
def tw10043176143642471878:=0
def tw10696275514451479206:=0
def tw2077145966043930425:=0
def tw15697647158936983845:=0
def tw17876436350908265586:=0
def tw12323160774486515919:=0
def tw7924081013292902161:=0
def tw17453583700111511292:=0
def tw5901241839037182296:=0
def tw5230728613145320380:=0
def tw3640780025548722241:=0
def tw13733652020505772983:=0
def tw8961921835387240283:=0
def tw15044860995546993840:=0
def tw5832107504166250249:=0
def tw2174398393513338263:=0
def tw13288531922198869387:=0
def tw8966585259617641215:=0
def tw15294732957460796651:=0
def tw7260888287749826077:=0
def tw4036497891822016683:=0
def tw5060174903544416585:=0
def tw3534136524279145035:=0
def tw12406345761557488056:=0
def tw11159991635413941557:=0
def tw3604766905617426727:=0
def tw454130367818704224:=0
def tw4300828846238868816:=0
def tw14459893409218315127:=0
def tw8371159049969564870:=0
def tw13183439629010836844:=0
def tw6541926858459360623:=0
def tw10542785640309179743:=0
def tw1714811962138312069:=0
def tw13800849968150698315:=0
def tw7840664441965749873:=0
def tw5343384772572595336:=0
def tw12053375991132091171:=0
def tw3298330614828316492:=0
def tw8816438118269601562:=0
def tw9308126434968259257:=0
def tw9374861611357264842:=0
def tw8032461572300576353:=0
def tw11308514421994483813:=0
def tw7413653337917220081:=0
def tw15639587022448747613:=0
def tw3752406215355122951:=0
def tw15366422897136495703:=0
def tw7266609335229624349:=0
def tw11414159442140333487:=0
def tw14035486491316426032:=0
def tw3019700651107890479:=0
def tw798462565747741774:=0
def tw15747705168944749979:=0
def tw12157285075362285546:=0
def tw16894897539668303667:=0
def tw18145139412065660428:=0
def tw12416273043576350731:=0
def tw12405442937986722137:=0
def tw13237721046177614256:=0
def tw8838985786908689260:=0
def tw15265402627524141800:=0
def tw7930864719013930508:=0
def tw12472048821752441537:=0
def tw13392365052087569116:=0
end PySem.W.Fast
open PySem PySem.W PyProof.Rows
set_option maxRecDepth 100000 in
set_option maxHeartbeats 0 in
theorem PySem.Challenge.cw_barsplit_k26_whole_beside_and_cut_holds : PySem.Challenge.rw_barsplit_k26_whole_beside_and_cut.Holds := by
 w_on;o_law;k_head;(case hw=>w_witness2)
 k_fill
 refine L2.walk_ofK (l:=zi1) (n:=63) (k:=9) (x:="_law_script") (CX:=L2.CX0) (sp:=λK=>DL.spF K 1 DL.F_law_k26) rfl ⋯ rfl ⟨rfl,by decide,by decide⟩ (λw h Y=>PySem.W.kIn_of Y) ?F ?S ?C
 case S=>exact λK H a ns O hO hS=>DL.law_true hS (DL.law_k26 ns O)
 case C=>exact λ_ _ _ _ z=>z
 case F=>
  intro w mg fa h I G am;have an:mg "all" = none:=zjQ I G (by k_is);have ao:mg "any" = none:=zjQ I G (by k_is);have ap:mg "bool" = none:=zjQ I G (by k_is);have aq:mg "dict" = none:=zjQ I G (by k_is);have a7:mg "enumerate" = none:=zjQ I G (by k_is);have a8:mg "int" = none:=zjQ I G (by k_is);have ar:mg "isinstance" = none:=zjQ I G (by k_is);have a1:mg "len" = none:=zjQ I G (by k_is);have as:mg "max" = none:=zjQ I G (by k_is);have a9:mg "min" = none:=zjQ I G (by k_is);have U:mg "range" = none:=zjQ I G (by k_is);have aa:mg "sum" = none:=zjQ I G (by k_is);have Z:mg "tuple" = none:=zjQ I G (by k_is);have a0:mg "zip" = none:=zjQ I G (by k_is);have au:DL.GL (L2.KOf I) mg "MOST_TOGETHER" (.int 30):=by
   dsimp only [L2.KOf];refine' DL.gl_int I G ?a
   (case a=>k_is)
  have av:DL.DefAt (L2.KOf I) mg "_law_cell" (DL.top 48) ["_law_script","_law_k"]:=by
   dsimp only [L2.KOf];refine' DL.def_mk I G ?a ?l ?c ?k ?b
   (case a=>k_is);(case l=>k_is);(case c=>k_is);(case k=>k_is)
   (case b=>intro _ _ _ _ _ _ us O;obtain⟨_,_,rfl⟩:=DL.len2 O;rfl)
  have aw:DL.DefAt (L2.KOf I) mg "_law_ways" (DL.top 51) ["_law_cell_here","_law_rooms"]:=by
   dsimp only [L2.KOf];refine' DL.def_mk I G ?a ?l ?c ?k ?b
   (case a=>k_is);(case l=>k_is);(case c=>k_is);(case k=>k_is)
   (case b=>intro _ _ _ _ _ _ us O;obtain⟨_,_,rfl⟩:=DL.len2 O;rfl)
  have ax:DL.DefAt (L2.KOf I) mg "_law_ends" (DL.top 49) ["_law_k","_law_way"]:=by
   dsimp only [L2.KOf];refine' DL.def_mk I G ?a ?l ?c ?k ?b
   (case a=>k_is);(case l=>k_is);(case c=>k_is);(case k=>k_is)
   (case b=>intro _ _ _ _ _ _ us O;obtain⟨_,_,rfl⟩:=DL.len2 O;rfl)
  have ay:DL.DefAt (L2.KOf I) mg "_law_row" (DL.top 50) ["_law_p","_law_ways_here","_law_widths","_law_tables"]:=by
   dsimp only [L2.KOf];refine' DL.def_mk I G ?a ?l ?c ?k ?b
   (case a=>k_is);(case l=>k_is);(case c=>k_is);(case k=>k_is)
   (case b=>intro _ _ _ _ _ _ us O;obtain⟨_,_,_,_,rfl⟩:=DL.len4 O;rfl)
  have az:DL.DefAt (L2.KOf I) mg "_law_rows" (DL.top 52) ["_law_script","_law_at","_law_p","_law_high","_law_wide"]:=by
   dsimp only [L2.KOf];refine' DL.def_mk I G ?a ?l ?c ?k ?b
   (case a=>k_is);(case l=>k_is);(case c=>k_is);(case k=>k_is)
   (case b=>intro _ _ _ _ _ _ us O;obtain⟨_,_,_,_,_,rfl⟩:=DL.len5 O;rfl)
  have b0:DL.DefAt (L2.KOf I) mg "_law_drawn" (DL.top 53) ["_law_script","_law_at","_law_p","_law_ways_here","_law_most"]:=by
   dsimp only [L2.KOf];refine' DL.def_mk I G ?a ?l ?c ?k ?b
   (case a=>k_is);(case l=>k_is);(case c=>k_is);(case k=>k_is)
   (case b=>intro _ _ _ _ _ _ us O;obtain⟨_,_,_,_,_,rfl⟩:=DL.len5 O;rfl)
  have b9:DL.DefAt (L2.KOf I) mg "stretches_of" (DL.top 44) ["many"]:=by
   dsimp only [L2.KOf];refine' DL.def_mk I G ?a ?l ?c ?k ?b
   (case a=>k_is);(case l=>k_is);(case c=>k_is);(case k=>k_is)
   (case b=>intro _ _ _ _ _ _ us O;obtain⟨_,rfl⟩:=DL.len1 O;rfl)
  have ba:DL.DefAt (L2.KOf I) mg "rests" (DL.top 8) ["p","numbers"]:=by
   dsimp only [L2.KOf];refine' DL.def_mk I G ?a ?l ?c ?k ?b
   (case a=>k_is);(case l=>k_is);(case c=>k_is);(case k=>k_is)
   (case b=>intro _ _ _ _ _ _ us O;obtain⟨_,_,rfl⟩:=DL.len2 O;rfl)
  have bb:DL.DefAt (L2.KOf I) mg "inverse" (DL.top 9) ["p","x"]:=by
   dsimp only [L2.KOf];refine' DL.def_mk I G ?a ?l ?c ?k ?b
   (case a=>k_is);(case l=>k_is);(case c=>k_is);(case k=>k_is)
   (case b=>intro _ _ _ _ _ _ us O;obtain⟨_,_,rfl⟩:=DL.len2 O;rfl)
  have bc:DL.DefAt (L2.KOf I) mg "cleared" (DL.top 15) ["p","load","pivot","place"]:=by
   dsimp only [L2.KOf];refine' DL.def_mk I G ?a ?l ?c ?k ?b
   (case a=>k_is);(case l=>k_is);(case c=>k_is);(case k=>k_is)
   (case b=>intro _ _ _ _ _ _ us O;obtain⟨_,_,_,_,rfl⟩:=DL.len4 O;rfl)
  have bd:DL.DefAt (L2.KOf I) mg "base_of" (DL.top 16) ["p","long","loads"]:=by
   dsimp only [L2.KOf];refine' DL.def_mk I G ?a ?l ?c ?k ?b
   (case a=>k_is);(case l=>k_is);(case c=>k_is);(case k=>k_is)
   (case b=>intro _ _ _ _ _ _ us O;obtain⟨_,_,_,rfl⟩:=DL.len3 O;rfl)
  have be:DL.DefAt (L2.KOf I) mg "led" (DL.top 10) ["p","table","load"]:=by
   dsimp only [L2.KOf];refine' DL.def_mk I G ?a ?l ?c ?k ?b
   (case a=>k_is);(case l=>k_is);(case c=>k_is);(case k=>k_is)
   (case b=>intro _ _ _ _ _ _ us O;obtain⟨_,_,_,rfl⟩:=DL.len3 O;rfl)
  have bf:DL.DefAt (L2.KOf I) mg "led_on" (DL.top 18) ["p","table","base"]:=by
   dsimp only [L2.KOf];refine' DL.def_mk I G ?a ?l ?c ?k ?b
   (case a=>k_is);(case l=>k_is);(case c=>k_is);(case k=>k_is)
   (case b=>intro _ _ _ _ _ _ us O;obtain⟨_,_,_,rfl⟩:=DL.len3 O;rfl)
  have bg:DL.DefAt (L2.KOf I) mg "behind_noughts" (DL.top 17) ["many","base"]:=by
   dsimp only [L2.KOf];refine' DL.def_mk I G ?a ?l ?c ?k ?b
   (case a=>k_is);(case l=>k_is);(case c=>k_is);(case k=>k_is)
   (case b=>intro _ _ _ _ _ _ us O;obtain⟨_,_,rfl⟩:=DL.len2 O;rfl)
  have bh:DL.DefAt (L2.KOf I) mg "turned_over" (DL.top 11) ["table"]:=by
   dsimp only [L2.KOf];refine' DL.def_mk I G ?a ?l ?c ?k ?b
   (case a=>k_is);(case l=>k_is);(case c=>k_is);(case k=>k_is)
   (case b=>intro _ _ _ _ _ _ us O;obtain⟨_,rfl⟩:=DL.len1 O;rfl)
  have bi:DL.DefAt (L2.KOf I) mg "same_table" (DL.top 12) ["many"]:=by
   dsimp only [L2.KOf];refine' DL.def_mk I G ?a ?l ?c ?k ?b
   (case a=>k_is);(case l=>k_is);(case c=>k_is);(case k=>k_is)
   (case b=>intro _ _ _ _ _ _ us O;obtain⟨_,rfl⟩:=DL.len1 O;rfl)
  have bj:DL.DefAt (L2.KOf I) mg "led_into" (DL.top 19) ["p","table","base"]:=by
   dsimp only [L2.KOf];refine' DL.def_mk I G ?a ?l ?c ?k ?b
   (case a=>k_is);(case l=>k_is);(case c=>k_is);(case k=>k_is)
   (case b=>intro _ _ _ _ _ _ us O;obtain⟨_,_,_,rfl⟩:=DL.len3 O;rfl)
  have bl:DL.DefAt (L2.KOf I) mg "tables_joined" (DL.top 33) ["one","other","join"]:=by
   dsimp only [L2.KOf];refine' DL.def_mk I G ?a ?l ?c ?k ?b
   (case a=>k_is);(case l=>k_is);(case c=>k_is);(case k=>k_is)
   (case b=>intro _ _ _ _ _ _ us O;obtain⟨_,_,_,rfl⟩:=DL.len3 O;rfl)
  have bm:DL.DefAt (L2.KOf I) mg "nought_table" (DL.top 13) ["high","wide"]:=by
   dsimp only [L2.KOf];refine' DL.def_mk I G ?a ?l ?c ?k ?b
   (case a=>k_is);(case l=>k_is);(case c=>k_is);(case k=>k_is)
   (case b=>intro _ _ _ _ _ _ us O;obtain⟨_,_,rfl⟩:=DL.len2 O;rfl)
  have bn:DL.DefAt (L2.KOf I) mg "no_join" (DL.top 34) ["one","other"]:=by
   dsimp only [L2.KOf];refine' DL.def_mk I G ?a ?l ?c ?k ?b
   (case a=>k_is);(case l=>k_is);(case c=>k_is);(case k=>k_is)
   (case b=>intro _ _ _ _ _ _ us O;obtain⟨_,_,rfl⟩:=DL.len2 O;rfl)
  have bo:DL.DefAt (L2.KOf I) mg "tables_beside" (DL.top 35) ["one","other"]:=by
   dsimp only [L2.KOf];refine' DL.def_mk I G ?a ?l ?c ?k ?b
   (case a=>k_is);(case l=>k_is);(case c=>k_is);(case k=>k_is)
   (case b=>intro _ _ _ _ _ _ us O;obtain⟨_,_,rfl⟩:=DL.len2 O;rfl)
  have bp:DL.DefAt (L2.KOf I) mg "link" (DL.top 42) ["row","i","j"]:=by
   dsimp only [L2.KOf];refine' DL.def_mk I G ?a ?l ?c ?k ?b
   (case a=>k_is);(case l=>k_is);(case c=>k_is);(case k=>k_is)
   (case b=>intro _ _ _ _ _ _ us O;obtain⟨_,_,_,rfl⟩:=DL.len3 O;rfl)
  have bq:DL.DefAt (L2.KOf I) mg "kept" (DL.top 43) ["row","i","j"]:=by
   dsimp only [L2.KOf];refine' DL.def_mk I G ?a ?l ?c ?k ?b
   (case a=>k_is);(case l=>k_is);(case c=>k_is);(case k=>k_is)
   (case b=>intro _ _ _ _ _ _ us O;obtain⟨_,_,_,rfl⟩:=DL.len3 O;rfl)
  have br:DL.DefAt (L2.KOf I) mg "number_of" (DL.top 45) ["much","i","j"]:=by
   dsimp only [L2.KOf];refine' DL.def_mk I G ?a ?l ?c ?k ?b
   (case a=>k_is);(case l=>k_is);(case c=>k_is);(case k=>k_is)
   (case b=>intro _ _ _ _ _ _ us O;obtain⟨_,_,_,rfl⟩:=DL.len3 O;rfl)
  have bt:DL.DefAt (L2.KOf I) mg "numbers" (DL.top 46) ["row"]:=by
   dsimp only [L2.KOf];refine' DL.def_mk I G ?a ?l ?c ?k ?b
   (case a=>k_is);(case l=>k_is);(case c=>k_is);(case k=>k_is)
   (case b=>intro _ _ _ _ _ _ us O;obtain⟨_,rfl⟩:=DL.len1 O;rfl)
  have bu:DL.DefAt (L2.KOf I) mg "is_whole" (DL.top 7) ["x"]:=by
   dsimp only [L2.KOf];refine' DL.def_mk I G ?a ?l ?c ?k ?b
   (case a=>k_is);(case l=>k_is);(case c=>k_is);(case k=>k_is)
   (case b=>intro _ _ _ _ _ _ us O;obtain⟨_,rfl⟩:=DL.len1 O;rfl)
  have bv:DL.DefAt (L2.KOf I) mg "is_room" (DL.top 27) ["many","k"]:=by
   dsimp only [L2.KOf];refine' DL.def_mk I G ?a ?l ?c ?k ?b
   (case a=>k_is);(case l=>k_is);(case c=>k_is);(case k=>k_is)
   (case b=>intro _ _ _ _ _ _ us O;obtain⟨_,_,rfl⟩:=DL.len2 O;rfl)
  have bw:DL.DefAt (L2.KOf I) mg "ask_rooms" (DL.top 39) ["row","i","j"]:=by
   dsimp only [L2.KOf];refine' DL.def_mk I G ?a ?l ?c ?k ?b
   (case a=>k_is);(case l=>k_is);(case c=>k_is);(case k=>k_is)
   (case b=>intro _ _ _ _ _ _ us O;obtain⟨_,_,_,rfl⟩:=DL.len3 O;rfl)
  have bx:DL.DefAt (L2.KOf I) mg "cut" (DL.top 40) ["row","i","j"]:=by
   dsimp only [L2.KOf];refine' DL.def_mk I G ?a ?l ?c ?k ?b
   (case a=>k_is);(case l=>k_is);(case c=>k_is);(case k=>k_is)
   (case b=>intro _ _ _ _ _ _ us O;obtain⟨_,_,_,rfl⟩:=DL.len3 O;rfl)
  have bz:DL.DefAt (L2.KOf I) mg "ways_of" (DL.top 28) ["row"]:=by
   dsimp only [L2.KOf];refine' DL.def_mk I G ?a ?l ?c ?k ?b
   (case a=>k_is);(case l=>k_is);(case c=>k_is);(case k=>k_is)
   (case b=>intro _ _ _ _ _ _ us O;obtain⟨_,rfl⟩:=DL.len1 O;rfl)
  have c0:DL.DefAt (L2.KOf I) mg "one_kind" (DL.top 29) ["one","other"]:=by
   dsimp only [L2.KOf];refine' DL.def_mk I G ?a ?l ?c ?k ?b
   (case a=>k_is);(case l=>k_is);(case c=>k_is);(case k=>k_is)
   (case b=>intro _ _ _ _ _ _ us O;obtain⟨_,_,rfl⟩:=DL.len2 O;rfl)
  have c1:DL.DefAt (L2.KOf I) mg "ask_one_kind" (DL.top 30) ["one","other"]:=by
   dsimp only [L2.KOf];refine' DL.def_mk I G ?a ?l ?c ?k ?b
   (case a=>k_is);(case l=>k_is);(case c=>k_is);(case k=>k_is)
   (case b=>intro _ _ _ _ _ _ us O;obtain⟨_,_,rfl⟩:=DL.len2 O;rfl)
  have c2:DL.DefAt (L2.KOf I) mg "ask_together" (DL.top 31) ["widths"]:=by
   dsimp only [L2.KOf];refine' DL.def_mk I G ?a ?l ?c ?k ?b
   (case a=>k_is);(case l=>k_is);(case c=>k_is);(case k=>k_is)
   (case b=>intro _ _ _ _ _ _ us O;obtain⟨_,rfl⟩:=DL.len1 O;rfl)
  have c3:DL.DefAt (L2.KOf I) mg "widths_together" (DL.top 36) ["one","other"]:=by
   dsimp only [L2.KOf];refine' DL.def_mk I G ?a ?l ?c ?k ?b
   (case a=>k_is);(case l=>k_is);(case c=>k_is);(case k=>k_is)
   (case b=>intro _ _ _ _ _ _ us O;obtain⟨_,_,rfl⟩:=DL.len2 O;rfl)
  have c4:DL.DefAt (L2.KOf I) mg "joined" (DL.top 37) ["one","other","joins"]:=by
   dsimp only [L2.KOf];refine' DL.def_mk I G ?a ?l ?c ?k ?b
   (case a=>k_is);(case l=>k_is);(case c=>k_is);(case k=>k_is)
   (case b=>intro _ _ _ _ _ _ us O;obtain⟨_,_,_,rfl⟩:=DL.len3 O;rfl)
  have c5:DL.DefAt (L2.KOf I) mg "beside" (DL.top 38) ["one","other"]:=by
   dsimp only [L2.KOf];refine' DL.def_mk I G ?a ?l ?c ?k ?b
   (case a=>k_is);(case l=>k_is);(case c=>k_is);(case k=>k_is)
   (case b=>intro _ _ _ _ _ _ us O;obtain⟨_,_,rfl⟩:=DL.len2 O;rfl)
  have c6:DL.DefAt (L2.KOf I) mg "_law_left" (DL.top 54) ["_law_found","_law_i","_law_j"]:=by
   dsimp only [L2.KOf];refine' DL.def_mk I G ?a ?l ?c ?k ?b
   (case a=>k_is);(case l=>k_is);(case c=>k_is);(case k=>k_is)
   (case b=>intro _ _ _ _ _ _ us O;obtain⟨_,_,_,rfl⟩:=DL.len3 O;rfl)
  have c7:DL.DefAt (L2.KOf I) mg "law" (DL.top 55) ["_law_script"]:=by
   dsimp only [L2.KOf];refine' DL.def_mk I G ?a ?l ?c ?k ?b
   (case a=>k_is);(case l=>k_is);(case c=>k_is);(case k=>k_is)
   (case b=>intro _ _ _ _ _ _ us O;obtain⟨_,rfl⟩:=DL.len1 O;rfl)
  have AR:DL.ArrAt (L2.KOf I) mg (DL.inCls (DL.top 21) 0) (DL.inCls (DL.top 22) 0) (DL.inCls (DL.top 23) 0):=by
   dsimp only [L2.KOf];refine' DL.arr_mk I G ?nR ?nL ?iR ?iL ?mR ?mL ?uI ?uR ?uL ?vI ?vR ?vL ?w1 ?w2 ?w3 ?z1 ?z2 ?z3 ?bR ?bL ?gI ?gR ?gL
   (case nR=>k_is)
   (case nL=>k_is)
   (case iR=>k_is)
   (case iL=>k_is)
   (case mR=>k_is)
   (case mL=>k_is)
   (case uI=>k_is)
   (case uR=>k_is)
   (case uL=>k_is)
   (case vI=>k_is)
   (case vR=>k_is)
   (case vL=>k_is)
   (case w1=>k_is)
   (case w2=>k_is)
   (case w3=>k_is)
   (case z1=>k_is)
   (case z2=>k_is)
   (case z3=>k_is)
   (case bR=>kernel_rfl)
   (case bL=>kernel_rfl)
   (case gI=>intro _ _ _ _ _ _ us O;obtain⟨_,_,_,rfl⟩:=DL.len3 O;rfl)
   (case gR=>intro _ _ _ _ _ _ us O;obtain⟨_,_,rfl⟩:=DL.len2 O;rfl)
   (case gL=>intro _ _ _ _ _ _ us O;obtain⟨_,_,rfl⟩:=DL.len2 O;rfl)
  have c9:DL.DefAt (L2.KOf I) mg "arrow_by" (DL.top 24) ["p","way","table"]:=by
   dsimp only [L2.KOf];refine' DL.def_mk I G ?a ?l ?c ?k ?b
   (case a=>k_is);(case l=>k_is);(case c=>k_is);(case k=>k_is)
   (case b=>intro _ _ _ _ _ _ us O;obtain⟨_,_,_,rfl⟩:=DL.len3 O;rfl)
  obtain⟨f,fd,Fu,hb,hm⟩:=c7.ex;have e0:=am.symm.trans hm;cases e0;refine⟨fd,λs u=> .of_eq (hb [u] rfl),λbase kb nb=>?_⟩;obtain⟨CR,CL,fI,fR,fL,dI,dR,dL,q1,q2,q3,q4,q5,q6,q7,q8,q9,cj,ck,cl,cm,cn⟩:=AR.ex;obtain⟨co,cp,ac,cq,cr⟩:=c9.ex;have cs:DL.FnBy (zi1).prog w (L2.KOf I) mg base 3 "arrow_by" CR CL:=⟨co,cp,DL.ok_by ac q3 q4 (DL.ok_init q9 q5) (DL.ok_init q9 q6) cl q1 q2,cr,ac.kp,.all cq⟩;have a4:DL.FnD (zi1).prog w (L2.KOf I) mg base 1 "_law_cell" 2 DL.F_law_cell:=DL.ok_law_cell av a1 a9 U;have ct:DL.FnD (zi1).prog w (L2.KOf I) mg base 1 "_law_ways" 2 DL.F_law_ways_k22:=DL.ok_law_ways_k22 aw U;have ad:DL.FnD (zi1).prog w (L2.KOf I) mg base 1 "_law_ends" 2 DL.F_law_ends_k22:=DL.ok_law_ends_k22 ax;have cu:DL.FnD (zi1).prog w (L2.KOf I) mg base 2 "_law_row" 4 DL.F_law_row_k22:=DL.ok_law_row_k22 ay ad a7 Z;have cv:DL.FnD (zi1).prog w (L2.KOf I) mg base 2 "_law_rows" 5 DL.F_law_rows_k22:=DL.ok_law_rows_k22 az a4 a8 U;have cw:DL.FnD (zi1).prog w (L2.KOf I) mg base 3 "_law_drawn" 5 DL.F_law_drawn_k22:=DL.ok_law_drawn_k22 b0 cu ad a4 cv a7 a1 U;have cx:DL.FnD (zi1).prog w (L2.KOf I) mg base 1 "stretches_of" 1 DL.F_stretches_of:=DL.ok_stretches_of b9 U;have a5:DL.FnD (zi1).prog w (L2.KOf I) mg base 1 "rests" 2 DL.F_rests:=DL.ok_rests ba Z;have cy:DL.FnD (zi1).prog w (L2.KOf I) mg base 1 "inverse" 2 DL.F_inverse:=DL.ok_inverse bb U;have cz:DL.FnD (zi1).prog w (L2.KOf I) mg base 2 "cleared" 4 DL.F_cleared:=DL.ok_cleared bc a5 a0;have a6:DL.FnD (zi1).prog w (L2.KOf I) mg base 3 "base_of" 3 DL.F_base_of:=DL.ok_base_of bd a5 cy cz U;have d0:DL.FnD (zi1).prog w (L2.KOf I) mg base 2 "led" 3 DL.F_led:=DL.ok_led be a5 aa a0;have ae:DL.FnD (zi1).prog w (L2.KOf I) mg base 4 "led_on" 3 DL.F_led_on:=DL.ok_led_on bf a6 d0;have af:DL.FnD (zi1).prog w (L2.KOf I) mg base 1 "behind_noughts" 2 DL.F_behind_noughts:=DL.ok_behind_noughts bg ao;have d1:DL.FnD (zi1).prog w (L2.KOf I) mg base 1 "turned_over" 1 DL.F_turned_over:=DL.ok_turned_over bh U Z;have ag:DL.FnD (zi1).prog w (L2.KOf I) mg base 1 "same_table" 1 DL.F_same_table:=DL.ok_same_table bi U Z;have ah:DL.FnD (zi1).prog w (L2.KOf I) mg base 4 "led_into" 3 DL.F_led_into:=DL.ok_led_into bj af a6 d1 ag a0;have ai:DL.FnD (zi1).prog w (L2.KOf I) mg base 1 "tables_joined" 3 DL.F_tables_joined:=DL.ok_tables_joined bl Z a0;have d2:DL.FnD (zi1).prog w (L2.KOf I) mg base 1 "nought_table" 2 DL.F_nought_table:=DL.ok_nought_table bm;have aj:DL.FnD (zi1).prog w (L2.KOf I) mg base 2 "no_join" 2 DL.F_no_join:=DL.ok_no_join bn d2;have d3:DL.FnD (zi1).prog w (L2.KOf I) mg base 3 "tables_beside" 2 DL.F_tables_beside_5:=DL.ok_tables_beside_5 bo ai aj;have d4:DL.MethAt (zi1).prog w (L2.KOf I) mg base 5 CR DL.F_led_on:=⟨q5,fR,dR,q7,DL.ok_forthR cj q5 ae,cm⟩;have d5:DL.MethAt (zi1).prog w (L2.KOf I) mg base 5 CL DL.F_led_into:=⟨q6,fL,dL,q8,DL.ok_forthL ck q6 ah,cn⟩;have d6:DL.FnD (zi1).prog w (L2.KOf I) mg base 6 "link" 3 DL.F_link:=DL.ok_link bp ae ah ag d3 cs d4 d5;have ak:DL.FnD (zi1).prog w (L2.KOf I) mg base 7 "kept" 3 DL.F_kept:=DL.ok_kept bq d6 a6 af a1;have d7:DL.FnD (zi1).prog w (L2.KOf I) mg base 1 "number_of" 3 DL.F_number_of:=DL.ok_number_of br;have d8:DL.FnD (zi1).prog w (L2.KOf I) mg base 8 "numbers" 1 DL.F_numbers:=DL.ok_numbers bt cx ak d7 aq a1;have d9:DL.FnD (zi1).prog w (L2.KOf I) mg base 1 "is_whole" 1 DL.F_is_whole:=DL.ok_is_whole bu ap a8 ar;have da:DL.FnD (zi1).prog w (L2.KOf I) mg base 2 "is_room" 2 DL.F_is_room:=DL.ok_is_room bv d9;have db:DL.FnD (zi1).prog w (L2.KOf I) mg base 3 "ask_rooms" 3 DL.F_ask_rooms:=DL.ok_ask_rooms bw da a1;have dd:DL.FnD (zi1).prog w (L2.KOf I) mg base 4 "cut" 3 DL.F_cut:=DL.ok_cut bx db;have de:DL.FnD (zi1).prog w (L2.KOf I) mg base 1 "ways_of" 1 DL.F_ways_of:=DL.ok_ways_of bz;have df:DL.FnD (zi1).prog w (L2.KOf I) mg base 2 "one_kind" 2 DL.F_one_kind:=DL.ok_one_kind c0 de;have dg:DL.FnD (zi1).prog w (L2.KOf I) mg base 3 "ask_one_kind" 2 DL.F_ask_one_kind:=DL.ok_ask_one_kind c1 df;have dh:DL.FnD (zi1).prog w (L2.KOf I) mg base 1 "ask_together" 1 DL.F_ask_together:=DL.ok_ask_together c2 aa au;have di:DL.FnD (zi1).prog w (L2.KOf I) mg base 2 "widths_together" 2 DL.F_widths_together:=DL.ok_widths_together c3 dh Z a0;have dj:DL.FnD (zi1).prog w (L2.KOf I) mg base 3 "joined" 3 DL.F_joined:=DL.ok_joined c4 di ai Z a0;have dk:DL.FnD (zi1).prog w (L2.KOf I) mg base 4 "beside" 2 DL.F_beside:=DL.ok_beside c5 dg dj aj a0;have dl:DL.FnD (zi1).prog w (L2.KOf I) mg base 1 "_law_left" 3 DL.F_law_left:=DL.ok_law_left c6 as a9 U;exact DL.ok_law Fu a4 ct cw d8 dd dk dl ak an a1 U
