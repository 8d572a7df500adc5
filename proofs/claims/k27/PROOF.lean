import PyProof.Rows.All
import Wide.All
import OpenK.AllK
import Wide.FinOn
import Lean
import PyProof.EqAt
import PyProof.EqKinds
import PyProof.TupleCall
import PySem.Str
import PyProof.ZipIter
import PyProof.IsiBase
import KE.KItemsList
import KE.KIsAll
import OpenK.KOwn
import KE.KSortAsk
import PyProof.StrBlockI
import PyProof.Rows.EqDataRows
import PyProof.Rows.InDataRows
import PyProof.SumWalkG
import PyProof.ConsumeWalk
import PyProof.WalksMore
import KE.KSortTup
import PyProof.ListMulRoad
import PyProof.EnumFor
import PyProof.Rows.EnumRows
import PyProof.StrBlockL
import PyProof.JoinWalk
import PyProof.NsDelKeeps
import KE.KTryDeep
import PyProof.InstStoreFacts
import PyProof.NsCount
import PyProof.ExcClass2
import PyProof.Rows.FStr
import PyProof.StationsW
import PyProof.Rows.Catch
import KE.KRevIter
import PyProof.CollectIter
import PyProof.TupleOfGen
import PyProof.Rows.Tup
import PyProof.Draws
import PyProof.EnumMake
import PyProof.StrWalks
import PyProof.SliceStr2
import PyProof.ListNew
import KE.KDictOf
import PyProof.ListRange
import PyProof.Rows.GenSrcRange
import PyProof.ListCopy
import PyProof.AttrMissHeap
import PyProof.DictWalks
import PyProof.TableCode
import PyProof.Rows.KernelRfl
import PySem.Challenge.RW_barsplit_k27_whole_widths_and_ranks
open PySem.Challenge renaming rw_barsplit_k27_whole_widths_and_ranks → zgh
open PySem renaming wpAny_bind → zgi, wpAny_pure → zgo, wpAny_newObj_type → zg8, wpAny_callSpecial?_slot → zg9, wpAny_field → zhj, wpAny_call_entry → zhu, wpAny_setField_rec → zhw, wpAny_loadPart' → zhS, wpAny_seqItems → zh0, wpAny_truthy_bool → zh4, wpAny_typeNameOfWhole_keyiter → zic, wpAny_mono → zid, wpAny_holding → zih, wpAny_attempt → zii, mem_of_lookup → zij, Builtin → zin, wpAny_Call_Name_kw → ziy, wpAny_passesOwn → ziS, pushCells_keeps → ziU, wpAny_typeOf → zi0, wpAny_pyIter_tuple → zi1, wpAny_rule → zi6, call_meets → zi7, codeAny_mono → zjo, wpAny_updateSeq_pair → zjv, codeAny_call_builtin → zjw, wpAny_setField → zjz, Within → zjA, wpAny_of_eq → zjE, wpAny_onRaise → zjO, wpAny_pyIter_list → zjS, wpAny_dictEntries → zjT, concat_meets → zjV, wpAny_isInstance → zjW, noFill_tuple_add → zjX
open List renaming range → zgj, mem_range → zgl, replicate → zgm, getElem?_eq_getElem → zgn, getD_eq_getElem?_getD → zgr, size_toArray → zgs, getElem?_set_ne → zgv, getElem?_eq_some_iff → zgw, mem_cons → zgz, getElem?_cons_zero → zgA, mem_filter → zgC, map_congr_left → zgD, getElem?_cons_succ → zgE, length_map → zgH, mem_cons_self → zgI, mem_cons_of_mem → zgJ, set_cons_zero → zgM, set_cons_succ → zgN, map_cons → zgO, not_mem_nil → zgP, eq_nil_of_length_eq_zero → zgX, countP_eq_length_filter → zgY, mem_map → zg1, length_cons → zg2, map_append → zg4, getElem?_append_right → zg5, getElem?_map → zg6, lookup_cons → zhb, mem_append_right → zhe, map_map → zhf, range_succ → zhi, getElem?_append_left → zhl, getElem?_set_self → zhp, length_append → zhq, length_range → zhz, range_eq_range' → zhA, replicate_succ → zhF, range'_succ → zhJ, countP_congr → zhN, take_of_length_le → zhR, pairwise_iff_getElem → zhT, length_nil → zhW, flatten_cons → zhX, range' → zh3, getElem_mem → zh6, length_take → zik, all_eq_true → zil, lookup → zim, nodup_cons → ziq, getElem?_replicate → zir, Pairwise → zis, pairwise_lt_range → ziv, pairwise_map → ziw, range_add → ziA, length_singleton → ziB, mem_of_getElem? → ziD, mem_append → ziJ, filter_sublist → ziK, find?_eq_none → ziP, filter_append → ziQ, zip_map' → zi2, length_filter_le → zi9, countP_map → zja, append_nil → zjb, getElem_of_mem → zjl, filterMap_cons → zjm, countP_eq_zero → zjn, mem_singleton → zju, length_eq_countP_add_countP → zjy, filter_congr → zjC, ext_getElem? → zjD, nodup_range → zjL, cons_append → zjM, map → zjP
open PySem.Heap renaming get?_push_of_some → zgk, get?_push_size → zgu, lt_size → zgy, size_push → zgW, push → zhc, SameBut → zh2, get?_update_self → zjc
open Nat renaming le_refl → zgp, not_lt_zero → zgx, lt_or_ge → zgF, lt_of_lt_of_le → zgG, add_sub_cancel_left → zgS, ne_of_lt → zgU, lt_irrefl → zgZ, le_trans → zhh, le_add_right → zhk, lt_succ_of_lt → zhm, lt_succ_self → zhx, zero_add → zhL, ne_of_gt → zhM, zero_le → zh5, lt_trichotomy → ziz, eq_zero_or_pos → ziR, add_assoc → zi3, le_of_lt → zjh, mul_comm → zjJ, add_zero → zjK
open Option renaming bind_some → zgq, map_some → zg3, isSome_iff_exists → zhr, some → zh1, map → zjt, getD_some → zjB
open Int renaming mul_emod → zgt, add_emod → zgL, emod_emod → zgT, emod_lt_of_pos → zgV, emod_nonneg → zhd, toNat_natCast → zhn, eq_ofNat_of_zero_le → zhB, emod_eq_of_lt → zhG, mul_comm → zhH, sub_emod → zhO, mul_assoc → zie, emod_eq_emod_iff_emod_sub_eq_zero → zig, toNat_of_nonneg → ziM, mul_add → zi4, mul_left_comm → zjH, mul_zero → zjN
open Bool renaming false_ne_true → zgB, or_eq_true → zhv, not_eq_true' → zhY, eq_iff_iff → zhZ, false_eq_true → zib
open PySem.Value renaming ref → zgK, none → zhI, type → ziF, bool → zjx
open PySem.Builtin.SmallTypes renaming nextOf → zgQ, ownedTupleIsFree → zha, ownedTupleHandOut → zhE, ownedTupleFields → ziN
open PySem.W renaming kia_one → zgR, mg_none_of → zg0, emptyDict → zhC, kitOne → zhK, cellsFrom_some → zio, nsIn → ziI, typeIn → ziL, lookIn → zi8, plainGet_of → zje, mg_of → zji, callWith_K → zjj, methodObj → zjq, kitx_list → zjr, kitx_dict → zjs
open Classical renaming byContradiction → zg7
open PySem.Str renaming ofString → zhg
open PyProof.Rows renaming callWith_type1 → zho, slot_tuple_getitem → zhs, slot_tupleiter_next → ziT, tupleItemsOf_ → zjd, callWith_builtin1 → zjf
open Ne renaming symm → zht
open Option.some renaming inj → zhy
open PySem.Builtin.Tuple renaming tupleExact → zhD, tupleIsExact → zh7
open PySem.F renaming slot_dict_keyiterator_next → zhP, slot_enumerate_next → zif, slot_list_getattribute → zit, slot_tuple_mul → ziH, args_tuple_add_2 → ziO, entry_tuple_add → ziV, slot_tuple_add → ziY, slot_zip_next → zjk, args_tuple_mul_2 → zjI, entry_tuple_mul → zjQ, args_dict_keyiterator_next_1 → zjR, entry_dict_keyiterator_next → zjU
open Array renaming length_toList → zhQ
open False renaming elim → zhU
open PySem.NameKind renaming cell → zhV
open True renaming intro → zh8
open PySem.Calls renaming spliced_cons → zh9, spliced_nil → ziX
open PySem.Builtin.Slice renaming slicePlaces → zia, sliceAdjust → ziC
open PySem.Obj renaming data_mapFields → ziu, isFreed_of_fields → zjg, cls_mapFields → zjG
open PySem.Heap.SameBut renaming update → zix
open List.Pairwise renaming imp_of_mem → ziE, filter → ziW
open PySem.Builtin.List renaming listTooLong → ziG
open ForInStep renaming yield → ziZ
open PySem.Builtin.Dict_items renaming ownsTuple → zi5
open Sum renaming inl → zjp, inr → zjF
local macro_rules | `(⋯) => `(by first | decide +kernel | omega | simp)
noncomputable section
set_option Elab.async false
set_option linter.all false
set_option maxRecDepth 100000
set_option maxHeartbeats 4000000
namespace L2
open PySem PySem.Spec PyProof.Rows
abbrev Key:=Sum Int Str
def zc7:Key->Value->Bool
 | .inl k,v=>Value.isInt k v
 | .inr x,v=>Value.isStrOf x v
def zf8(w:World):Key->Int
 | .inl k=>hashInt k
 | .inr x=>hashStr w x
theorem jy : ∀{k:Key} {v:Value},zc7 k v=true->(∃i t,k=zjp i/\v=Value.int i t)\/(∃x t,k=zjF x/\v=Value.str x t)
 | .inl i,v,h=>by
  obtain⟨t,e⟩:=Value.isInt_shape (k:=i) (v:=v) h;exact .inl ⟨i,t,rfl,e⟩
 | .inr x,v,h=>by
  obtain⟨t,e⟩:=Value.isStrOf_shape (x:=x) (v:=v) h;exact .inr ⟨x,t,rfl,e⟩
theorem zc6(a b:Int):decide ((zjp a:Key)=zjp b)=(a==b):=by
 by_cases e:a=b
 ·subst e;simp
 ·have h : ¬(zjp a:Key)=zjp b:=λq=>e (zjp.inj q)
  rw [decide_eq_false h];exact(beq_eq_false_iff_ne.mpr e).symm
theorem zc3(a b:Str):decide ((zjF a:Key)=zjF b)=decide (a=b):=by
 by_cases e:a=b
 ·subst e;simp
 ·have h : ¬(zjF a:Key)=zjF b:=λq=>e (zjF.inj q)
  rw [decide_eq_false h,decide_eq_false e]
theorem zc5(a:Int)(b:Str):decide ((zjp a:Key)=zjF b)=false:=decide_eq_false (λq=>nomatch q)
theorem zc4(a:Str)(b:Int):decide ((zjF a:Key)=zjp b)=false:=decide_eq_false (λq=>nomatch q)
def JF(prog:Program)(w:World):PySem.KeyKind prog w Key where
 is:=zc7
 hash:=zf8 w
 inj:=λv a b ha I=>by
  rcases jy ha with⟨i,t,rfl,rfl⟩ | ⟨x,t,rfl,rfl⟩
  ·rcases jy I with⟨j,u,rfl,e⟩ | ⟨y,u,rfl,e⟩
   ·injection e with e1 _;rw [e1]
   ·exact nomatch e
  ·rcases jy I with⟨j,u,rfl,e⟩ | ⟨y,u,rfl,e⟩
   ·exact nomatch e
   ·injection e with e1 _;rw [e1]
 byValue:=λk v h=>by
  rcases jy h with⟨i,t,rfl,rfl⟩ | ⟨x,t,rfl,rfl⟩<;>rfl
 pyHash:=λz h=>by
  rcases jy z with⟨i,t,rfl,rfl⟩ | ⟨x,t,rfl,rfl⟩
  ·exact wpAny_pyHash_int h
  ·exact wpAny_pyHash_str h
 eqBool:=λJ z h=>by
  rcases jy J with⟨i,t,rfl,rfl⟩ | ⟨x,t,rfl,rfl⟩
  ·rcases jy z with⟨j,u,rfl,rfl⟩ | ⟨y,u,rfl,rfl⟩
   ·rw [zc6]at h;exact wpAny_eqBool_int h
   ·rw [zc5]at h;exact SeqAt.EqAt.int_str i t y u _ _ _ _ h
  ·rcases jy z with⟨j,u,rfl,rfl⟩ | ⟨y,u,rfl,rfl⟩
   ·rw [zc4]at h;exact SeqAt.EqAt.str_int x t j u _ _ _ _ h
   ·rw [zc3]at h;exact wpAny_eqBool_str h
 «strs» :=λk x t v h=>by
  rcases jy h with⟨i,u,rfl,e⟩ | ⟨y,u,rfl,e⟩
  ·exact nomatch e
  ·injection e with e1 _
   subst e1;cases v<;>rfl
inductive V where
 | non | bl (b:Bool) | int (i:Int) | str (x:Str) | byt (b:Array UInt8) | flt (b:UInt64) | ref (a:Addr) | ty (n:String)
 deriving DecidableEq
def RelV:V->Value->Prop
 | .non,u=>u=zhI
 | .bl b,u=>u=zjx b
 | .int i,u=>∃t,u=Value.int i t
 | .str x,u=>∃t,u=Value.str x t
 | .byt b,u=>∃t,u=Value.bytes b t
 | .flt b,u=>∃t,u=Value.float b t
 | .ref a,u=>u=zgK a
 | .ty n,u=>u=ziF n
abbrev Vals:List V->List Value->Prop:=Paired RelV
theorem Vals.length{xs:List V}{us:List Value}(r:Vals xs us):xs.length=us.length:=Paired.length r
theorem Vals.get : ∀{xs:List V} {us:List Value} {i:Nat} {x:V},Vals xs us->xs[i]? = some x->∃u,us[i]? = some u/\RelV x u
 | _,_,_,_,.nil,e=>by simp at e
 | _,_,0,_,.cons r _,e=>by simp at e;subst e;exact⟨_,rfl,r⟩
 | _,_,i+1,x,.cons _ t,e=>by
  obtain⟨u,h1,h2⟩:=Vals.get (i:=i) (x:=x) t (by simpa using e);exact⟨u,by simpa using h1,h2⟩
theorem Vals.append : ∀{xs ys:List V} {us z:List Value},Vals xs us->Vals ys z->Vals (xs++ys) (us++z)
 | _,_,_,_,.nil,s=>s
 | _,_,_,_,.cons r t,s=> .cons r (Vals.append t s)
theorem Vals.take : ∀{xs:List V} {us:List Value} (n:Nat),Vals xs us->Vals (xs.take n) (us.take n)
 | _,_,0,_=> .nil
 | _,_,_+1,.nil=> .nil
 | _,_,n+1,.cons r t=> .cons r (Vals.take n t)
theorem Vals.drop : ∀{xs:List V} {us:List Value} (n:Nat),Vals xs us->Vals (xs.drop n) (us.drop n)
 | _,_,0,r=>r
 | _,_,_+1,.nil=> .nil
 | _,_,n+1,.cons _ t=>Vals.drop n t
def RelO:Option V->Option Value->Prop
 | some v,some u=>RelV v u
 | none,none=>True
 | _,_=>False
def KV{κ:Type}:List (κ×V)->List (κ×Value)->Prop:=Paired λ(p:κ×V) (q:κ×Value)=>p.1=q.1/\RelV p.2 q.2
def kV:Key->V
 | .inl i=> .int i
 | .inr x=> .str x
inductive HO where
 | lst (xs:List V)
 | tup (xs:List V)
 | dK (kvs:List (Key×V)) | dT (kvs:List (List Key×V))
 | set (S:Int->Bool) (n:Nat)
 | ins (C dx:Addr) (fs:List (Str×V))
 | own (x:Addr)
 | xd (fs:List (Str×V))
 | met (f x:Addr)
 | rng (lo hi:Int)
 | frz (o:Obj) (u:HO)
 | tbl (ps:Array Value)
 | ext (φ:Heap->Prop)
abbrev Hp:=Addr->Option HO
def upd(H:Hp)(a:Addr)(o:HO):Hp:=λb=>if b=a then some o else H b
theorem zH{H:Hp}{a:Addr}{o:HO}:upd H a o a=some o:=by unfold upd;rw [if_pos rfl]
theorem zJ{H:Hp}{a b:Addr}{o:HO}(h:b≠a):upd H a o b=H b:=by unfold upd;rw [if_neg h]
theorem yI{H:Hp}{a:Addr}{o u:HO}:upd (upd H a o) a u=upd H a u:=by
 funext b;unfold upd;split<;>rfl
theorem jq{H:Hp}{a b:Addr}{o:HO}(h:H a=some o)(h':H b=none):a≠b:=by
 intro e;subst e;rw [h]at h';cases h'
def IsTupD(h:Heap)(a:Addr)(items:Array Value):Prop:=∃o,h.get? a=some o/\(o.cls,o.dict)=(ziF "tuple",none)/\∃n,o.data = .seq items n
theorem IsTupD.new(h:Heap)(items:Array Value):IsTupD (h.push {cls:= .type "tuple",data:= .seq items}) h.objs.size items:=⟨_,zgu _ rfl,rfl,_,rfl⟩
theorem IsTupD.tup{h:Heap}{a:Addr}{items:Array Value}(x:IsTupD h a items):IsTup h a items:=let ⟨o,e,c,r⟩:=x;⟨o,e,(Prod.mk.inj c).1,r⟩
section
variable(P:Program)(w:World)
def ObjOk(H:Hp)(h:Heap)(a:Addr):HO->Prop
 | .lst xs=>xs.length<=sizeLine/\∃(z:List Value) (n:Nat),Vals xs z/\h.get? a=some {cls:= .type "list",data:= .seq z.toArray n}
 | .tup xs=>xs.length<=sizeLine/\∃z:List Value,Vals xs z/\IsTupD h a z.toArray
 | .dK kvs=>kvs.length<=sizeLine/\(a==sysModules)=false/\∃vs,KV kvs vs/\h.DictOf (JF P w) a vs
 | .dT kvs=>kvs.length<=sizeLine/\(a==sysModules)=false/\∃xs:List (List Key×Addr×Value),
  Paired (λ(p:List Key×V) (q:List Key×Addr×Value)=>p.1=q.1/\H q.2.1=some (.tup (p.1.map kV))/\RelV p.2 q.2.2) kvs xs/\
  ∃o es ep,h.get? a=some o/\o.ExactDict/\o.data = .dict es ep/\es.toList=xs.map (entryOfKey (tupleKind (JF P w)))/\(xs.map (·.1)).Nodup
 | .set S n=>h.SetOf (intKind P w) a S n
 | .ins C dx fs=>H dx=some (.own a)/\fs.length<=1000/\dx≠a/\h.get? a=some (PySem.W.instObj C dx)/\
  ∃mA,h.Ns1 dx mA/\(∀f,RelO (fs.lookup f) (mA f))/\zjA mA (fs.map (·.1))
 | .own _=>∃o,h.get? a=some o
 | .xd fs=>∃mA,h.Ns1 a mA/\∀f,RelO (fs.lookup f) (mA f)
 | .rng lo hi=>∃t u v,h.get? a=some {cls:= .type "range",data:= .fields #[.int lo t,.int hi u,.int 1 v]}
 | .frz o u=>h.get? a=some o/\ObjOk H h a u
 | .tbl ps=>h.get? a=some {cls:= .none,data:= .fields ps}
 | .met f x=>h.get? a=some (zjq (.ref f) (.ref x))
 | .ext φ=>φ h/\(∃o,h.get? a=some o)/\∀h1 h2:Heap,φ h1->(∀o,h1.get? a=some o->h2.get? a=some o)->φ h2
def HOk(H:Hp)(h:Heap):Prop:=∀a o,H a=some o->ObjOk P w H h a o
end
section
variable{P:Program}{w:World}{H H':Hp}{h h':Heap}{a:Addr}{o:HO}
theorem ObjOk.lt(x:ObjOk P w H h a o):a<h.objs.size:=by
 cases o with
 | lst xs=>obtain⟨_,_,_,_,e⟩:=x;exact zgy e
 | tup xs=>obtain⟨_,_,_,p⟩:=x;exact p.tup.lt
 | dK kvs=>obtain⟨_,_,_,_,o,_,_,e,_⟩:=x;exact zgy e
 | dT kvs=>obtain⟨_,_,_,_,o,_,_,e,_⟩:=x;exact zgy e
 | set S n=>obtain⟨o,_,_,_,e,_⟩:=x;exact zgy e
 | ins C dx fs=>obtain⟨_,_,_,e,_⟩:=x;exact zgy e
 | own y=>obtain⟨_,e⟩:=x;exact zgy e
 | xd fs=>obtain⟨_,⟨_,_,_,e,_⟩,_⟩:=x;exact zgy e
 | rng lo hi=>obtain⟨_,_,_,e⟩:=x;exact zgy e
 | frz z u=>obtain⟨e,_⟩:=x;exact zgy e
 | tbl ps=>exact zgy (show h.get? a=some _ from x)
 | met f y=>exact zgy (show h.get? a=some _ from x)
 | ext φ=>obtain⟨_,⟨_,e⟩,_⟩:=x;exact zgy e
theorem Paired.mapP{α β:Type}{F G:α->β->Prop} : ∀{z:List α} {I:List β},Paired F z I->(∀a b,F a b->G a b)->Paired G z I
 | _,_,.nil,_=> .nil
 | _,_,.cons r t,f=> .cons (f _ _ r) (Paired.mapP t f)
theorem ObjOk.stay(x:ObjOk P w H h a o)(k : ∀b u,(b=a\/H b=some (.own a))->h.get? b=some u->h'.get? b=some u)
 (O : ∀b,H b=some (.own a)->H' b=some (.own a)) (U : ∀b xs,H b=some (.tup xs)->H' b=some (.tup xs)):ObjOk P w H' h' a o:=by
 induction o with
 | lst xs=>obtain⟨z,J,n,r,e⟩:=x;exact⟨z,J,n,r,k _ _ (.inl rfl) e⟩
 | tup xs=>obtain⟨z,J,r,I,e,c⟩:=x;exact⟨z,J,r,I,k _ _ (.inl rfl) e,c⟩
 | dK kvs=>obtain⟨z,y,vs,r,I,es,ep,e,c⟩:=x;exact⟨z,y,vs,r,I,es,ep,k _ _ (.inl rfl) e,c⟩
 | dT kvs=>
  obtain⟨z,y,xs,r,I,es,ep,e,c⟩:=x;exact⟨z,y,xs,Paired.mapP r λp q z=>⟨z.1,U _ _ z.2.1,z.2.2⟩,I,es,ep,k _ _ (.inl rfl) e,c⟩
 | set S n=>obtain⟨I,es,ep,t,e,c⟩:=x;exact⟨I,es,ep,t,k _ _ (.inl rfl) e,c⟩
 | ins C dx fs=>
  obtain⟨d,z,ne,e,mA,⟨od,es,ep,Y,c⟩,r⟩:=x;exact⟨O _ d,z,ne,k _ _ (.inl rfl) e,mA,⟨od,es,ep,k _ _ (.inr d) Y,c⟩,r⟩
 | own y=>obtain⟨I,e⟩:=x;exact⟨I,k _ _ (.inl rfl) e⟩
 | xd fs=>obtain⟨mA,⟨od,es,ep,e,c⟩,r⟩:=x;exact⟨mA,⟨od,es,ep,k _ _ (.inl rfl) e,c⟩,r⟩
 | rng lo hi=>obtain⟨t,u,v,e⟩:=x;exact⟨t,u,v,k _ _ (.inl rfl) e⟩
 | frz I u Z=>obtain⟨e,q⟩:=x;exact⟨k _ _ (.inl rfl) e,Z q⟩
 | tbl ps=>
  have e:h.get? a=some {cls:= .none,data:= .fields ps}:=x;show h'.get? a=some {cls:= .none,data:= .fields ps};exact k a _ (.inl rfl) e
 | met f y=>
  have e:h.get? a=some (zjq (.ref f) (.ref y)):=x;show h'.get? a=some (zjq (.ref f) (.ref y));exact k a _ (.inl rfl) e
 | ext φ=>obtain⟨p,⟨o,e⟩,st⟩:=x;exact⟨st _ _ p λo q=>k _ _ (.inl rfl) q,⟨o,k _ _ (.inl rfl) e⟩,st⟩
theorem HOk.lt(x:HOk P w H h)(e:H a=some o):a<h.objs.size:=(x a o e).lt
theorem HOk.fresh(x:HOk P w H h)(e:h.objs.size<=a):H a=none:=by
 cases q:H a with
 | none=>rfl
 | some u=>exact absurd (zgG (x.lt q) e) (zgZ _)
theorem HOk.kept(x:HOk P w H h)(k : ∀b u,h.get? b=some u->h'.get? b=some u):HOk P w H h':=λa o e=>
 (x a o e).stay (λb u _ q=>k b u q) (λ_ q=>q) λ_ _ q=>q
theorem HOk.laid(x:HOk P w H h)(k : ∀b u,h.get? b=some u->h'.get? b=some u)(I:h.objs.size<=a)(new:ObjOk P w (upd H a o) h' a o):HOk P w (upd H a o) h':=λb u e=>by
 have hn:=x.fresh I;by_cases z:b=a
 ·subst z;rw [zH]at e;cases e;exact new
 ·rw [zJ z]at e
  exact(x b u e).stay (λc v _ q=>k c v q) (λc q=>by rw [zJ (jq q hn)];exact q) λc xs q=>by rw [zJ (jq q hn)];exact q
end
def Rd(H:Hp)(a:Addr)(u:HO):Prop:=H a=some u\/∃o,H a=some (.frz o u)
theorem Rd.ok{P:Program}{w:World}{H:Hp}{h:Heap}{a:Addr}{u:HO}(r:Rd H a u)(x:HOk P w H h):ObjOk P w H h a u:=by
 rcases r with r | ⟨o,r⟩
 ·exact x a u r
 ·obtain⟨_,q⟩:=x a _ r
  exact q
def Mut:Option HO->Prop
 | some (.lst _)=>True
 | some (.dK _)=>True
 | some (.dT _)=>True
 | some (.set _ _)=>True
 | some (.ins _ _ _)=>True
 | some (.ext _)=>True
 | _=>False
section
variable{P:Program}{w:World}{H:Hp}{h h':Heap}{x e:Addr}{o':HO}
theorem HOk.write(ok:HOk P w H h)(I:Mut (H x))(U:e=x\/H e=some (.own x))(k : ∀b u,b≠e->h.get? b=some u->h'.get? b=some u)(a0 : ∃u,h'.get? e=some u)
 (new:ObjOk P w (upd H x o') h' x o'):HOk P w (upd H x o') h':=λb u q=>by
 have Y : ∀c y,H c=some (.own y)->c≠x:=λc y r z=>by subst z;rw [r]at I;exact I
 have a1 : ∀c xs,H c=some (.tup xs)->c≠x:=λc xs r z=>by subst z;rw [r]at I;exact I
 by_cases J:b=x
 ·subst J;rw [zH]at q;cases q;exact new
 ·rw [zJ J]at q
  by_cases O:b=e
  ·have Z:H b=some (.own x):=by
    rcases U with z | z
    ·exact absurd (O.trans z) J
    ·rw [O];exact z
   rw [q]at Z;cases Z;obtain⟨v,hv⟩:=a0;exact⟨v,by rw [O];exact hv⟩
  ·refine(ok b u q).stay (λc v S r=>k c v ?_ r) (λc r=>by rw [zJ (Y c b r)];exact r) λc xs r=>by rw [zJ (a1 c xs r)];exact r
   rcases S with rfl | S
   ·exact O
   ·rintro rfl
    rcases U with z | z
    ·exact Y c b S z
    ·rw [S]at z;cases z;exact J rfl
end
structure Un(fs ex:List Addr)(H H':Hp)(h h':Heap):Prop where
 keep : ∀b o,h.get? b=some o->H b=none->b∉fs->b∉ex->h'.get? b=some o
 slot : ∀b o,h.get? b=some o->H b=none->b∈fs->b∉ex->∃sl,h'.get? b=some {o with slots:=sl}
 free : ∀b o,h.get? b=some o->H b=none->b∉ex->H' b=none
 there : ∀b o,h.get? b=some o->b∉ex->∃o',h'.get? b=some o'
 tups : ∀b xs,H b=some (.tup xs)->H' b=some (.tup xs)
 frzs : ∀b o u,H b=some (.frz o u)->H' b=some (.frz o u)
 tbls : ∀b ps,H b=some (.tbl ps)->∃more,H' b=some (.tbl (ps++more))
section
variable{fs fs' ex ex':List Addr}{H H1 H2:Hp}{h h1 h2 h':Heap}{a x e:Addr}{o:HO}
theorem Un.any(u:Un fs ex H H1 h h1){b:Addr}{z:Obj}(q:h.get? b=some z)(n:H b=none)(hx:b∉ex) : ∃sl,h1.get? b=some {z with slots:=sl}:=by
 by_cases I:b∈fs
 ·exact u.slot b z q n I hx
 ·exact⟨z.slots,u.keep b z q n I hx⟩
theorem Un.kept(k : ∀b u,h.get? b=some u->h'.get? b=some u):Un fs ex H H h h':=
 ⟨λb z q _ _ _=>k b z q,λb z q _ _ _=>⟨z.slots,k b z q⟩,λ_ _ _ n _=>n,λb z q _=>⟨z,k b z q⟩,λ_ _ q=>q,λ_ _ _ q=>q,λ_ ps q=>⟨#[],by rw [q];simp⟩⟩
theorem Un.refl:Un fs ex H H h h:=Un.kept λ_ _ q=>q
theorem Un.laid(k : ∀b u,h.get? b=some u->h'.get? b=some u)(z:h.objs.size<=a)(hn:H a=none):Un fs ex H (upd H a o) h h' where
 keep:=λb u q _ _ _=>k b u q
 slot:=λb u q _ _ _=>⟨u.slots,k b u q⟩
 free:=λb u q n _=>by rw [zJ (zgU (zgG (zgy q) z))];exact n
 there:=λb u q _=>⟨u,k b u q⟩
 tups:=λb xs q=>by rw [zJ (jq q hn)];exact q
 frzs:=λb u xs q=>by rw [zJ (jq q hn)];exact q
 tbls:=λb ps q=>⟨#[],by rw [zJ (jq q hn),q];simp⟩
theorem Un.write(I:Mut (H x))(S:e=x\/H e=some (.own x))(k : ∀b u,b≠e->h.get? b=some u->h'.get? b=some u)(U : ∃u,h'.get? e=some u):Un fs ex H (upd H x o) h h':=by
 have hx : ∀b,H b=none->b≠x:=λb n z=>by subst z;rw [n]at I;exact I
 have J : ∀b,H b=none->b≠e:=λb n z=>by
  subst z;rcases S with r | r
  ·exact hx b n r
  ·rw [n]at r;cases r
 have hm : ∀b u,H b=some u->¬Mut (some u)->b≠x:=λb u q nm z=>by subst z;rw [q]at I;exact nm I
 refine⟨λb u q n _ _=>k b u (J b n) q,λb u q n _ _=>⟨u.slots,k b u (J b n) q⟩,λb u q n _=>by rw [zJ (hx b n)];exact n,λb u q _=>?_,
  λb xs q=>by rw [zJ (hm b _ q λz=>z)];exact q,λb u xs q=>by rw [zJ (hm b _ q λz=>z)];exact q,λb ps q=>⟨#[],by rw [zJ (hm b _ q λz=>z),q];simp⟩⟩
 by_cases O:b=e
 ·subst O;exact U
 ·exact⟨u,k b u O q⟩
end
def trk(h:Heap)(H:Hp):List Addr:=(zgj h.objs.size).filter λa=>(H a).isSome
def V3(h:Heap)(H:Hp):Heap:=PySem.W.hideAll h (trk h H)
theorem K8(h:Heap)(H:Hp):(V3 h H).objs.size=h.objs.size:=PySem.W.hideAll_size _ _
theorem V2{h:Heap}{H:Hp}{b:Addr}{o:Obj}(e:h.get? b=some o)(n:H b=none):(V3 h H).get? b=some o:=
 PySem.W.hideAll_get _ e λhm=>by
  have q:(H b).isSome=true:=(zgC.mp hm).2;rw [n]at q;simp at q
theorem za0{h:Heap}{H:Hp}{b:Addr}{o:Obj}(e:(V3 h H).get? b=some o):h.get? b=some o/\H b=none:=by
 have I:h.get? b=some o:=PySem.W.of_hideAll (trk h H) e;refine⟨I,?_⟩;cases q:H b with
 | none=>rfl
 | some x=>
  have hm:b∈trk h H:=zgC.mpr ⟨zgl.mpr (zgy I),by simp [q]⟩;have z:(V3 h H).get? b=none:=PySem.W.hideAll_none (trk h H) hm;rw [z]at e;cases e
def zbF(g h:Heap)(L:Addr):List (Addr×Obj):=(zgj h.objs.size).filterMap λa=>if a=L\/(g.get? a).isSome=true then none else (h.get? a).map λo=>(a,o)
def rest(g h:Heap)(L d:Addr):List (Addr×Obj):=(zbF g h L).filter λp=>decide (p.1≠d)
structure Mod(K:PySem.W.Frag)(mg:Str->Option Value)(base:Heap):Prop where
 kin:K.In base
 glob:base.Ns mainGlobals mg
 blt : ∃mb,base.Ns builtinsNs mb/\∀x:Str,x ≠ "__name__"->mb x=bootBuiltins x
 nolimit:base.NoLimit
structure Cx where
 prog:Program
 w:World
 K:PySem.W.Frag
 mg:Str->Option Value
 base:Heap
 A:Around
 N:List Str
 s₀:Shared
 H₀:Hp
 env:Env
 outer:List Env
 stack:List Env
 ex:List Addr
 fn:Str->Bool
 calm:Bool
 pn:List (Addr×Obj)
 xe:Value->Shared->Prop
def frs(l:List Env):List Addr:=l.filterMap (·.frame)
abbrev Cx.fs(X:Cx):List Addr:=frs X.outer
def Vis(sc:Scope)(x:Str):Prop:=sc.names.lookup x=some .local\/sc.names.lookup x=some .cell\/sc.names.lookup x=some .free
def Loc(sc:Scope)(x:Str):Prop:=sc.names.lookup x=some .local\/sc.names.lookup x=some .cell
def Look(env:Env)(h:Heap)(m:Str->Option Value)(x:Str)(u:Value):Prop:=
 (env.kindOf x=some .local/\m x=some u)\/((env.kindOf x=some .cell\/env.kindOf x=some .free)/\∃c,env.cells.lookup x=some c/\h.IsCell c (some u))
structure Cx.Ok(X:Cx):Prop where
 mod:Mod X.K X.mg X.base
 kind:X.env.scope.kind = .function
 glob:X.env.globals=mainGlobals
 blt:X.env.builtins=builtinsNs
 above:X.s₀.heap.objs.size<=X.env.locals
 inj : ∀x y c,X.env.cells.lookup x=some c->X.env.cells.lookup y=some c->x=y
 has : ∀x,(X.env.kindOf x=some .cell\/X.env.kindOf x=some .free)->∃c,X.env.cells.lookup x=some c
 cab : ∀x c,X.fn x=true->X.env.cells.lookup x=some c->X.s₀.heap.objs.size<=c
 hd:X.calm=true->X.A.handled=none
 frames:X.A.frames=some X.stack
 stk:X.stack=X.outer\/(X.stack=X.env::X.outer/\X.env.frame=some X.env.locals)
 exf : ∀b∈X.ex,b≠X.env.locals/\∀x c,X.env.cells.lookup x=some c->c≠b
 bs : ∀b o,X.base.get? b=some o->X.s₀.heap.get? b=some o/\X.H₀ b=none
 bsz:X.base.objs.size<=X.s₀.heap.objs.size
 noex : ∀b o,X.base.get? b=some o->b∉X.ex
 exfs : ∀b∈X.ex,b∉X.fs
 funs:X.s₀.heap.FunFrames X.base X.outer
 frf : ∀b∈X.fs,X.H₀ b=none
structure Inv(X:Cx)(pins:List (Addr×Obj))(σ:List (Option V))(H:Hp)(s:Shared):Prop where
 ok:X.Ok
 os:s.os=X.s₀.os
 bare:AllBare s.gens
 base:Un X.fs X.ex X.H₀ H X.s₀.heap s.heap
 loc : ∃m,s.heap.Ns X.env.locals m/\∀(i:Nat) (x:Str) (v:V),X.N[i]? = some x->σ[i]? = some (some v)->Vis X.env.scope x->∃u,RelV v u/\Look X.env s.heap m x u
 cell : ∀x c,X.env.cells.lookup x=some c->∃v,s.heap.IsCell c v
 free:H X.env.locals=none
 freeC : ∀x c,X.env.cells.lookup x=some c->H c=none
 pin : ∀p∈X.pn++pins,s.heap.get? p.1=some p.2/\H p.1=none/\p.1≠X.env.locals/\p.1∉X.fs/\∀v,p.2.data ≠ .cell v
 hok:HOk X.prog X.w H s.heap
 len:σ.length=X.N.length
section
variable{X:Cx}{pins:List (Addr×Obj)}{σ:List (Option V)}{H H':Hp}{s:Shared}{h':Heap}
theorem Cx.Ok.nofr(ok:X.Ok){b:Addr}{o:Obj}(e:X.base.get? b=some o):b∉X.fs:=λz=>by
 have:=(ok.funs.mem z).1;rw [e]at this;cases this
theorem Inv.bs(I:Inv X pins σ H s) : ∀b o,X.base.get? b=some o->s.heap.get? b=some o/\H b=none:=λb o e=>
 ⟨I.base.keep b o (I.ok.bs b o e).1 (I.ok.bs b o e).2 (I.ok.nofr e) (I.ok.noex b o e),I.base.free b o (I.ok.bs b o e).1 (I.ok.bs b o e).2 (I.ok.noex b o e)⟩
theorem Inv.bk(I:Inv X pins σ H s) : ∀b o,X.base.get? b=some o->s.heap.get? b=some o:=λb o e=>(I.bs b o e).1
theorem Inv.mod(I:Inv X pins σ H s):Mod X.K X.mg X.base:=I.ok.mod
theorem Inv.kIn(I:Inv X pins σ H s):X.K.In s.heap:=I.ok.mod.kin.keeps I.bk
theorem Inv.lt(I:Inv X pins σ H s):X.env.locals<s.heap.objs.size:=let ⟨_,hn,_⟩:=I.loc;hn.lt
theorem Inv.sz(I:Inv X pins σ H s):X.s₀.heap.objs.size<=s.heap.objs.size:=zhh I.ok.above (zjh I.lt)
theorem Inv.nofs(I:Inv X pins σ H s){a:Addr}(h:s.heap.objs.size<=a):a∉X.fs:=λz=>by
 obtain⟨_,o,J,_⟩:=I.ok.funs.mem z;exact absurd (zgG (zgy J) (zhh I.sz h)) (zgZ _)
theorem Inv.cne(I:Inv X pins σ H s) : ∀x c,X.env.cells.lookup x=some c->c≠X.env.locals:=λx c e z=>by
 obtain⟨v,o,J,hd⟩:=I.cell x c e;obtain⟨m,⟨o',es,ep,O,S,_⟩,_⟩:=I.loc;rw [z,O]at J;cases J;rw [S]at hd;cases hd
theorem Inv.funs(I:Inv X pins σ H s):s.heap.FunFrames X.base X.outer:=by
 have all : ∀(l:List Env),(∀b∈frs l,b∈X.fs)->X.s₀.heap.FunFrames X.base l->s.heap.FunFrames X.base l:=by
  intro l
  induction l with
  | nil=>intro _ _;trivial
  | cons env r Y=>
   intro U Z;obtain⟨hk,⟨L,o,J,hn,ho,hd⟩,hr⟩:=Z;have O:L∈X.fs:=U L (by unfold frs;rw [zjm,J];exact zgI);obtain⟨sl,e⟩:=I.base.slot L o ho (I.ok.frf L O) O λz=>I.ok.exfs L z O;exact⟨hk,⟨L,_,J,hn,e,hd⟩,Y (λb S=>U b (by unfold frs;rw [zjm,J];exact zgJ _ S)) hr⟩
 exact all X.outer (λ_ S=>S) I.ok.funs
theorem Inv.stack(I:Inv X pins σ H s):s.heap.FunFrames X.base X.stack:=by
 rcases I.ok.stk with e | ⟨e,z⟩
 ·rw [e];exact I.funs
 ·rw [e]
  obtain⟨m,hn,_⟩:=I.loc;refine .cons (by rw [I.ok.kind];decide) z hn ?_ I.funs;exact Heap.get?_none_of_le (zhh I.ok.bsz I.ok.above)
theorem Inv.stkSub(I:Inv X pins σ H s) : ∀b∈frs X.stack,b∈X.env.locals::X.fs:=λb z=>by
 rcases I.ok.stk with e | ⟨e,J⟩
 ·rw [e]at z;exact zgJ _ z
 ·rw [e]at z
  unfold frs at z;rw [zjm,J]at z;exact z
theorem Inv.stkFree(I:Inv X pins σ H s) : ∀b∈frs X.stack,H b=none:=λb J=>by
 rcases zgz.mp (I.stkSub b J)with e | J
 ·rw [e];exact I.free
 ·obtain⟨_,o,O,_⟩:=I.ok.funs.mem J
  exact I.base.free b o O (I.ok.frf b J) λz=>I.ok.exfs b z J
theorem Inv.step{g':Array GenState}{t':Nat}{d':Drawn}{ch:List Addr}(I:Inv X pins σ H s)
 (S : ∀b∈ch,(b∈X.ex\/X.s₀.heap.objs.size<=b)/\b≠X.env.locals/\(∀x c,X.env.cells.lookup x=some c->c≠b)/\∀p∈X.pn++pins,p.1≠b)
 (keep : ∀b o,b≠X.env.locals->b∉X.fs->b∉ch->s.heap.get? b=some o->H b=none->h'.get? b=some o)
 (slot : ∀b o,b≠X.env.locals->b∈X.fs->b∉ch->s.heap.get? b=some o->H b=none->∃sl,h'.get? b=some {o with slots:=sl}) (free : ∀b o,b∉ch->s.heap.get? b=some o->H b=none->H' b=none)
 (there : ∀b o,b∉ch->s.heap.get? b=some o->∃o',h'.get? b=some o')
 (tups : ∀b xs,H b=some (.tup xs)->H' b=some (.tup xs)) (frzs : ∀b o u,H b=some (.frz o u)->H' b=some (.frz o u)) (tbls : ∀b ps,H b=some (.tbl ps)->∃more,H' b=some (.tbl (ps++more)))
 (ns : ∀m,s.heap.Ns X.env.locals m->h'.Ns X.env.locals m) (hok:HOk X.prog X.w H' h') (hg:AllBare g') :
 Inv X pins σ H' {s with heap:=h',gens:=g',drawn:=d',toks:=t'}:=by
 have a0 : ∀b o,X.s₀.heap.get? b=some o->b≠X.env.locals:=λb o e=>zgU (zgG (zgy e) I.ok.above);have Z : ∀b o,X.s₀.heap.get? b=some o->b∉X.ex->b∉ch:=λb o e hx J=>by
  rcases (S b J).1 with z | z
  ·exact hx z
  ·exact absurd (zgG (zgy e) z) (zgZ _)
 have a1 : ∀x c,X.env.cells.lookup x=some c->∀v,s.heap.IsCell c v->h'.IsCell c v:=λx c e v hZ=>by
  obtain⟨o,O,hd⟩:=hZ;have U:c∉ch:=λz=>(S c z).2.2.1 x c e rfl;by_cases hc:c∈X.fs
  ·obtain⟨sl,q⟩:=slot c o (I.cne x c e) hc U O (I.freeC x c e)
   exact⟨_,q,hd⟩
  ·exact⟨o,keep c o (I.cne x c e) hc U O (I.freeC x c e),hd⟩
 refine⟨I.ok,I.os,hg,⟨λb o e n J hx=>?_,λb o e n J hx=>?_,λb o e n hx=>?_,λb o e hx=>?_,λb xs e=>tups b xs (I.base.tups b xs e),λb o xs e=>frzs b o xs (I.base.frzs b o xs e),λb ps e=>?_⟩,?_,λx c e=>?_,?_,λx c e=>?_,λp hp=>?_,hok,I.len⟩
 ·exact keep b o (a0 b o e) J (Z b o e hx) (I.base.keep b o e n J hx) (I.base.free b o e n hx)
 ·obtain⟨sl,e1⟩:=I.base.slot b o e n J hx
  obtain⟨a7,Y⟩:=slot b _ (a0 b o e) J (Z b o e hx) e1 (I.base.free b o e n hx);exact⟨a7,Y⟩
 ·obtain⟨o',e1⟩:=I.base.there b o e hx
  exact free b o' (Z b o e hx) e1 (I.base.free b o e n hx)
 ·obtain⟨o',e1⟩:=I.base.there b o e hx
  exact there b o' (Z b o e hx) e1
 ·obtain⟨m1,e1⟩:=I.base.tbls b ps e
  obtain⟨m2,Y⟩:=tbls b _ e1;exact⟨m1++m2,by rw [Y,Array.append_assoc]⟩
 ·obtain⟨m,hn,hl⟩:=I.loc
  refine⟨m,ns m hn,λi x v e1 Y e3=>?_⟩;obtain⟨u,r,l⟩:=hl i x v e1 Y e3;refine⟨u,r,?_⟩;rcases l with l | ⟨k,c,e,z⟩
  ·exact .inl l
  ·exact .inr ⟨k,c,e,a1 x c e _ z⟩
 ·obtain⟨v,z⟩:=I.cell x c e
  exact⟨v,a1 x c e v z⟩
 ·obtain⟨m,⟨o,_,_,O,_⟩,_⟩:=I.loc
  exact free _ o (λz=>(S _ z).2.1 rfl) O I.free
 ·obtain⟨v,o,O,hd⟩:=I.cell x c e
  exact free c o (λz=>(S c z).2.2.1 x c e rfl) O (I.freeC x c e)
 ·obtain⟨e,n,ne,nf,d⟩:=I.pin p hp
  have U:p.1∉ch:=λz=>(S p.1 z).2.2.2 p hp rfl;exact⟨keep p.1 p.2 ne nf U e n,free p.1 p.2 U e n,ne,nf,d⟩
theorem Inv.un{t':Nat}(I:Inv X pins σ H s)(u:Un X.fs [] H H' s.heap h')(hok:HOk X.prog X.w H' h'):Inv X pins σ H' {s with heap:=h',toks:=t'}:=by
 obtain⟨m,⟨o,es,ep,O,r⟩,_⟩:=id I.loc;obtain⟨sl,U⟩:=u.any O I.free ⋯;exact I.step (g':=s.gens) (d':=s.drawn) (ch:=[]) (λ_ z=>nomatch z) (λb o _ J _ e n=>u.keep b o e n J ⋯) (λb o _ J _ e n=>u.slot b o e n J ⋯) (λb o _ e n=>u.free b o e n ⋯) (λb o _ e=>u.there b o e ⋯) u.tups u.frzs u.tbls (λm' hm=>by
  obtain⟨o',Y,Z,S,r'⟩:=hm;rw [O]at S;cases S;exact⟨_,Y,Z,U,r'⟩) hok I.bare
theorem Inv.call{g':Array GenState}{t':Nat}{d':Drawn}{ch:List Addr}(I:Inv X pins σ H s)(u:Un (frs X.stack) ch H H' s.heap h')(hok:HOk X.prog X.w H' h')(Z:AllBare g')
 (S : ∀b∈ch,(b∈X.ex\/X.s₀.heap.objs.size<=b)/\b≠X.env.locals/\(∀x c,X.env.cells.lookup x=some c->c≠b)/\∀p∈X.pn++pins,p.1≠b) :
 Inv X pins σ H' {s with heap:=h',gens:=g',drawn:=d',toks:=t'}:=by
 obtain⟨m,⟨o,es,ep,U,r⟩,_⟩:=id I.loc;obtain⟨sl,O⟩:=u.any U I.free λz=>(S _ z).2.1 rfl;exact I.step (ch:=ch) S (λb o O hb J e n=>u.keep b o e n (λz=>(zgz.mp (I.stkSub b z)).elim O hb) J) (λb o _ _ J e n=>u.any e n J) (λb o J e n=>u.free b o e n J) (λb o J e=>u.there b o e J) u.tups u.frzs u.tbls (λm' hm=>by
  obtain⟨o',a1,a2,Y,r'⟩:=hm;rw [U]at Y;cases Y;exact⟨_,a1,a2,O,r'⟩) hok Z
theorem Inv.turned{t':Nat}{it:Addr}(I:Inv X pins σ H s)(k : ∀b o,b≠it->s.heap.get? b=some o->h'.get? b=some o)(hn:H it=none)(O:it≠X.env.locals)
 (h1:it∈X.ex\/X.s₀.heap.objs.size<=it) (h2 : ∀x c,X.env.cells.lookup x=some c->c≠it) (U : ∀p∈X.pn++pins,p.1≠it):Inv X pins σ H {s with heap:=h',toks:=t'}:=by
 have S : ∀b u,H b=some u->b≠it:=λb u e z=>by rw [z,hn]at e;cases e
 refine I.step (g':=s.gens) (d':=s.drawn) (ch:=[it]) (λb Y=>?_) (λb o _ _ J e _=>k b o (λz=>J (by simp [z])) e) (λb o _ _ J e _=>⟨o.slots,k b o (λz=>J (by simp [z])) e⟩) (λ_ _ _ _ n=>n)
  (λb o J e=>⟨o,k b o (λz=>J (by simp [z])) e⟩) (λ_ _ e=>e) (λ_ _ _ e=>e) (λb ps e=>⟨#[],by rw [e];simp⟩) (λm hm=>?_) (λb u e=>?_) I.bare
 ·have e:b=it:=by simpa using Y
  subst e;exact⟨h1,O,h2,U⟩
 ·obtain⟨o,es,ep,Z,r⟩:=hm
  exact⟨o,es,ep,k _ o (zht O) Z,r⟩
 ·refine(I.hok b u e).stay (λc v J q=>k c v ?_ q) (λ_ q=>q) λ_ _ q=>q
  rcases J with z | z
  ·rw [z];exact S b u e
  ·exact S c _ z
theorem Inv.tok(I:Inv X pins σ H s)(t:Nat):Inv X pins σ H {s with toks:=t}:=I.un (h':=s.heap) (t':=t) Un.refl I.hok
theorem Inv.kept{t':Nat}(I:Inv X pins σ H s)(k : ∀b u,s.heap.get? b=some u->h'.get? b=some u):Inv X pins σ H {s with heap:=h',toks:=t'}:=I.un (Un.kept k) (I.hok.kept k)
theorem Inv.laid{a:Addr}{o:HO}{t':Nat}(I:Inv X pins σ H s)(k : ∀b u,s.heap.get? b=some u->h'.get? b=some u)(z:s.heap.objs.size<=a)(new:ObjOk X.prog X.w (upd H a o) h' a o) :
 Inv X pins σ (upd H a o) {s with heap:=h',toks:=t'}:=I.un (Un.laid k z (I.hok.fresh z)) (I.hok.laid k z new)
theorem Inv.write{x e:Addr}{o:HO}{t':Nat}(I:Inv X pins σ H s)(z:Mut (H x))(J:e=x\/H e=some (.own x))(k : ∀b u,b≠e->s.heap.get? b=some u->h'.get? b=some u)(O : ∃u,h'.get? e=some u)
 (new:ObjOk X.prog X.w (upd H x o) h' x o):Inv X pins σ (upd H x o) {s with heap:=h',toks:=t'}:=I.un (Un.write z J k O) (I.hok.write z J k O new)
theorem Inv.pins_of{J:List (Addr×Obj)}(I:Inv X pins σ H s)(h : ∀p∈J,s.heap.get? p.1=some p.2/\H p.1=none/\p.1≠X.env.locals/\p.1∉X.fs/\∀v,p.2.data ≠ .cell v):Inv X J σ H s:=
 ⟨I.ok,I.os,I.bare,I.base,I.loc,I.cell,I.free,I.freeC,λp O=>(ziJ.mp O).elim (λz=>I.pin p (List.mem_append_left _ z)) (h p),I.hok,I.len⟩
theorem Qs{N:List Str}(z:N.Nodup){i j:Nat}{x:Str}(a:N[i]? = some x)(b:N[j]? = some x):i=j:=by
 obtain⟨h1,e1⟩:=zgw.mp a;obtain⟨h2,I⟩:=zgw.mp b;exact(List.getElem_inj z).mp (e1.trans I.symm)
theorem Zw{M:Model}{A:Around}{E:Value->Shared->Prop}{i:Nat}{x:Str}{v:V}{u:Value}{Q:Unit->Shared->Prop}(I:Inv X pins σ H s)(hN:X.N.Nodup)(hi:X.N[i]? = some x)(hx:Loc X.env.scope x)(r:RelV v u)
 (h : ∀s',Inv X pins (σ.set i (some v)) H s'->(∃a,zh2 a s.heap s'.heap/\(a=X.env.locals\/X.env.cells.lookup x=some a))->Q () s') (hf:X.fn x=true\/X.env.scope.names.lookup x=some .local:=by first | exact .inl rfl | exact .inr rfl | assumption):wpAny M A (storeName X.env x u) Q E s:=by
 obtain⟨m,hn,hl⟩:=id I.loc;have ag:(X.env.scope.kind == .class || (X.env.scope.kind == .module && X.env.locals != X.env.globals))=false:=by rw [I.ok.kind];rfl
 have a9:i<σ.length:=by rw [I.len];exact(zgw.mp hi).1
 have cne:=I.cne;have aa : ∀{a:Addr} {h':Heap},(∃o,s.heap.get? a=some o/\H a=none)->zh2 a s.heap h'->HOk X.prog X.w H h':=λ{a h'} ha J b ob e=>by
  obtain⟨_,_,ab⟩:=ha;refine(I.hok b ob e).stay (λc w' O q=>(J.2 c ?_).trans q) (λ_ q=>q) λ_ _ q=>q;rintro rfl;rcases O with rfl | O
  ·rw [ab]at e;cases e
  ·rw [ab]at O;cases O
 rcases hx with U | U
 ·refine wpAny_storeName_local U hn (λh' ai J=>?_) ag
  obtain⟨oL,_,_,ak,_⟩:=id hn;refine h _ ⟨I.ok,I.os,I.bare,⟨λb o e n Y hx=>?_,λb o e n Y hx=>?_,I.base.free,λb o e hx=>?_,I.base.tups,I.base.frzs,I.base.tbls⟩,⟨_,ai,λj y v' e1 S e3=>?_⟩,λy c e=>?_,I.free,I.freeC,λp hp=>?_,aa ⟨oL,ak,I.free⟩ J,by simpa using I.len⟩ ⟨_,J,.inl rfl⟩
  ·exact(J.2 b (zgU (zgG (zgy e) I.ok.above))).trans (I.base.keep b o e n Y hx)
  ·obtain⟨sl,e1⟩:=I.base.slot b o e n Y hx
   exact⟨sl,(J.2 b (zgU (zgG (zgy e) I.ok.above))).trans e1⟩
  ·obtain⟨o',e1⟩:=I.base.there b o e hx
   exact⟨o',(J.2 b (zgU (zgG (zgy e) I.ok.above))).trans e1⟩
  ·by_cases Z:j=i
   ·subst Z
    rw [hi]at e1;cases e1;rw [zhp a9]at S;cases S;exact⟨u,r,.inl ⟨U,by simp⟩⟩
   ·rw [zgv (zht Z)]at S
    obtain⟨u',r',q⟩:=hl j y v' e1 S e3;refine⟨u',r',?_⟩;rcases q with⟨k,e⟩ | ⟨k,c,e,z⟩
    ·refine .inl ⟨k,?_⟩
     have:y≠x:=λe=>Z (Qs hN e1 (e ▸ hi));simp [this,e]
    ·exact .inr ⟨k,c,e,z.sameBut J (cne y c e)⟩
  ·obtain⟨w',z⟩:=I.cell y c e
   exact⟨w',z.sameBut J (cne y c e)⟩
  ·obtain⟨e,n,ne,nf,d⟩:=I.pin p hp
   exact⟨(J.2 p.1 ne).trans e,n,ne,nf,d⟩
 ·have a6:X.fn x=true:=by
   rcases hf with z | z
   ·exact z
   ·rw [z]at U;cases U
  obtain⟨c,O⟩:=I.ok.has x (.inl U);obtain⟨w',z⟩:=I.cell x c O;refine wpAny_storeName_cell I.ok.kind U O z (λh' ac J=>?_);obtain⟨oc,ad,al⟩:=id z;refine h {s with heap:=h'} ⟨I.ok,I.os,I.bare,⟨λb o e n Y hx=>?_,λb o e n Y hx=>?_,I.base.free,λb o e hx=>?_,I.base.tups,I.base.frzs,I.base.tbls⟩,⟨m,hn.sameBut J (zht (cne x c O)),λj y v' e1 S e3=>?_⟩,λy c' e=>?_,I.free,I.freeC,λp hp=>?_,aa ⟨oc,ad,I.freeC x c O⟩ J,by simpa using I.len⟩ ⟨c,J,.inr O⟩
  ·exact(J.2 b (zgU (zgG (zgy e) (I.ok.cab x c a6 O)))).trans (I.base.keep b o e n Y hx)
  ·obtain⟨sl,e1⟩:=I.base.slot b o e n Y hx
   exact⟨sl,(J.2 b (zgU (zgG (zgy e) (I.ok.cab x c a6 O)))).trans e1⟩
  ·obtain⟨o',e1⟩:=I.base.there b o e hx
   exact⟨o',(J.2 b (zgU (zgG (zgy e) (I.ok.cab x c a6 O)))).trans e1⟩
  ·by_cases Z:j=i
   ·subst Z
    rw [hi]at e1;cases e1;rw [zhp a9]at S;cases S;exact⟨u,r,.inr ⟨.inl U,c,O,ac⟩⟩
   ·rw [zgv (zht Z)]at S
    obtain⟨u',r',q⟩:=hl j y v' e1 S e3;refine⟨u',r',?_⟩;rcases q with q | ⟨k,c',e,z'⟩
    ·exact .inl q
    ·refine .inr ⟨k,c',e,z'.sameBut J ?_⟩
     rintro rfl;exact Z (Qs hN e1 (I.ok.inj _ _ _ e O ▸ hi))
  ·by_cases ae:c'=c
   ·subst ae;exact⟨_,ac⟩
   ·obtain⟨w2,z2⟩:=I.cell y c' e
    exact⟨w2,z2.sameBut J ae⟩
  ·obtain⟨e,n,ne,nf,d⟩:=I.pin p hp
   refine⟨(J.2 p.1 ?_).trans e,n,ne,nf,d⟩;intro q;rw [q,ad]at e;have q':oc=p.2:=zhy e;exact d w' (by rw [<- q'];exact al)
theorem Qc{M:Model}{A:Around}{E:Value->Shared->Prop}{i:Nat}{x:Str}{v:V}{u:Value}{Q:Unit->Shared->Prop}(I:Inv X pins σ H s)(z:X.N.Nodup)(hi:X.N[i]? = some x)(hx:Loc X.env.scope x)(r:RelV v u)
 (h : ∀s',Inv X pins (σ.set i (some v)) H s'->Q () s') (J:X.fn x=true\/X.env.scope.names.lookup x=some .local:=by first | exact .inl rfl | exact .inr rfl | assumption):wpAny M A (storeName X.env x u) Q E s:=
 Zw I z hi hx r (λs' O _=>h s' O) J
theorem Inv.call'{s':Shared}{ch:List Addr}(I:Inv X pins σ H s)(z:s'.os=s.os)(u:Un (frs X.stack) ch H H' s.heap s'.heap)(hok:HOk X.prog X.w H' s'.heap)(J:AllBare s'.gens)
 (O : ∀b∈ch,(b∈X.ex\/X.s₀.heap.objs.size<=b)/\b≠X.env.locals/\(∀x c,X.env.cells.lookup x=some c->c≠b)/\∀p∈X.pn++pins,p.1≠b):Inv X pins σ H' s':=by
 obtain⟨h',g',d',t',o'⟩:=s';have e:o'=s.os:=z;subst e;exact I.call (g':=g') (t':=t') (d':=d') u hok J O
end
abbrev XK:=Value->Option Addr->Hp->Prop
abbrev St:=List (Option V)
abbrev VK:=V->Hp->Prop
abbrev TE:=St->Hp->VK->Prop
abbrev TT:=St->Hp->(Bool->Hp->Prop)->Prop
abbrev TA:=St->Hp->(List V->Hp->Prop)->Prop
structure Ends where
 nx:St->Hp->Prop
 rt:VK
 bk:St->Hp->Prop:=λ_ _=>False
 ct:St->Hp->Prop:=λ_ _=>False
abbrev TS:=Ends->St->Hp->Prop
def EP(X:Cx)(pins:List (Addr×Obj))(σ:St)(Q:VK)(u:Value)(s':Shared):Prop:=∃v H',Inv X pins σ H' s'/\RelV v u/\Q v H'
def TP(X:Cx)(pins:List (Addr×Obj))(σ:St)(Q:Bool->Hp->Prop)(b:Bool)(s':Shared):Prop:=∃H',Inv X pins σ H' s'/\Q b H'
def AP(X:Cx)(pins:List (Addr×Obj))(σ:St)(Q:List V->Hp->Prop)(us:List Value)(s':Shared):Prop:=∃vs H',Inv X pins σ H' s'/\Vals vs us/\Q vs H'
def SP(X:Cx)(pins:List (Addr×Obj))(D:Ends)(f:Flow)(s':Shared):Prop:=
 match f with
 | .next=>∃z H',Inv X pins z H' s'/\D.nx z H'
 | .brk=>∃z H',Inv X pins z H' s'/\D.bk z H'
 | .cont=>∃z H',Inv X pins z H' s'/\D.ct z H'
 | .ret u=>∃v z H',Inv X pins z H' s'/\RelV v u/\D.rt v H'
def PE(X:Cx)(e:Expr)(t:TE):Prop:=
 ∀(pins:List (Addr×Obj)) (s:Shared) (σ:St) (H:Hp) (Q:VK),Inv X pins σ H s->t σ H Q->wpAny (model X.prog X.w) X.A (eval e X.env) (EP X pins σ Q) X.xe s
def PT(X:Cx)(e:Expr)(t:TT):Prop:=
 ∀(pins:List (Addr×Obj)) (s:Shared) (σ:St) (H:Hp) (Q:Bool->Hp->Prop),Inv X pins σ H s->t σ H Q->wpAny (model X.prog X.w) X.A (isTrue e X.env (eval e X.env)) (TP X pins σ Q) X.xe s
def PW(X:Cx)(e:Expr)(t:TT):Prop:=
 ∀(z:Sem Value) (pins:List (Addr×Obj)) (s:Shared) (σ:St) (H:Hp) (Q:Bool->Hp->Prop),Inv X pins σ H s->t σ H Q->wpAny (model X.prog X.w) X.A (isTrue e X.env z) (TP X pins σ Q) X.xe s
theorem PW.pt{X:Cx}{e:Expr}{t:TT}(h:PW X e t):PT X e t:=h _
def PA(X:Cx)(es:List Expr)(t:TA):Prop:=
 ∀(pos:Pos) (pins:List (Addr×Obj)) (s:Shared) (σ:St) (H:Hp) (Q:List V->Hp->Prop),Inv X pins σ H s->t σ H Q->wpAny (model X.prog X.w) X.A (spliced (backTo pos (starEach es X.env))) (AP X pins σ Q) X.xe s
def PS(X:Cx)(st:Stmt)(t:TS):Prop:=
 ∀(pins:List (Addr×Obj)) (s:Shared) (σ:St) (H:Hp) (D:Ends),Inv X pins σ H s->t D σ H->wpAny (model X.prog X.w) X.A (exec st X.env) (SP X pins D) X.xe s
def PSs(X:Cx)(st:List Stmt)(t:TS):Prop:=
 ∀(pins:List (Addr×Obj)) (s:Shared) (σ:St) (H:Hp) (D:Ends),Inv X pins σ H s->t D σ H->wpAny (model X.prog X.w) X.A (execs st X.env) (SP X pins D) X.xe s
theorem thn{α:Type}{t:Sem α}{Q z:α->Shared->Prop}{M:Model}{A:Around}{E:Value->Shared->Prop}{s:Shared}(h:wpAny M A t Q E s)(I : ∀a s,Q a s->z a s):wpAny M A t z E s:=zid h I λ_ _ x=>x
section
variable{X:Cx}
def vY(i:Nat):TE:=λσ H Q=>∃v,σ[i]? = some (some v)/\Q v H
def tC(v:V):TE:=λ_ H Q=>Q v H
theorem zcA{i:Nat}{x:Str}{pos:Pos}(U:X.N[i]? = some x)(Y:Vis X.env.scope x)(hd:(x==("__debug__" : Str))=false:=by decide)(Z:(x==("__classdict__" : Str))=false:=by decide):PE X (.Name x pos) (vY i):=by
 intro pins s σ H Q I h;obtain⟨v,e,h⟩:=h;obtain⟨m,hn,hl⟩:=I.loc;obtain⟨u,r,l⟩:=hl i x v U e Y;have J:EP X pins σ Q u s:=⟨v,H,I,r,h⟩;rcases l with⟨z,hm⟩ | ⟨z,c,O,S⟩
 ·exact wpAny_Name (wpAny_loadName_local I.ok.kind z hn hm J) hd
 ·rcases z with z | z
  ·exact wpAny_Name (wpAny_loadName_cell I.ok.kind z O S J) hd
  ·exact wpAny_Name (wpAny_loadName_free I.ok.kind z O S J Z) hd
theorem zcG{i j pos}:PE X (.Constant (.int i) j pos) (tC (.int i)):=λ_ _ _ H _ I h=>wpAny_Constant_int ⟨.int i,H,I.tok _,⟨_,rfl⟩,h⟩
theorem zeC{b j pos}:PE X (.Constant (.bool b) j pos) (tC (.bl b)):=λ_ _ _ H _ I h=>Constant_bool ⟨.bl b,H,I,rfl,h⟩
theorem WU{x j pos}:PE X (.Constant (.str x) j pos) (tC (.str x)):=λ_ _ _ H _ I h=>Calls.Constant_str ⟨.str x,H,I.tok _,⟨_,rfl⟩,h⟩
def Gl(X:Cx)(x:Str):Prop:=X.env.kindOf x=some .globalImplicit
theorem KS{E:Value->Shared->Prop}{pins:List (Addr×Obj)}{s:Shared}{σ:St}{H:Hp}{x:Str}{u:Value}{pos:Pos}{Q:Value->Shared->Prop}(I:Inv X pins σ H s)(z:Gl X x)(hm:X.mg x=some u)(h:Q u s)
 (hd:(x==("__debug__" : Str))=false:=by decide):wpAny (model X.prog X.w) X.A (eval (.Name x pos) X.env) Q E s:=
 Calls.Name_function_global I.ok.kind z (Calls.loadGlobal_global (by rw [I.ok.glob];exact I.mod.glob.keeps I.bk) hm h) hd
theorem xX{E:Value->Shared->Prop}{pins:List (Addr×Obj)}{s:Shared}{σ:St}{H:Hp}{x:Str}{u:Value}{pos:Pos}{Q:Value->Shared->Prop}(I:Inv X pins σ H s)(z:Gl X x)(hm:X.mg x=none)(J:bootBuiltins x=some u)(h:Q u s)
 (hn:x ≠ "__name__":=by decide) (hd:(x==("__debug__" : Str))=false:=by decide):wpAny (model X.prog X.w) X.A (eval (.Name x pos) X.env) Q E s:=by
 obtain⟨mb,h1,h2⟩:=I.mod.blt;exact Calls.Name_function_global I.ok.kind z (Calls.loadGlobal_builtin (by rw [I.ok.glob];exact I.mod.glob.keeps I.bk) hm (by rw [I.ok.blt];exact h1.keeps I.bk) ((h2 x hn).trans J) h) hd
variable{a b:Expr}{ta tb:TE}{pos:Pos}
def tB(t:TE):TT:=λσ H Q=>t σ H λx H1=>∃c,x = .bl c/\Q c H1
theorem zcr{e:Expr}{t:TE}(h:PE X e t)(J : ∀z,isTrue e X.env z=(do let v <- z;standAt e.pos;holding [v] (truthy v)):=by intro _;rfl):PT X e (tB t):=by
 intro pins s σ H Q I hw;refine isTrue_plain (thn (h pins s σ H _ I hw) λv s1 O=>?_) (J _);obtain⟨x,H1,S,U,Y⟩:=O;obtain⟨d,rfl,q⟩:=Y;cases U;exact zh4 ⟨H1,S,q⟩
variable{tA tB':TT}{rest:List Expr}
def zf1(t u:TT):TT:=λσ H Q=>t σ H λc H1=>if c=true then u σ H1 Q else Q false H1
def tOr(t u:TT):TT:=λσ H Q=>t σ H λc H1=>if c=true then Q true H1 else u σ H1 Q
def zfX(t:TT):TT:=λσ H Q=>t σ H λc H1=>Q (!c) H1
theorem zaG(ha:PT X a tA):PW X (.BoolOp .And [a] pos) tA:=by
 intro z pins s σ H Q I h;refine isTrue_and (thn (ha pins s σ H Q I h) λc s1 e=>?_);cases c with
 | true=>exact isTrue_and_nil e
 | false=>exact e
theorem zch(ha:PT X a tA):PW X (.BoolOp .Or [a] pos) tA:=by
 intro z pins s σ H Q I h;refine isTrue_or (thn (ha pins s σ H Q I h) λc s1 e=>?_);cases c with
 | false=>exact isTrue_or_nil e
 | true=>exact e
theorem zci(ha:PT X a tA)(O:PW X (.BoolOp .And (b::rest) pos) tB'):PW X (.BoolOp .And (a::b::rest) pos) (zf1 tA tB'):=by
 intro S pins s σ H Q I h;refine isTrue_and (thn (ha pins s σ H _ I h) λc s1 U=>?_);obtain⟨H1,z,J⟩:=U;cases c with
 | true=>exact O S pins s1 σ H1 Q z J
 | false=>exact⟨H1,z,J⟩
theorem zet(ha:PT X a tA)(O:PW X (.BoolOp .Or (b::rest) pos) tB'):PW X (.BoolOp .Or (a::b::rest) pos) (tOr tA tB'):=by
 intro S pins s σ H Q I h;refine isTrue_or (thn (ha pins s σ H _ I h) λc s1 U=>?_);obtain⟨H1,z,J⟩:=U;cases c with
 | true=>exact⟨H1,z,J⟩
 | false=>exact O S pins s1 σ H1 Q z J
theorem zcs(ha:PT X a tA):PT X (.UnaryOp .Not a pos) (zfX tA):=by
 intro pins s σ H Q I h;exact isTrue_not (ha pins s σ H (λc H1=>Q (!c) H1) I h)
def zem(ta tb:TE):TE:=λσ H Q=>ta σ H λx H1=>∃c,x = .bl c/\if c=true then tb σ H1 Q else Q (.bl false) H1
def zfW(ta tb:TE):TE:=λσ H Q=>ta σ H λx H1=>∃c,x = .bl c/\if c=true then Q (.bl true) H1 else tb σ H1 Q
def zef(ta:TE):TE:=λσ H Q=>ta σ H λx H1=>∃c,x = .bl c/\Q (.bl (!c)) H1
theorem zcC{op}{t:TE}(h:PE X a t):PE X (.BoolOp op [a] pos) t:=λpins s σ H Q I hw=>BoolOp_one (h pins s σ H Q I hw)
theorem zcI(ha:PE X a ta)(O:PE X (.BoolOp .And (b::rest) pos) tb):PE X (.BoolOp .And (a::b::rest) pos) (zem ta tb):=by
 intro pins s σ H Q I h;refine BoolOp_and (thn (ha pins s σ H _ I h) λv s1 S=>?_);obtain⟨x,H1,J,U,z⟩:=S;obtain⟨c,rfl,z⟩:=z;cases U;refine zh4 ?_;cases c with
 | true=>exact O pins s1 σ H1 Q J z
 | false=>exact⟨.bl false,H1,J,rfl,z⟩
theorem zeB(ha:PE X a ta)(O:PE X (.BoolOp .Or (b::rest) pos) tb):PE X (.BoolOp .Or (a::b::rest) pos) (zfW ta tb):=by
 intro pins s σ H Q I h;refine BoolOp_or (thn (ha pins s σ H _ I h) λv s1 S=>?_);obtain⟨x,H1,J,U,z⟩:=S;obtain⟨c,rfl,z⟩:=z;cases U;refine zh4 ?_;cases c with
 | false=>exact O pins s1 σ H1 Q J z
 | true=>exact⟨.bl true,H1,J,rfl,z⟩
theorem zcD(ha:PE X a ta):PE X (.UnaryOp .Not a pos) (zef ta):=by
 intro pins s σ H Q I h;refine UnaryOp_ (thn (ha pins s σ H _ I h) λv s1 J=>?_);obtain⟨x,H1,O,S,z⟩:=J;obtain⟨c,rfl,z⟩:=z;cases S;exact not_of (zh4 ⟨.bl (!c),H1,O,rfl,z⟩)
def tIf(t:TT)(ta tb:TE):TE:=λσ H Q=>t σ H λc H1=>if c=true then ta σ H1 Q else tb σ H1 Q
theorem pe_ifExp{c:Expr}(O:PT X c tA)(ha:PE X a ta)(S:PE X b tb):PE X (.IfExp c a b pos) (tIf tA ta tb):=by
 intro pins s σ H Q I h;refine wpAny_IfExp (thn (O pins s σ H _ I h) λd s1 U=>?_);obtain⟨H1,z,J⟩:=U;cases d with
 | true=>exact ha pins s1 σ H1 Q z J
 | false=>exact S pins s1 σ H1 Q z J
end
def SqL(K:PySem.W.Frag)(H:Hp)(a:Addr)(xs:List V):Prop:=
 Rd H a (.lst xs)\/
  ∃(o:Obj) (z:Array Value) (n:Nat),K.lookup a=some o/\o.cls = .type "list"/\o.dict=none/\o.data = .seq z n/\z.size<=sizeLine/\Vals xs z.toList
def SqT(K:PySem.W.Frag)(H:Hp)(a:Addr)(xs:List V):Prop:=
 Rd H a (.tup xs)\/
  ∃(o:Obj) (z:Array Value) (n:Nat),K.lookup a=some o/\(o.cls,o.dict)=(ziF "tuple",none)/\o.data = .seq z n/\z.size<=sizeLine/\Vals xs z.toList
def zgf:Value->Option V
 | .none=>some .non
 | .bool b=>some (.bl b)
 | .int i _=>some (.int i)
 | .str x _=>some (.str x)
 | .bytes b _=>some (.byt b)
 | .float b _=>some (.flt b)
 | .ref a=>some (.ref a)
 | .type n=>some (.ty n)
 | _=>none
theorem RelV.abs{x:V}{u:Value}(r:RelV x u):zgf u=some x:=by
 cases x with
 | non=>cases r;rfl
 | bl _=>cases r;rfl
 | int _=>obtain⟨t,rfl⟩:=r;rfl
 | str _=>obtain⟨t,rfl⟩:=r;rfl
 | byt _=>obtain⟨t,rfl⟩:=r;rfl
 | flt _=>obtain⟨t,rfl⟩:=r;rfl
 | ref _=>cases r;rfl
 | ty _=>cases r;rfl
theorem RelV.inj{x y:V}{u:Value}(r:RelV x u)(q:RelV y u):x=y:=zhy (r.abs.symm.trans q.abs)
theorem Vals.inj : ∀{xs ys:List V} {us:List Value},Vals xs us->Vals ys us->xs=ys
 | _,_,_,.nil,.nil=>rfl
 | _,_,_,.cons r t,.cons r' t'=>by rw [r.inj r',Vals.inj t t']
section
variable{X:Cx}{pins:List (Addr×Obj)}{σ:St}{H:Hp}{s:Shared}{a:Addr}{xs ys:List V}
theorem SqL.of{K:PySem.W.Frag}(h:H a=some (.lst xs)):SqL K H a xs:= .inl (.inl h)
theorem SqT.of{K:PySem.W.Frag}(h:H a=some (.tup xs)):SqT K H a xs:= .inl (.inl h)
theorem Inv.list(I:Inv X pins σ H s)(h:SqL X.K H a xs) : ∃J:List Value,Vals xs J/\PlainL s.heap a J.toArray/\xs.length<=sizeLine:=by
 rcases h with h | ⟨o,J,n,O,S,hd,U,Y,r⟩
 ·obtain⟨z,J,n,r,e⟩:=h.ok I.hok
  exact⟨J,r,⟨_,n,e,rfl,rfl,rfl⟩,z⟩
 ·refine⟨J.toList,r,⟨o,n,I.kIn a o O,S,hd,by simpa using U⟩,?_⟩
  have e:=r.length;simp only [zhQ]at e;omega
theorem Inv.tuple(I:Inv X pins σ H s)(h:SqT X.K H a xs) : ∃J:List Value,Vals xs J/\IsTup s.heap a J.toArray/\xs.length<=sizeLine:=by
 rcases h with h | ⟨o,J,n,O,S,U,Y,r⟩
 ·obtain⟨z,J,r,p⟩:=h.ok I.hok
  exact⟨J,r,p.tup,z⟩
 ·refine⟨J.toList,r,⟨o,I.kIn a o O,(Prod.mk.inj S).1,n,by simpa using U⟩,?_⟩
  have e:=r.length;simp only [zhQ]at e;omega
theorem Inv.list_inj(I:Inv X pins σ H s)(h:SqL X.K H a xs)(h':SqL X.K H a ys):xs=ys:=by
 obtain⟨J,r,⟨o,n,e,_,_,d⟩,_⟩:=I.list h;obtain⟨its',r',⟨o',n',z,_,_,d'⟩,_⟩:=I.list h';rw [e]at z;cases z;rw [d]at d';injection d' with O _;have:J=its':=by simpa using congrArg Array.toList O
 subst this;exact r.inj r'
theorem Inv.tuple_inj(I:Inv X pins σ H s)(h:SqT X.K H a xs)(h':SqT X.K H a ys):xs=ys:=by
 obtain⟨J,r,⟨o,e,_,n,d⟩,_⟩:=I.tuple h;obtain⟨its',r',⟨o',z,_,n',d'⟩,_⟩:=I.tuple h';rw [e]at z;cases z;rw [d]at d';injection d' with O _;have:J=its':=by simpa using congrArg Array.toList O
 subst this;exact r.inj r'
end
abbrev Cx.wish(X:Cx)(E:Value->Shared->Prop):Cx:={X with xe:=E}
abbrev Cx.nox(X:Cx):Cx:=X.wish λ_ _=>False
theorem Cx.Ok.wish{X:Cx}(ok:X.Ok)(E:Value->Shared->Prop):(X.wish E).Ok:=
 ⟨ok.mod,ok.kind,ok.glob,ok.blt,ok.above,ok.inj,ok.has,ok.cab,ok.hd,ok.frames,ok.stk,ok.exf,ok.bs,ok.bsz,ok.noex,ok.exfs,ok.funs,ok.frf⟩
theorem Cx.Ok.unwish{X:Cx}{E:Value->Shared->Prop}(ok:(X.wish E).Ok):X.Ok:=
 ⟨ok.mod,ok.kind,ok.glob,ok.blt,ok.above,ok.inj,ok.has,ok.cab,ok.hd,ok.frames,ok.stk,ok.exf,ok.bs,ok.bsz,ok.noex,ok.exfs,ok.funs,ok.frf⟩
section
variable{X:Cx}{pins:List (Addr×Obj)}{σ:St}{H:Hp}{s:Shared}{E:Value->Shared->Prop}
theorem Inv.wish(I:Inv X pins σ H s)(E:Value->Shared->Prop):Inv (X.wish E) pins σ H s:=⟨I.ok.wish E,I.os,I.bare,I.base,I.loc,I.cell,I.free,I.freeC,I.pin,I.hok,I.len⟩
theorem Inv.unwish(I:Inv (X.wish E) pins σ H s):Inv X pins σ H s:=⟨I.ok.unwish,I.os,I.bare,I.base,I.loc,I.cell,I.free,I.freeC,I.pin,I.hok,I.len⟩
theorem SP.unwish{D:Ends}{f:Flow}{s':Shared}(h:SP (X.wish E) pins D f s'):SP X pins D f s':=by
 cases f with
 | next=>obtain⟨z,H',I,q⟩:=h;exact⟨z,H',I.unwish,q⟩
 | brk=>obtain⟨z,H',I,q⟩:=h;exact⟨z,H',I.unwish,q⟩
 | cont=>obtain⟨z,H',I,q⟩:=h;exact⟨z,H',I.unwish,q⟩
 | ret u=>obtain⟨v,z,H',I,r,q⟩:=h;exact⟨v,z,H',I.unwish,r,q⟩
theorem PSs.nox{st:List Stmt}{t:TS}(h:PSs X.nox st t):PSs X st t:=λpins s σ H D I hw=>
 zid (h pins s σ H D (I.wish _) hw) (λ_ _ q=>q.unwish) λ_ _ z=>zhU z
end
section
variable{X:Cx}{st:Stmt}{rest:List Stmt}{t u:TS}{e:Expr}{te:TE}{pos:Pos}
def zeh:TS:=λD σ H=>D.nx σ H
def zfu(t u:TS):TS:=λD σ H=>t {D with nx:=u D} σ H
theorem zaL:PSs X [] zeh:=λ_ _ σ H _ I h=>wpAny_execs_nil ⟨σ,H,I,h⟩
theorem Ql(h1:PS X st t)(h2:PSs X rest u):PSs X (st::rest) (zfu t u):=by
 intro pins s σ H D I h;refine wpAny_execs_cons (thn (h1 pins s σ H {D with nx:=u D} I h) λf s1 q=>?_);cases f with
 | next=>
  obtain⟨z,H',J,q⟩:=q;exact h2 pins s1 z H' D J q
 | ret v=>exact q
 | brk=>exact q
 | cont=>exact q
theorem yS(h1:PS X st t):PSs X [st] t:=by
 intro pins s σ H D I h;refine wpAny_execs_cons (thn (h1 pins s σ H D I h) λf s1 q=>?_);cases f with
 | next=>exact wpAny_execs_nil q
 | ret v=>exact q
 | brk=>exact q
 | cont=>exact q
def zel:TS:=λD σ H=>D.ct σ H
theorem Jz:PS X (.Continue pos) zel:=λ_ _ σ H _ I h=>wpAny_Continue ⟨σ,H,I,h⟩
theorem Inv.quiet{pins:List (Addr×Obj)}{σ:St}{H:Hp}{s:Shared}(I:Inv X pins σ H s):interactive X.env=false:=by simp [interactive,I.ok.kind]
def zek(te:TE):TS:=λD σ H=>te σ H λ_ H1=>D.nx σ H1
theorem Ky(z:PE X e te)(J:swapsWith e none pos.line X.env=pure false:=by rfl):PS X (.Expr e pos) (zek te):=by
 intro pins s σ H D I h;exact wpAny_Expr_any (thn (z pins s σ H _ I h) λv s1 ⟨x,H1,O,U,S⟩=>⟨σ,H1,O,S⟩) I.quiet J
def zed(te:TE):TS:=λD σ H=>te σ H D.rt
theorem wa(z:PE X e te):PS X (.Return (some e) pos) (zed te):=by
 intro pins s σ H D I h;exact wpAny_Return_some (thn (z pins s σ H _ I h) λv s1 ⟨x,H1,J,O,S⟩=>⟨x,σ,H1,J,O,S⟩)
def zfZ(c:TT)(t u:TS):TS:=λD σ H=>c σ H λb H1=>if b=true then t D σ H1 else u D σ H1
theorem zez{c:Expr}{a b:List Stmt}{tc:TT}(O:PT X c tc)(ha:PSs X a t)(S:PSs X b u):PS X (.If c a b pos) (zfZ tc t u):=by
 intro pins s σ H D I h;refine wpAny_If (thn (O pins s σ H _ I h) λd s1 U=>?_);obtain⟨H1,z,J⟩:=U;cases d with
 | true=>exact ha pins s1 σ H1 D z J
 | false=>exact S pins s1 σ H1 D z J
def zb0:TS:=λ_ _ _=>False
theorem Vy:PS X st zb0:=λ_ _ _ _ _ _ h=>h.elim
end
abbrev TG:=V->St->Hp->(St->Hp->Prop)->Prop
abbrev TGs:=List V->St->Hp->(St->Hp->Prop)->Prop
def PG(X:Cx)(I:Expr)(t:TG):Prop:=
 ∀(pins:List (Addr×Obj)) (s:Shared) (σ:St) (H:Hp) (v:V) (u:Value) (Q:St->Hp->Prop),Inv X pins σ H s->RelV v u->t v σ H Q->
  wpAny (model X.prog X.w) X.A (assign I X.env u) (λ_ s'=>∃z H',Inv X pins z H' s'/\Q z H') X.xe s
def PGs(X:Cx)(I:List Expr)(t:TGs):Prop:=
 ∀(pins:List (Addr×Obj)) (s:Shared) (σ:St) (H:Hp) (vs:List V) (us:List Value) (Q:St->Hp->Prop),Inv X pins σ H s->Vals vs us->t vs σ H Q->
  wpAny (model X.prog X.w) X.A (assignInOrder ((assignEach I X.env).map (·.2)) us) (λ_ s'=>∃z H',Inv X pins z H' s'/\Q z H') X.xe s
section
variable{X:Cx}{pos:Pos}
def kF(i:Nat):TG:=λv σ H Q=>Q (σ.set i (some v)) H
theorem KD{i:Nat}{x:Str}(z:X.N.Nodup)(hi:X.N[i]? = some x)(hx:Loc X.env.scope x)(J:X.fn x=true\/X.env.scope.names.lookup x=some .local:=by first | exact .inl rfl | exact .inr rfl | assumption):PG X (.Name x pos) (kF i):=by
 intro pins s σ H v u Q I r h;exact wpAny_assign_Name (Qc I z hi hx r (λs' O=>⟨_,H,O,h⟩) J)
def zfC:TGs:=λvs σ H Q=>vs=[]/\Q σ H
def zdj(t:TG)(u:TGs):TGs:=λvs σ H Q=>∃v r,vs=v::r/\t v σ H λz H'=>u r z H' Q
theorem j8:PGs X [] zfC:=by
 intro pins s σ H vs us Q I r h;obtain⟨e,h⟩:=h;subst e;cases r;exact assignInOrder_nil ⟨σ,H,I,h⟩
theorem zS{e:Expr}{es:List Expr}{t:TG}{u:TGs}(h1:PG X e t)(h2:PGs X es u)
 (z:(assignEach (e::es) X.env).map (·.2)=assign e X.env::(assignEach es X.env).map (·.2):=by rfl):PGs X (e::es) (zdj t u):=by
 intro pins s σ H vs us Q I r h;obtain⟨v,Z,e1,h⟩:=h;subst e1;cases r with
 | cons r J=>
  rw [z];refine assignInOrder_cons (thn (h1 pins s σ H _ _ _ I r h) λ_ s1 O=>?_);obtain⟨S,H1,U,Y⟩:=O;exact h2 pins s1 S H1 _ _ Q U J Y
def zfB(K:PySem.W.Frag)(n:Nat)(t:TGs):TG:=λv σ H Q=>∃a xs,v = .ref a/\SqT K H a xs/\xs.length=n/\t xs σ H Q
theorem zcz{es:List Expr}{k:Nat}{t:TGs}{n:Nat}(J:X.calm=true)(h:PGs X es t)
 (hn:(assignEach es X.env).length=n:=by rfl) (O:(assignEach es X.env).findIdx? (·.1)=none:=by rfl):PG X (.Tuple es k pos) (zfB X.K n t):=by
 intro pins s σ H v u Q I r hw;obtain⟨a,xs,e1,S,U,hw⟩:=hw;subst e1;cases r;obtain⟨a0,z,Y,hz⟩:=I.tuple S;refine assign_Tuple_tuple (I.ok.hd J) Y (by simp [hn,<- U,z.length]) O λh' hx=>?_;have Z:Inv X pins σ H {s with heap:=h'}:=I.kept (t':=s.toks) λb o e=>hx b o (zgU (zgy e)) e;exact h pins _ σ H xs _ Q Z (by simpa using z) hw
def X8(te:TE)(g:TG):TS:=λD σ H=>te σ H λx H1=>g x σ H1 D.nx
theorem WR{tg e:Expr}{te:TE}{g:TG}(z:PE X e te)(J:PG X tg g)(O:swapsWithSole [tg] e pos.line X.env=pure false:=by rfl)(hw:swappedStores [tg] e X.env=pure none:=by rfl)
 (h1:(assignEach [tg] X.env).map (·.2)=[assign tg X.env]:=by rfl):PS X (.Assign [tg] e pos) (X8 te g):=by
 intro pins s σ H D I h;refine wpAny_Assign_stores (thn (z pins s σ H _ I h) λv s1 S=>?_) O hw;obtain⟨x,H1,U,Y,Z⟩:=S;rw [h1];exact thn (J pins s1 σ H1 x v _ U Y Z) λ_ s2 q=>q
theorem zcu{i:Nat}{x:Str}{e:Expr}{te:TE}{pos':Pos}(z:X.N.Nodup)(hi:X.N[i]? = some x)(hx:Loc X.env.scope x)(J:PE X e te)(O:swapsWith e (some (.Name x pos')) pos.line X.env=pure false:=by rfl)(S:X.fn x=true\/X.env.scope.names.lookup x=some .local:=by first | exact .inl rfl | exact .inr rfl | assumption) :
 PS X (.Assign [.Name x pos'] e pos) (X8 te (kF i)):=by
 intro pins s σ H D I h;refine wpAny_Assign_Name (thn (J pins s σ H _ I h) λv s1 U=>?_) O;obtain⟨y,H1,Y,Z,q1⟩:=U;exact Qc Y z hi hx Z (λs2 I2=>⟨_,H1,I2,q1⟩) S
end
structure It where
 go:Nat->Hp->Prop
 yld:Nat->Hp->V->Hp->Prop
 stop:Nat->Hp->Prop
def FpOk(X:Cx)(pins:List (Addr×Obj))(H:Hp)(b:Addr):Prop:=
 H b=none/\b≠X.env.locals/\b∉X.fs/\(b∈X.ex\/X.s₀.heap.objs.size<=b)/\(∀x c,X.env.cells.lookup x=some c->c≠b)/\∀p∈X.pn++pins,p.1≠b
theorem Inv.fpOk{X:Cx}{pins:List (Addr×Obj)}{σ:St}{H H':Hp}{s:Shared}{b:Addr}(I:Inv X pins σ H s)(J:s.heap.objs.size<=b)(hn:H' b=none):FpOk X pins H' b:=by
 refine⟨hn,zhM (zgG I.lt J),I.nofs J,.inr (zhh I.sz J),λx c e z=>?_,λp O z=>?_⟩
 ·obtain⟨v,q⟩:=I.cell x c e
  exact absurd (zgG q.lt (by rw [z];exact J)) (zgZ _)
 ·exact absurd (zgG (zgy (I.pin p O).1) (by rw [z];exact J)) (zgZ _)
structure Turn(P:Program)(w:World)(K:PySem.W.Frag)(tg:Expr)(J:It)(fp:List Addr)(it:Addr)(tn:Nat->Heap->Prop):Prop where
 mem:it∈fp
 obj : ∀i h,tn i h->∀b∈fp,∃o,h.get? b=some o/\∀v,o.data ≠ .cell v
 keep : ∀i h h',tn i h->(∀b∈fp,∀o,h.get? b=some o->h'.get? b=some o)->tn i h'
 item : ∀(X:Cx),X.prog=P->X.w=w->X.K=K->X.calm=true->∀(i:Nat) (pins:List (Addr×Obj)) (s:Shared) (σ:St) (H:Hp) (E:Value->Shared->Prop),Inv X pins σ H s->(∀b∈fp,FpOk X pins H b)->tn i s.heap->J.go i H->
  wpAny (model P w) X.A (pyNext (.ref it)) (λr s1=>∃u,r=some u/\
   wpAny (model P w) X.A (letOwnedTupleGo tg (.ref it) u) (λ_ s2=>∃x H',Inv X pins σ H' s2/\RelV x u/\J.yld i H x H'/\tn (i+1) s2.heap/\∀b∈fp,H' b=none) E s1) E s
 done : ∀(X:Cx),X.prog=P->X.w=w->X.K=K->X.calm=true->∀(i:Nat) (pins:List (Addr×Obj)) (s:Shared) (σ:St) (H:Hp) (E:Value->Shared->Prop),Inv X pins σ H s->(∀b∈fp,FpOk X pins H b)->tn i s.heap->J.stop i H->
  wpAny (model P w) X.A (pyNext (.ref it)) (λr s1=>r=none/\Inv X pins σ H s1) E s
 self : ∀(A:Around) (i:Nat) (s:Shared) (Q:Value->Shared->Prop) (E:Value->Shared->Prop),tn i s.heap->Q (.ref it) s->wpAny (model P w) A (pyIter (.ref it)) Q E s
abbrev TI:=St->Hp->(It->Hp->Prop)->Prop
def PIE(X:Cx)(pins:List (Addr×Obj))(σ:St)(tg:Expr)(R:It->Hp->Prop)(z:Value)(s2:Shared):Prop:=
 ∃(it:Addr) (fp:List Addr) (tn:Nat->Heap->Prop) (J:It) (H':Hp),z = .ref it/\Inv X pins σ H' s2/\Turn X.prog X.w X.K tg J fp it tn/\tn 0 s2.heap/\(∀b∈fp,FpOk X pins H' b)/\R J H'
def PI(X:Cx)(tg iter:Expr)(wi:TI):Prop:=
 ∀(pins:List (Addr×Obj)) (s:Shared) (σ:St) (H:Hp) (R:It->Hp->Prop),Inv X pins σ H s->wi σ H R->
  wpAny (model X.prog X.w) X.A (eval iter X.env) (λv s1=>wpAny (model X.prog X.w) X.A (pyIter v) (PIE X pins σ tg R) X.xe s1) X.xe s
theorem V5{M:Model}{A:Around}{E:Value->Shared->Prop}{s:Shared}{tg:Expr}{it:Addr}{u:Value}{o:Obj}{n:String}{vs:Array Value}{Q:Unit->Shared->Prop}(I:s.heap.get? it=some o)(J:o.cls = .type n)(hd:o.data = .fields vs)
 (hn:["enumerate","zip","dict_itemiterator","dict_reverseitemiterator","odict_iterator","itertools.zip_longest","itertools.pairwise"].contains n=false) (z:Q () s):wpAny M A (letOwnedTupleGo tg (.ref it) u) Q E s:=by
 unfold letOwnedTupleGo;cases tg<;>first
  | exact zgo z
  | (cases u<;>first
      | exact zgo z
      | (refine zgi (wpAny_load I ?_)
         rw [J,hd];show wpAny M A (if (["enumerate","zip","dict_itemiterator","dict_reverseitemiterator","odict_iterator","itertools.zip_longest","itertools.pairwise"].contains n && vs[0]? == some (rawInt _))=true then _ else _) Q E s;rw [if_neg (by intro h;rw [hn,Bool.false_and]at h;cases h)];exact zgo z))
def Itl(K:PySem.W.Frag)(a:Addr):It:=
 ⟨λi H=>∃xs x,SqL K H a xs/\xs[i]? = some x,λi H x H'=>H'=H/\∀xs,SqL K H a xs->xs[i]? = some x,λi H=>∃xs,SqL K H a xs/\xs.length<=i⟩
def Itt(K:PySem.W.Frag)(a:Addr):It:=
 ⟨λi H=>∃xs x,SqT K H a xs/\xs[i]? = some x,λi H x H'=>H'=H/\∀xs,SqT K H a xs->xs[i]? = some x,λi H=>∃xs,SqT K H a xs/\xs.length<=i⟩
def Itr(lo:Int)(n:Nat):It:=⟨λi _=>i<n,λi H x H'=>H'=H/\x = .int (lo+i),λi _=>n<=i⟩
theorem X2{P:Program}{w:World}{K:PySem.W.Frag}{tg:Expr}(a it:Addr):Turn P w K tg (Itl K a) [it] it (λi h=>h.IsListIter it a i) where
 mem:=by simp
 obj:=λi h st b J=>by
  have e:b=it:=by simpa using J
  subst e;obtain⟨o,e,c,d⟩:=st;exact⟨o,e,λv z=>by rw [d]at z;cases z⟩
 keep:=λi h h' st k=>st.at λo e=>k it ⋯ o e
 item:=by
  intro X U hw Y hc i pins s σ H E I O st Z;subst U hw Y;obtain⟨xs,x,S,hx⟩:=Z;obtain⟨a8,rv,p,hz⟩:=I.list S;obtain⟨u,hu,ru⟩:=rv.get hx;obtain⟨f0,f1,f2,f3,f4,f5⟩:=O it ⋯;refine wpAny_pyNext_list_item st p.isList (x:=u) (by simpa using hu) λh' a7 sb=>?_;have I1:Inv X pins σ H {s with heap:=h'}:=I.turned (t':=s.toks) (λb o J e=>(sb.2 b J).trans e) f0 f1 f3 f4 f5;obtain⟨o,e,c,d⟩:=id a7;exact⟨u,rfl,V5 (s:={s with heap:=h'}) e c d ⋯ ⟨x,H,I1,ru,⟨rfl,λys hy=>by rw [I.list_inj hy S];exact hx⟩,a7,λb J=>(O b J).1⟩⟩
 done:=by
  intro X U hw Y hc i pins s σ H E I O st Z;subst U hw Y;obtain⟨xs,S,hx⟩:=Z;obtain⟨a8,rv,p,hz⟩:=I.list S;obtain⟨f0,f1,f2,f3,f4,f5⟩:=O it ⋯;have hl:=rv.length;exact wpAny_pyNext_list_end (I.ok.hd hc) st p.isList (by simp;omega) λh' eb=>⟨rfl,I.turned (t':=s.toks) (λb o J e=>eb b o J e) f0 f1 f3 f4 f5⟩
 self:=λ_ _ _ _ _ st h=>wpAny_pyIter_listiter st h
theorem QY{P:Program}{w:World}{K:PySem.W.Frag}{tg:Expr}(a it:Addr):Turn P w K tg (Itt K a) [it] it (λi h=>h.IsTupleIter it a i) where
 mem:=by simp
 obj:=λi h st b J=>by
  have e:b=it:=by simpa using J
  subst e;obtain⟨o,e,c,d⟩:=st;exact⟨o,e,λv z=>by rw [d]at z;cases z⟩
 keep:=λi h h' st k=>st.at λo e=>k it ⋯ o e
 item:=by
  intro X U hw Y hc i pins s σ H E I O st Z;subst U hw Y;obtain⟨xs,x,S,hx⟩:=Z;obtain⟨a0,rv,p,hz⟩:=I.tuple S;obtain⟨u,hu,ru⟩:=rv.get hx;obtain⟨f0,f1,f2,f3,f4,f5⟩:=O it ⋯;refine wpAny_pyNext_tuple_item st (show s.heap.IsTuple a a0.toArray from p) (x:=u) (by simpa using hu) λh' a8 sb=>?_;have I1:Inv X pins σ H {s with heap:=h'}:=I.turned (t':=s.toks) (λb o J e=>(sb.2 b J).trans e) f0 f1 f3 f4 f5;obtain⟨o,e,c,d⟩:=id a8;exact⟨u,rfl,V5 (s:={s with heap:=h'}) e c d ⋯ ⟨x,H,I1,ru,⟨rfl,λys hy=>by rw [I.tuple_inj hy S];exact hx⟩,a8,λb J=>(O b J).1⟩⟩
 done:=by
  intro X U hw Y hc i pins s σ H E I O st Z;subst U hw Y;obtain⟨xs,S,hx⟩:=Z;obtain⟨a0,rv,p,hz⟩:=I.tuple S;obtain⟨f0,f1,f2,f3,f4,f5⟩:=O it ⋯;have hl:=rv.length;exact wpAny_pyNext_tuple_end (I.ok.hd hc) st (show s.heap.IsTuple a a0.toArray from p) (by simp;omega) λh' eb=>⟨rfl,I.turned (t':=s.toks) (λb o J e=>eb b o J e) f0 f1 f3 f4 f5⟩
 self:=λ_ _ _ _ _ st h=>wpAny_pyIter_tupleiter st h
theorem QZ{P:Program}{w:World}{K:PySem.W.Frag}{tg:Expr}(it:Addr)(lo:Int)(n:Nat):Turn P w K tg (Itr lo n) [it] it (λi h=>IsRangeIter h it (lo+(i:Nat)*1) ((n:Int) - (i:Nat)) 1) where
 mem:=by simp
 obj:=λi h st b J=>by
  have e:b=it:=by simpa using J
  subst e;exact⟨_,st,λv z=>by
   have z':Data.fields _=Data.cell v:=z;cases z'⟩
 keep:=λi h h' st k=>k it ⋯ _ st
 item:=by
  intro X S hw U Y i pins s σ H E I O st Z;subst S hw U;obtain⟨f0,f1,f2,f3,f4,f5⟩:=O it ⋯;have W:=Walks.range (prog:=X.prog) (w:=X.w) (I.ok.hd Y) it lo 1 n;refine W.item i s _ _ Z st λv h' tk hv a5 kk=>?_;obtain⟨t,rfl⟩:=hv;have I1:Inv X pins σ H {s with heap:=h',toks:=tk}:=I.turned (λb o J e=>kk b o (by simpa using J) e) f0 f1 f3 f4 f5;refine⟨_,rfl,V5 (s:={s with heap:=h',toks:=tk}) (n:="range_iterator") a5 rfl rfl ⋯ ⟨.int (lo+i),H,I1,⟨t,?_⟩,⟨rfl,rfl⟩,a5,λb J=>(O b J).1⟩⟩;rw [Int.mul_one]
 done:=by
  intro X S hw U Y i pins s σ H E I O st Z;subst S hw U;obtain⟨f0,f1,f2,f3,f4,f5⟩:=O it ⋯;exact wpAny_pyNext_range_end (I.ok.hd Y) st (by have:n<=i:=Z;omega) λh' eb=>⟨rfl,I.turned (t':=s.toks) (λb o J e=>eb b o J e) f0 f1 f3 f4 f5⟩
 self:=λ_ _ _ _ _ st h=>wpAny_pyIter_rangeiter st h
section
variable{X:Cx}{tg:Expr}
theorem Qi{pins:List (Addr×Obj)}{σ:St}{H:Hp}{s:Shared}{R:It->Hp->Prop}{E:Value->Shared->Prop}{lo hi:Int}{t u v:Tok}{tk:Nat}(I:Inv X pins σ H s)(h1 : -(2 ^ 62)<=lo)(h2:lo<2 ^ 62)(J : -(2 ^ 62)<=hi)(O:hi<2 ^ 62)
 (q:R (Itr lo (hi - lo).toNat) H):wpAny (model X.prog X.w) X.A (pyIter (.ref s.heap.objs.size)) (PIE X pins σ tg R) E {s with heap:=s.heap.push {cls:= .type "range",data:= .fields #[.int lo t,.int hi u,.int 1 v]},toks:=tk}:=by
 refine wpAny_pyIter_range (IsRange.new ..) (small_one h1 h2 J O) ?_;have z:Inv X pins σ H {s with heap:=s.heap.push {cls:= .type "range",data:= .fields #[.int lo t,.int hi u,.int 1 v]},toks:=tk}:=I.kept λb o e=>zgk _ e;refine⟨(s.heap.push {cls:= .type "range",data:= .fields #[.int lo t,.int hi u,.int 1 v]}).objs.size,[(s.heap.push {cls:= .type "range",data:= .fields #[.int lo t,.int hi u,.int 1 v]}).objs.size],_,_,H,rfl,
  z.kept (t':=tk) λb o e=>zgk _ e,QZ _ lo (hi - lo).toNat,?_,λb S=>?_,q⟩
 ·have e1:lo+((0:Nat):Int)*1=lo:=by simp
  have U:(((hi - lo).toNat:Nat):Int) - ((0:Nat):Int)=Builtin.Range.rangeSize lo hi 1:=by rw [rangeSize_one];split<;>omega
  show IsRangeIter _ _ (lo+((0:Nat):Int)*1) ((((hi - lo).toNat:Nat):Int) - ((0:Nat):Int)) 1;rw [e1,U];exact zgu _ rfl
 ·have e:b=(s.heap.push {cls:= .type "range",data:= .fields #[.int lo t,.int hi u,.int 1 v]}).objs.size:=by simpa using S
  subst e;exact z.fpOk (zgp _) (z.hok.fresh (zgp _))
def zeS(ta:TA):TI:=λσ H R=>ta σ H λvs H1=>∃j:Int,vs=[.int j]/\ -(2 ^ 62)<=j/\j<2 ^ 62/\R (Itr 0 j.toNat) H1
def zeR(ta:TA):TI:=λσ H R=>ta σ H λvs H1=>∃i j:Int,vs=[.int i,.int j]/\(-(2 ^ 62)<=i/\i<2 ^ 62/\ -(2 ^ 62)<=j/\j<2 ^ 62)/\R (Itr i (j - i).toNat) H1
theorem KC{a:Expr}{ta:TA}{p pos:Pos}(J:Gl X "range")(hm:X.mg "range" = none)(ha:PA X [a] ta)(O:starEach [a] X.env=[(false,eval a X.env)]:=by rfl):PI X tg (.Call (.Name "range" p) [a] [] pos) (zeS ta):=by
 intro pins s σ H R I h;refine Call_ (xX I J hm boot_range (zho (thn (ha pos pins s σ H _ I h) λus s1 S=>?_) O rfl));obtain⟨vs,H1,U,Y,z⟩:=S;obtain⟨j,e,z,Z,q⟩:=z;subst e;cases Y with
 | cons r rr=>
  cases rr;obtain⟨t,rfl⟩:=r;exact call_range_1 (Qi U ⋯ ⋯ z Z (by simpa using q))
theorem KB{a b:Expr}{ta:TA}{p pos:Pos}(S:Gl X "range")(hm:X.mg "range" = none)(ha:PA X [a,b] ta)(U:starEach [a,b] X.env=[(false,eval a X.env),(false,eval b X.env)]:=by rfl)(O:starEach [b] X.env=[(false,eval b X.env)]:=by rfl) :
 PI X tg (.Call (.Name "range" p) [a,b] [] pos) (zeR ta):=by
 intro pins s σ H R I h;refine Call_ (xX I S hm boot_range (zho (thn (ha pos pins s σ H _ I h) λus s1 Y=>?_) (by rw [U,O]) (by rw [O];rfl)));obtain⟨vs,H1,Z,r1,z⟩:=Y;obtain⟨i,j,e,⟨z,q2,q3,q4⟩,q⟩:=z;subst e;cases r1 with
 | cons r J=>
  cases J with
  | cons r' J=>
   cases J;obtain⟨t,rfl⟩:=r;obtain⟨t',rfl⟩:=r';exact call_range_2 (Qi Z z q2 q3 q4 q)
def zf0(wi:TI)(g:TG)(tb:TS):TS:=λD σ H=>wi σ H λJ H1=>∃W:Nat->Nat->St->Hp->Prop,(∃m,W 0 m σ H1)/\∀i m σ H,W i m σ H->
 (J.stop i H/\D.nx σ H)\/(J.go i H/\∃N:St->Hp->Prop,(∀z H',N z H'->∃m',m'<m/\W (i+1) m' z H')/\∀x H',J.yld i H x H'->g x σ H' λI H2=>tb {D with nx:=N,ct:=N,bk:=D.nx} I H2)
def ZL(fp:List Addr)(h:Heap):List (Addr×Obj):=fp.filterMap λb=>(h.get? b).map λo=>(b,o)
theorem xM{fp:List Addr}{h:Heap}{b:Addr}{o:Obj}(z:b∈fp)(e:h.get? b=some o):(b,o)∈ZL fp h:=List.mem_filterMap.mpr ⟨b,z,by rw [e];rfl⟩
theorem KI{fp:List Addr}{h:Heap}{p:Addr×Obj}(z:p∈ZL fp h):p.1∈fp/\h.get? p.1=some p.2:=by
 obtain⟨b,I,e⟩:=List.mem_filterMap.mp z;cases q:h.get? b with
 | none=>rw [q]at e;cases e
 | some o=>
  rw [q]at e;have J:(b,o)=p:=zhy e;subst J;exact⟨I,q⟩
theorem Inv.pinned{pins:List (Addr×Obj)}{σ:St}{H:Hp}{s:Shared}{fp:List Addr}(I:Inv X pins σ H s)(S : ∀b∈fp,FpOk X pins H b)(U : ∀b∈fp,∃o,s.heap.get? b=some o/\∀v,o.data ≠ .cell v):Inv X (pins++ZL fp s.heap) σ H s:=
 I.pins_of λp Y=>(ziJ.mp Y).elim (λz=>I.pin p (zhe _ z)) λz=>by
  obtain⟨J,e⟩:=KI z;obtain⟨Z,f1,f2,_⟩:=S p.1 J;obtain⟨o,O,d⟩:=U p.1 J;rw [e]at O;cases O;exact⟨e,Z,f1,f2,d⟩
theorem Inv.unpinned{pins pl:List (Addr×Obj)}{σ:St}{H:Hp}{s:Shared}(I:Inv X (pins++pl) σ H s):Inv X pins σ H s:=I.pins_of λp z=>I.pin p (zhe _ (List.mem_append_left _ z))
theorem zcv{iter:Expr}{body:List Stmt}{wi:TI}{g:TG}{tb:TS}{pos:Pos}(hp:PassesOwn (model X.prog X.w) X.A X.env X.xe)(hc:X.calm=true)(hi:PI X tg iter wi)(hg:PG X tg g)(z:PSs X body tb)
 (hs : ∀x,foldedSetIterable iter X.env x=pure x:=by intro _;rfl):PS X (.For tg iter body [] pos) (zf0 wi g tb):=by
 intro pins s σ H D I h;refine wpAny_For (thn (hi pins s σ H _ I h) λv s1 h1=>thn h1 λbe s2 h2=>?_) hs;obtain⟨it,fp,tn,J,H2,e,I2,T,ak,f2,W,⟨m0,w0⟩,an⟩:=h2;subst e;have a5 : ∀{H':Hp},(∀b∈fp,H' b=none)->∀b∈fp,FpOk X pins H' b:=λhn b z=>⟨hn b z,(f2 b z).2⟩;refine codeAny_forLoop_any (λn s'=>∃i σ' H',Inv X pins σ' H' s'/\tn i s'.heap/\(∀b∈fp,H' b=none)/\W i n σ' H') ?_ m0 ⟨0,σ,H2,I2,ak,λb z=>(f2 b z).1,w0⟩;rintro n s3 ⟨i,σ3,H3,I3,ad,ae,w3⟩;rcases an i n σ3 H3 w3 with⟨stop,qn⟩ | ⟨go,N,hN,step⟩
 ·refine ziS hp (thn (T.done X rfl rfl rfl hc i pins s3 σ3 H3 X.xe I3 (a5 ae) ad stop) λr s4 Z=>?_)
  obtain⟨hr,I4⟩:=Z;subst hr;exact wpAny_execs_nil ⟨σ3,H3,I4,qn⟩
 ·refine ziS hp (thn (T.item X rfl rfl rfl hc i pins s3 σ3 H3 X.xe I3 (a5 ae) ad go) λr s4 Z=>?_)
  obtain⟨u,hr,h4⟩:=Z;subst hr;refine ziS hp (thn h4 λ_ s5 Z=>?_);obtain⟨x,H5,I5,r5,y5,a7,ax⟩:=Z;have ay:=I5.pinned (a5 ax) (T.obj _ _ a7);refine ziS hp (thn (hg _ s5 σ3 H5 x u _ ay r5 (step x H5 y5)) λ_ s6 Z=>?_);obtain⟨σ6,H6,I6,q6⟩:=Z;refine ziS hp (thn (z _ s6 σ6 H6 _ I6 q6) λf s7 Y=>?_);have again : ∀{O:St} {S:Hp},Inv X (pins++ZL fp s5.heap) O S s7->N O S->∃m,m<n/\∃i σ' H',Inv X pins σ' H' s7/\tn i s7.heap/\(∀b∈fp,H' b=none)/\W i m σ' H':=λ{O S} U n7=>by
   obtain⟨m',hm,w7⟩:=hN O S n7;refine⟨m',hm,i+1,O,S,U.unpinned,T.keep _ _ _ a7 λb z o e=>(U.pin (b,o) (zhe _ (zhe _ (xM z e)))).1,λb z=>?_,w7⟩;obtain⟨o,e,d⟩:=T.obj _ _ a7 b z;exact(U.pin (b,o) (zhe _ (zhe _ (xM z e)))).2.1
  cases f with
  | next=>obtain⟨O,S,U,n7⟩:=Y;exact again U n7
  | cont=>obtain⟨O,S,U,n7⟩:=Y;exact again U n7
  | brk=>obtain⟨O,S,U,Y⟩:=Y;exact⟨O,S,U.unpinned,Y⟩
  | ret v=>obtain⟨x7,O,S,U,r7,Y⟩:=Y;exact⟨x7,O,S,U.unpinned,r7,Y⟩
end
theorem Z1{lo:Int}{n:Nat}{g:TG}{tb:TS}{D:Ends}{σ:St}{H:Hp}(z:Nat->St->Hp->Prop)(S:z 0 σ H)
 (U : ∀i σ H,i<n->z i σ H->g (.int (lo+i)) σ H λI H2=>tb {D with nx:=z (i+1),ct:=z (i+1),bk:=D.nx} I H2) (hd : ∀σ H,z n σ H->D.nx σ H) :
 ∃W:Nat->Nat->St->Hp->Prop,(∃m,W 0 m σ H)/\∀i m σ H,W i m σ H->
  ((Itr lo n).stop i H/\D.nx σ H)\/((Itr lo n).go i H/\∃N:St->Hp->Prop,(∀J H',N J H'->∃m',m'<m/\W (i+1) m' J H')/\∀x H',(Itr lo n).yld i H x H'->g x σ H' λI H2=>tb {D with nx:=N,ct:=N,bk:=D.nx} I H2):=by
 refine⟨λi m σ H=>m=n - i/\i<=n/\z i σ H,⟨n,by simp,zh5 _,S⟩,?_⟩;rintro i m σ H ⟨rfl,hi,p⟩;by_cases O:i<n
 ·refine .inr ⟨O,z (i+1),λJ H' Y=>⟨n - (i+1),by omega,rfl,O,Y⟩,λx H' y=>?_⟩
  obtain⟨e,y⟩:=y;subst e y;exact U i σ _ O p
 ·have e:i=n:=by omega
  subst e;exact .inl ⟨zgp _,hd σ H p⟩
abbrev R2:=V->V->Hp->VK->Prop
def OpR(X:Cx)(f:Value->Value->Sem Value)(r:R2):Prop:=
 ∀(pins:List (Addr×Obj)) (s:Shared) (σ:St) (H:Hp) (x y:V) (v u:Value) (Q:VK),Inv X pins σ H s->RelV x v->RelV y u->r x y H Q->
  wpAny (model X.prog X.w) X.A (f v u) (EP X pins σ Q) X.xe s
def vD(X:Cx)(f:Value)(r:List V->Hp->VK->Prop):Prop:=
 ∀(pins:List (Addr×Obj)) (s:Shared) (σ:St) (H:Hp) (xs:List V) (us:List Value) (Q:VK),Inv X pins σ H s->Vals xs us->r xs H Q->
  wpAny (model X.prog X.w) X.A (call f us) (EP X pins σ Q) X.xe s
def zgg(X:Cx)(r:V->Hp->(Bool->Hp->Prop)->Prop):Prop:=
 ∀(pins:List (Addr×Obj)) (s:Shared) (σ:St) (H:Hp) (x:V) (v:Value) (Q:Bool->Hp->Prop),Inv X pins σ H s->RelV x v->r x H Q->
  wpAny (model X.prog X.w) X.A (truthy v) (TP X pins σ Q) X.xe s
def tOp(r:R2)(ta tb:TE):TE:=λσ H Q=>ta σ H λx H1=>tb σ H1 λy H2=>r x y H2 Q
def rI(C:Int->Int->Prop)(g:Int->Int->V):R2:=λx y H Q=>∃i j,x = .int i/\y = .int j/\C i j/\Q (g i j) H
def rI0(g:Int->Int->V):R2:=λx y H Q=>∃i j,x = .int i/\y = .int j/\Q (g i j) H
section
variable{X:Cx}{a b c:Expr}{ta tb tc:TE}{pos:Pos}
theorem ze8(ha:PE X a ta)(J:PE X b tb){pins:List (Addr×Obj)}{s:Shared}{σ:St}{H:Hp}{R:V->V->Hp->Prop}(I:Inv X pins σ H s)
 (h:ta σ H λx H1=>tb σ H1 λy H2=>R x y H2) {Q:Value->Shared->Prop} {f:Value->Value->Sem Value}
 (O : ∀v u s2 x y H2,Inv X pins σ H2 s2->RelV x v->RelV y u->R x y H2->wpAny (model X.prog X.w) X.A (f v u) Q X.xe s2) :
 wpAny (model X.prog X.w) X.A (eval a X.env) (λv S=>wpAny (model X.prog X.w) X.A (eval b X.env) (λu U=>wpAny (model X.prog X.w) X.A (f v u) Q X.xe U) X.xe S) X.xe s:=by
 refine thn (ha pins s σ H _ I h) λv s1 z=>?_;obtain⟨x,H1,Y,Z,q1⟩:=z;refine thn (J pins s1 σ H1 _ Y q1) λu s2 z=>?_;obtain⟨y,H2,I2,r2,q2⟩:=z;exact O v u s2 x y H2 I2 Z r2 q2
theorem zaU{z:Operator}{r:R2}(J:OpR X (binaryOp z) r)(ha:PE X a ta)(O:PE X b tb):PE X (.BinOp a z b pos) (tOp r ta tb):=by
 intro pins s σ H Q I h;exact wpAny_BinOp (ze8 ha O I h λv u s2 x y H2 S U Y q=>J pins s2 σ H2 x y v u Q S U Y q)
theorem opI{f:Value->Value->Sem Value}{C:Int->Int->Prop}{g:Int->Int->Int}
 (rule : ∀(i j:Int) (t u:Tok) (s:Shared) (Q:Value->Shared->Prop) (E:Value->Shared->Prop),C i j->Q (.int (g i j) s.toks) {s with toks:=s.toks+1}->wpAny (model X.prog X.w) X.A (f (.int i t) (.int j u)) Q E s) :
 OpR X f (rI C λi j=> .int (g i j)):=by
 intro pins s σ H x y v u Q I z J h;obtain⟨i,j,rfl,rfl,O,q⟩:=h;obtain⟨t,rfl⟩:=z;obtain⟨t',rfl⟩:=J;exact rule i j t t' s _ _ O ⟨.int (g i j),H,I.tok _,⟨_,rfl⟩,q⟩
theorem zfz{f:Value->Value->Sem Value}{g:Int->Int->Int}
 (rule : ∀(i j:Int) (t u:Tok) (s:Shared) (Q:Value->Shared->Prop) (E:Value->Shared->Prop),Q (.int (g i j) s.toks) {s with toks:=s.toks+1}->wpAny (model X.prog X.w) X.A (f (.int i t) (.int j u)) Q E s) :
 OpR X f (rI0 λi j=> .int (g i j)):=by
 intro pins s σ H x y v u Q I z J h;obtain⟨i,j,rfl,rfl,q⟩:=h;obtain⟨t,rfl⟩:=z;obtain⟨t',rfl⟩:=J;exact rule i j t t' s _ _ ⟨.int (g i j),H,I.tok _,⟨_,rfl⟩,q⟩
theorem zeG{f:Value->Value->Sem Value}{g:Int->Int->Bool}
 (rule : ∀(i j:Int) (t u:Tok) (s:Shared) (Q:Value->Shared->Prop) (E:Value->Shared->Prop),Q (.bool (g i j)) s->wpAny (model X.prog X.w) X.A (f (.int i t) (.int j u)) Q E s) :
 OpR X f (rI0 λi j=> .bl (g i j)):=by
 intro pins s σ H x y v u Q I z J h;obtain⟨i,j,rfl,rfl,q⟩:=h;obtain⟨t,rfl⟩:=z;obtain⟨t',rfl⟩:=J;exact rule i j t t' s _ _ ⟨.bl (g i j),H,I,rfl,q⟩
def zfU(i j:Int):Prop:=0<j/\j<1073741824
def zfT(i j:Int):Prop:=0<=j/\j<=1000000/\i.natAbs<2 ^ 64
def CMul(i j:Int):Prop:=(-(2 ^ 64)<i/\i<2 ^ 64)\/(-(2 ^ 64)<j/\j<2 ^ 64)
theorem CMul.ok{i j:Int}(h:CMul i j):IntMulOk i j:=by
 rcases h with⟨h1,h2⟩ | ⟨h1,h2⟩
 ·exact .of_left (intBits_le_64 h1 h2)
 ·exact .of_right (intBits_le_64 h1 h2)
theorem op_add:OpR X (binaryOp .Add) (rI0 λi j=> .int (i+j)):=zfz λ_ _ _ _ _ _ _ q=>add_int q
theorem zcM:OpR X (binaryOp .Sub) (rI0 λi j=> .int (i - j)):=zfz λ_ _ _ _ _ _ _ q=>sub_int q
theorem op_mul:OpR X (binaryOp .Mult) (rI CMul λi j=> .int (i*j)):=opI λ_ _ _ _ _ _ _ z q=>mul_int q z.ok
theorem zaZ:OpR X (binaryOp .FloorDiv) (rI zfU λi j=> .int (i/j)):=opI λi j _ _ _ _ _ z q=>by
 have h1:(0:Int)<j:=z.1;have h2:j<1073741824:=z.2;exact floordiv_int ⋯ (by rw [Int.fdiv_eq_ediv_of_nonneg i ⋯];exact q) (.inl (PyProof.noPylong_small ⋯))
theorem zcP:OpR X (binaryOp .Mod) (rI (λ_ j=>0<j) λi j=> .int (i%j)):=opI λi j _ _ _ _ _ z q=>by
 have h1:(0:Int)<j:=z;exact mod_int' ⋯ (by rw [Int.fmod_eq_emod_of_nonneg i ⋯];exact q)
theorem zcN:OpR X (binaryOp .Pow) (rI zfT λi j=> .int (i ^ j.toNat)):=opI λ_ _ _ _ _ _ _ z q=>pow_int_small z.1 z.2.1 z.2.2 q
end
def zf2:V->V->Bool
 | .non,.non=>true | .non,.int _=>true | .int _,.non=>true | .non,.bl _=>true | .bl _,.non=>true | .non,.str _=>true | .str _,.non=>true
 | .int _,.int _=>true | .bl _,.bl _=>true | .str _,.str _=>true | .byt _,.byt _=>true
 | .int _,.str _=>true | .str _,.int _=>true | .bl _,.str _=>true | .str _,.bl _=>true
 | _,_=>false
def rEq:R2:=λx y H Q=>zf2 x y=true/\Q (.bl (decide (x=y))) H
theorem zbm{i j:Int}:decide (V.int i=V.int j)=(i==j):=by
 rw [zhZ];simp
theorem zdo{i j:Bool}:decide (V.bl i=V.bl j)=(i==j):=by
 rw [zhZ];simp
theorem zbl{i j:Str}:decide (V.str i=V.str j)=(i==j):=by
 rw [zhZ];simp
theorem zbn{i j:Array UInt8}:decide (V.byt i=V.byt j)=(i.toList==j.toList):=by
 rw [zhZ];cases i;cases j;simp
section
variable{X:Cx}{a b c:Expr}{ta tb tc:TE}{pos:Pos}
theorem qs{pins:List (Addr×Obj)}{σ:St}{H:Hp}{s:Shared}{Q:VK}{k z:Bool}(I:Inv X pins σ H s)(q:Q (.bl k) H)(e:k=z):EP X pins σ Q (.bool z) s:=by
 subst e;exact⟨.bl k,H,I,rfl,q⟩
theorem zeF:OpR X (compareOp .Eq) rEq:=by
 intro pins s σ H x y v u Q I O z h;obtain⟨J,q⟩:=h;cases x with
 | non=>
  cases O;cases y with
  | non=>cases z;exact PySem.EqNone.eq_none_none (qs I q ⋯)
  | bl j=>cases z;exact PySem.EqNone.eq_none_bool (qs I q ⋯)
  | int j=>obtain⟨t',rfl⟩:=z;exact PySem.EqNone.eq_none_int (qs I q ⋯)
  | str j=>obtain⟨t',rfl⟩:=z;exact PySem.EqNone.eq_none_str (qs I q ⋯)
  | _=>exact absurd (show false=true from J) zgB
 | bl i=>
  cases O;cases y with
  | non=>cases z;exact PySem.EqNone.eq_bool_none (qs I q ⋯)
  | bl j=>cases z;exact eq_bool (qs I q zdo)
  | str j=>obtain⟨t',rfl⟩:=z;exact PySem.EqMixed.eq_bool_str (qs I q ⋯)
  | _=>exact absurd (show false=true from J) zgB
 | int i=>
  obtain⟨t,rfl⟩:=O;cases y with
  | non=>cases z;exact PySem.EqNone.eq_int_none (qs I q ⋯)
  | int j=>obtain⟨t',rfl⟩:=z;exact eq_int (qs I q zbm)
  | str j=>obtain⟨t',rfl⟩:=z;exact PySem.EqMixed.eq_int_str (qs I q ⋯)
  | _=>exact absurd (show false=true from J) zgB
 | str i=>
  obtain⟨t,rfl⟩:=O;cases y with
  | non=>cases z;exact PySem.EqNone.eq_str_none (qs I q ⋯)
  | bl j=>cases z;exact PySem.EqMixed.eq_str_bool (qs I q ⋯)
  | int j=>obtain⟨t',rfl⟩:=z;exact PySem.EqMixed.eq_str_int (qs I q ⋯)
  | str j=>obtain⟨t',rfl⟩:=z;exact eq_str (qs I q zbl)
  | _=>exact absurd (show false=true from J) zgB
 | byt i=>
  obtain⟨t,rfl⟩:=O;cases y with
  | byt j=>obtain⟨t',rfl⟩:=z;exact PySem.W.eq_bytes (qs I q zbn)
  | _=>exact absurd (show false=true from J) zgB
 | _=>cases y<;>exact absurd (show false=true from J) zgB
theorem zcQ:OpR X (compareOp .LtE) (rI0 λi j=> .bl (decide (i<=j))):=zeG λ_ _ _ _ _ _ _ q=>le_int q
theorem zcR:OpR X (compareOp .Gt) (rI0 λi j=> .bl (decide (j<i))):=zeG λ_ _ _ _ _ _ _ q=>gt_int q
theorem zcS:OpR X (compareOp .GtE) (rI0 λi j=> .bl (decide (j<=i))):=zeG λ_ _ _ _ _ _ _ q=>ge_int q
theorem OpR.or{f:Value->Value->Sem Value}{r r':R2}(h:OpR X f r)(h':OpR X f r'):OpR X f (λx y H Q=>r x y H Q\/r' x y H Q):=by
 intro pins s σ H x y v u Q I z J q;rcases q with q | q
 ·exact h pins s σ H x y v u Q I z J q
 ·exact h' pins s σ H x y v u Q I z J q
theorem kx(b:Expr){z:CmpOp}(h:z ≠ .In:=by decide)(h2:z ≠ .NotIn:=by decide):behindInMarks z b=false:=by
 have e1:(z==CmpOp.In)=false:=by cases z<;>first | rfl | exact absurd rfl h
 have I:(z==CmpOp.NotIn)=false:=by cases z<;>first | rfl | exact absurd rfl h2
 cases b<;>simp [behindInMarks,e1,I]
theorem zaW{z:CmpOp}{r:R2}(J:OpR X (compareOp z) r)(ha:PE X a ta)(O:PE X b tb)(hm:behindInMarks z b=false):PE X (.Compare a [z] [b] pos) (tOp r ta tb):=by
 intro pins s σ H Q I h;exact wpAny_Compare1 (ze8 ha O I h λv u s2 x y H2 S U Y q=>J pins s2 σ H2 x y v u Q S U Y q) hm
def zbZ(t:TE):TT:=λσ H Q=>t σ H λx H'=>∃k,x = .bl k/\Q k H'
theorem Kv{J:CmpOp}{r:R2}(O:OpR X (compareOp J) r)(ha:PE X a ta)(S:PE X b tb)(hm:behindInMarks J b=false):PT X (.Compare a [J] [b] pos) (zbZ (tOp r ta tb)):=by
 intro pins s σ H Q I h;refine wpAny_isTrue_Compare1 (thn (ha pins s σ H _ I h) λv s1 ⟨x,H1,U,Y,Z⟩=>thn (S pins s1 σ H1 _ U Z) λu s2 ⟨y,H2,I2,r2,q2⟩=>
  thn (O pins s2 σ H2 x y v u _ I2 Y r2 q2) λc s3 ⟨z,H3,I3,r3,k,e,q3⟩=>?_) hm
 subst e;cases r3;exact zh4 ⟨H3,I3,q3⟩
def zfQ(K:PySem.W.Frag)(x:V)(H:Hp)(k:Bool):Prop:=
 match x with
 | .non=>k=false
 | .bl b=>k=b
 | .int i=>k=(i != 0)
 | .str y=>y.length<=sizeLine/\k=((y.length:Int) != 0)
 | .byt y=>y.size<=sizeLine/\k=((y.size:Int) != 0)
 | .ref p=>(∃xs,SqL K H p xs/\k = !xs.isEmpty)\/(∃xs,SqT K H p xs/\k = !xs.isEmpty)\/∃kvs,H p=some (.dK kvs)/\k = !kvs.isEmpty
 | _=>False
theorem Xw{κ:Type}{kvs:List (κ×V)}{vs:List (κ×Value)}(r:KV kvs vs):(!vs.isEmpty) = !kvs.isEmpty:=by
 cases r<;>rfl
theorem wl{xs:List V}{z:List Value}(r:Vals xs z):(!z.toArray.isEmpty) = !xs.isEmpty:=by
 cases r<;>simp
theorem we:(sizeLine:Nat)<2 ^ 63:=by rw [sizeLine_eq];decide
theorem zbX:zgg X (λx H Q=>∃k,zfQ X.K x H k/\Q k H):=by
 intro pins s σ H x v Q I J h;obtain⟨k,e,q⟩:=h;have hl:=we;have hs:sizeLine=16777216:=sizeLine_eq;cases x with
 | non=>
  cases J;have z:k=false:=e;subst z;exact truthy_none ⟨H,I,q⟩
 | bl b=>
  cases J;have z:k=b:=e;subst z;exact zh4 ⟨H,I,q⟩
 | int i=>
  obtain⟨t,rfl⟩:=J;have z:k=(i != 0):=e;subst z;exact PySem.P.truthy_int ⟨H,I,q⟩
 | str y=>
  obtain⟨t,rfl⟩:=J;obtain⟨U,z⟩:y.length<=sizeLine/\k=((y.length:Int) != 0):=e;subst z;exact PySem.P.truthy_str ⋯ ⟨H,I.tok _,q⟩
 | byt y=>
  obtain⟨t,rfl⟩:=J;obtain⟨U,z⟩:y.size<=sizeLine/\k=((y.size:Int) != 0):=e;subst z;exact PySem.W.truthy_bytes ⋯ ⟨H,I.tok _,q⟩
 | ref p=>
  cases J;have z:(∃xs,SqL X.K H p xs/\k = !xs.isEmpty)\/(∃xs,SqT X.K H p xs/\k = !xs.isEmpty)\/∃kvs,H p=some (.dK kvs)/\k = !kvs.isEmpty:=e;rcases z with⟨xs,hx,z⟩ | ⟨xs,hx,z⟩ | ⟨kvs,hx,z⟩
  ·subst z
   obtain⟨Y,r,pl,O⟩:=I.list hx;have S:=r.length;exact wpAny_truthy_list pl.isList (by simp only [zgs];omega) ⟨H,I.tok _,by rw [wl r];exact q⟩
  ·subst z
   obtain⟨Y,r,pl,O⟩:=I.tuple hx;have S:=r.length;exact truthy_tuple pl (by simp only [zgs];omega) ⟨H,I.tok _,by rw [wl r];exact q⟩
  ·subst z
   obtain⟨O,Z,vs,r,m⟩:kvs.length<=sizeLine/\(p==sysModules)=false/\∃vs,KV kvs vs/\s.heap.DictOf (JF X.prog X.w) p vs:=I.hok p _ hx;have S:kvs.length=vs.length:=Paired.length r;exact wpAny_truthy_dict Z m ⋯ ⟨H,I.tok _,by rw [Xw r];exact q⟩
 | _=>exact(show False from e).elim
theorem Vw(ha:PE X a ta)(J : ∀z,isTrue a X.env z=(do let v <- z;standAt a.pos;holding [v] (truthy v))) :
 PT X a (λσ H Q=>ta σ H λx H'=>∃k,zfQ X.K x H' k/\Q k H'):=by
 intro pins s σ H Q I h;exact isTrue_plain (thn (ha pins s σ H _ I h) λv s1 ⟨x,H1,O,S,U⟩=>zbX pins s1 σ H1 x v Q O S U) (J _)
theorem Xl:OpR X (binaryOp .Add) (λx y H Q=>∃i j,x = .str i/\y = .str j/\i.length+j.length<=sizeLine/\Q (.str (i++j)) H):=by
 intro pins s σ H x y v u Q I z J h;obtain⟨i,j,rfl,rfl,O,q⟩:=h;obtain⟨t,rfl⟩:=z;obtain⟨t',rfl⟩:=J;exact add_str (λt' tk=>⟨.str (i++j),H,I.tok _,⟨_,rfl⟩,q⟩) O
theorem ym{x:V}{us:List Value}(r:Vals [x] us) : ∃u,us=[u]/\RelV x u:=by
 cases r with
 | cons z r2=>cases r2;exact⟨_,rfl,z⟩
theorem zbO{x y:V}{us:List Value}(r:Vals [x,y] us) : ∃u w',us=[u,w']/\RelV x u/\RelV y w':=by
 cases r with
 | cons z r2=>
  cases r2 with
  | cons I J=>cases J;exact⟨_,_,rfl,z,I⟩
theorem YF(J:X.calm=true):vD X (.builtin "min") (λxs H Q=>∃i j,xs=[.int i,.int j]/\Q (.int (if j<i then j else i)) H):=by
 intro pins s σ H xs us Q I r h;obtain⟨i,j,rfl,q⟩:=h;obtain⟨u,w',rfl,⟨t,rfl⟩,⟨t',rfl⟩⟩:=zbO r;refine min_two_ints (I.ok.hd J) λh' tk k=>⟨_,H,I.kept k,?_,q⟩;by_cases z:j<i
 ·rw [if_pos z,if_pos z];exact⟨_,rfl⟩
 ·rw [if_neg z,if_neg z];exact⟨_,rfl⟩
theorem YG:vD X (.type "int") (λxs H Q=>(∃i,xs=[.int i]/\Q (.int i) H)\/∃k,xs=[.bl k]/\Q (.int (if k then 1 else 0)) H):=by
 intro pins s σ H xs us Q I r h;rcases h with⟨i,rfl,q⟩ | ⟨k,rfl,q⟩
 ·obtain⟨u,rfl,t,rfl⟩:=ym r
  exact call_int_int ⟨.int i,H,I,⟨_,rfl⟩,q⟩
 ·obtain⟨u,rfl,z⟩:=ym r
  cases z;exact call_int_bool ⟨.int (if k then 1 else 0),H,I.tok _,⟨_,rfl⟩,q⟩
end
structure ObjM(h:Heap)(x dx C:Addr)(mA:Str->Option Value):Prop where
 obj:h.get? x=some (PySem.W.instObj C dx)
 ns:h.Ns1 dx mA
 ne:dx≠x
theorem KN{h:Heap}{dx:Addr}{mA:Str->Option Value}(n:h.Ns1 dx mA) : ∃od,h.get? dx=some od/\∀name,zi8 name od=some (mA name):=by
 obtain⟨o,es,ep,I,hd,J,_,hm⟩:=n;refine⟨o,I,λname=>?_⟩;have e:=hm name;unfold nsFind findBy at e;rw [<- Array.find?_toList]at e;unfold zi8;rw [hd];dsimp only;split
 ·rename_i y q
  rw [q]at e;exact congrArg some e
 ·rename_i q
  rw [q]at e;have a:es.toList.any (·.refKey)=false:=by
   rw [List.any_eq_false];intro y O;obtain⟨z,t,S⟩:=J y (Array.mem_toList_iff.mp O);simp [DictEntry.refKey,S]
  have a' : ¬es.toList.any (·.refKey)=true:=by rw [a];exact zgB
  rw [if_neg a'];exact congrArg some e
theorem ObjM.look{h:Heap}{x dx C:Addr}{mA:Str->Option Value}(I:ObjM h x dx C mA) : ∃od,PySem.W.InstAt h x (PySem.W.instObj C dx) C (some od)/\∀name,zi8 name od=some (mA name):=
 let ⟨od,z,J⟩:=KN I.ns
 ⟨od,⟨I.obj,rfl,rfl,z⟩,J⟩
section
variable{prog:Program}{w:World}{A:Around}{E:Value->Shared->Prop}{s:Shared}{K:PySem.W.Frag}{x dx C f:Addr}{mA:Str->Option Value}{name:Str}{v:Value}
theorem zbd{z:Bool}{Q:Value->Shared->Prop}(X:K.In s.heap)(I:ObjM s.heap x dx C mA)(O:PySem.W.plainGet K C name=true)(S:PySem.W.hasDictIn K C=true)
 (ha:PySem.W.findIn K (.ref C) name=some none) (U:mA name=some v) (Y:PySem.W.handedIn v=true) (h:Q v {s with toks:=s.toks+1}) :
 wpAny (model prog w) A (getAttr (.ref x) name z) Q E s:=by
 obtain⟨od,J,Z⟩:=I.look;exact PySem.W.get_value X J (zje O).1 (PySem.W.findObj_own S ha rfl (by rw [Z,U])) Y h
theorem V6{pl:Sem Bool}{Q:Value×List Value->Shared->Prop}(X:K.In s.heap)(I:ObjM s.heap x dx C mA)(z:PySem.W.plainGet K C name=true)
 (O:PySem.W.findIn K (.ref C) name=some (some (.ref f))) (S:PySem.W.isFn K (.ref f)=true) (U:mA name=none) (h:Q (.ref f,[.ref x]) s) :
 wpAny (model prog w) A (getMethod (.ref x) name pl) Q E s:=by
 obtain⟨od,J,Y⟩:=I.look;exact PySem.W.method_fn X J (zje z).1 (zje z).2 O (beq_iff_eq.mp S) (by show(zi8 name od).map (·.isSome)=some false;rw [Y,U];rfl) h
theorem zax{ns:List Str}{Q:Unit->Shared->Prop}(X:K.In s.heap)(I:ObjM s.heap x dx C mA)
 (S:PySem.W.findIn K (.ref C) "__setattr__" = some (some (.builtin "object.__setattr__"))) (U:PySem.W.plainOver K C=true) (Y:PySem.W.takerIn K C name=some none) (Z:PySem.W.hasDictIn K C=true)
 (hw:zjA mA ns) (hsz:ns.length<=sizeLine)
 (h : ∀h',ObjM h' x dx C (λy=>if y=name then some v else mA y)->zh2 dx s.heap h'->Q () {s with heap:=h',toks:=s.toks+2}) :
 wpAny (model prog w) A (setAttr (.ref x) name v) Q E s:=by
 obtain⟨od,J,hl⟩:=I.look;refine PySem.W.set_plain X J S (PySem.W.osa_open (s:={s with toks:=s.toks+1}) (r:=none) X J U Y λb=>?_);obtain⟨cd,hc,a1⟩:=PySem.W.any_some Z;have hx:s.heap.get? x=some ⟨.ref C,some dx,.plain,#[]⟩:=I.obj;refine zgi (zgo (zgi (zgi (wpAny_loadPart hx (zgi (PySem.W.Looks.here (s:={s with toks:=s.toks+1}) (PySem.W.looks_clsIn X hc) ?_))))));rw [a1];refine zgo (a:=some dx) (zgi (zgo (zgi ?_)));refine wpAny_nsSet1 (s:={s with toks:=s.toks+1}) I.ns λh' z O=>?_;obtain⟨oD,a7,a8,a2,a3,a4⟩:=z.count (zjA.cons name v hw);refine zgi (wpAny_lookBehind a2 (by rw [a3];exact pastItsLine_dict (zhh a4 (by rw [zg2];omega))) ?_);exact zgo (h _ ⟨(O.2 _ (zht I.ne)).trans I.obj,z,I.ne⟩ O)
theorem VS{R:Result->Shared->Prop}{vs:List Value}{z:List (Str×Value)}(X:K.In s.heap)(hm:PySem.W.makesIn K C=true)
 (hi:PySem.W.findIn K (.ref C) "__init__" = some (some (.ref f))) (I:ziL K (.ref f)=some (.type "function"))
 (h:codeAny (model prog w) (A.under (.builtin "type.__call__" ⟨.ref C::vs,z⟩)) (.call (.ref f) ⟨.ref (s.heap.objs.size+1)::vs,z⟩) (PySem.W.InitBack (s.heap.objs.size+1) R)
   {s with heap:=(s.heap.push zhC).push (PySem.W.instObj C s.heap.objs.size)}) :
 codeAny (model prog w) A (.call (.ref C) ⟨vs,z⟩) R s:=by
 obtain⟨J,g,d,t,os⟩:=s;exact PySem.W.make_core (PySem.W.makes_of X hm) (PySem.W.looks_findIn X hi) (λself=>PySem.W.bind_fn X self I) (.inl rfl) h
end
def wQ(f:Str)(v:V):List (Str×V)->List (Str×V)
 | []=>[(f,v)]
 | (g,x)::r=>if g=f then (g,v)::r else (g,x)::wQ f v r
theorem jS(f g:Str)(v:V) : ∀fs:List (Str×V),(wQ f v fs).lookup g=if g=f then some v else fs.lookup g
 | []=>by
  show zim g [(f,v)]=_;by_cases h:g=f
  ·have z:(g==f)=true:=beq_iff_eq.mpr h
   simp only [zim,z,if_pos h]
  ·have z:(g==f)=false:=beq_eq_false_iff_ne.mpr h
   simp only [zim,z,if_neg h]
 | (k,x)::r=>by
  have J:=jS f g v r;rw [show wQ f v ((k,x)::r)=(if k=f then (k,v)::r else (k,x)::wQ f v r)from rfl];by_cases I:k=f
  ·rw [if_pos I]
   by_cases h:g=k
   ·have z:(g==k)=true:=beq_iff_eq.mpr h
    simp only [zim,z,if_pos (h.trans I)]
   ·have z:(g==k)=false:=beq_eq_false_iff_ne.mpr h
    simp only [zim,z,if_neg (λe:g=f=>h (e.trans I.symm))]
  ·rw [if_neg I]
   by_cases h:g=k
   ·have z:(g==k)=true:=beq_iff_eq.mpr h
    simp only [zim,z,if_neg (λe:g=f=>I (h.symm.trans e))]
   ·have z:(g==k)=false:=beq_eq_false_iff_ne.mpr h
    simp only [zim,z];exact J
theorem ve(f:Str)(v:V) : ∀fs:List (Str×V),f∈(wQ f v fs).map (·.1)/\∀g,g∈fs.map (·.1)->g∈(wQ f v fs).map (·.1)
 | []=>⟨by simp [wQ],λg h=>by simp at h⟩
 | (k,x)::r=>by
  obtain⟨I,J⟩:=ve f v r;rw [show wQ f v ((k,x)::r)=(if k=f then (k,v)::r else (k,x)::wQ f v r)from rfl];by_cases z:k=f
  ·rw [if_pos z]
   subst z;exact⟨by simp,λg h=>by simpa using h⟩
  ·rw [if_neg z]
   refine⟨?_,λg h=>?_⟩
   ·rw [zgO]
    exact zgJ _ I
   ·rw [zgO]at h ⊢
    rcases zgz.mp h with e | e
    ·exact zgz.mpr (.inl e)
    ·exact zgJ _ (J g e)
theorem vd(f:Str)(v:V) : ∀fs:List (Str×V),(wQ f v fs).length<=fs.length+1
 | []=>by simp [wQ]
 | (k,x)::r=>by
  have I:=vd f v r;rw [show wQ f v ((k,x)::r)=(if k=f then (k,v)::r else (k,x)::wQ f v r)from rfl];by_cases z:k=f
  ·rw [if_pos z,zg2,zg2];omega
  ·rw [if_neg z,zg2,zg2];omega
theorem RelO.some_of{v:V}{o:Option Value}(r:RelO (some v) o) : ∃u,o=some u/\RelV v u:=by
 cases o with
 | none=>exact(show False from r).elim
 | some u=>exact⟨u,rfl,r⟩
theorem RelO.none_of{o:Option Value}(r:RelO none o):o=none:=by
 cases o with
 | none=>rfl
 | some u=>exact(show False from r).elim
theorem Yb{v:V}{u:Value}(r:RelV v u):PySem.W.handedIn u=true:=by
 cases v with
 | non=>cases (show u=zhI from r);rfl
 | bl b=>cases (show u=zjx b from r);rfl
 | int i=>obtain⟨t,e⟩:=(show ∃t,u=Value.int i t from r);cases e;rfl
 | str x=>obtain⟨t,e⟩:=(show ∃t,u=Value.str x t from r);cases e;rfl
 | byt b=>obtain⟨t,e⟩:=(show ∃t,u=Value.bytes b t from r);cases e;rfl
 | flt b=>obtain⟨t,e⟩:=(show ∃t,u=Value.float b t from r);cases e;rfl
 | ref a=>cases (show u=zgK a from r);rfl
 | ty n=>cases (show u=ziF n from r);rfl
section
variable{P:Program}{w:World}{H H':Hp}{h h':Heap}{a C dx:Addr}{fs fs':List (Str×V)}
theorem wY(hok:HOk P w H h)(e:H a=some (.ins C dx fs)) : ∃mA,ObjM h a dx C mA/\(∀f,RelO (fs.lookup f) (mA f))/\zjA mA (fs.map (·.1))/\fs.length<=1000/\H dx=some (.own a):=by
 obtain⟨d,z,ne,I,mA,n,r,q⟩:=(show ObjOk P w H h a (.ins C dx fs)from hok a _ e);exact⟨mA,⟨I,n,ne⟩,r,q,z,d⟩
end
structure Cls(K:PySem.W.Frag)(C:Addr):Prop where
 pg:PySem.W.plainGet K C Str.empty=true
 hd:PySem.W.hasDictIn K C=true
 po:PySem.W.plainOver K C=true
 sa:PySem.W.findIn K (.ref C) "__setattr__" = some (some (.builtin "object.__setattr__"))
theorem Cls.get{K:PySem.W.Frag}{C:Addr}(c:Cls K C)(f:Str):PySem.W.plainGet K C f=true:=c.pg
def NoAttr(K:PySem.W.Frag)(C:Addr)(f:Str):Prop:=PySem.W.findIn K (.ref C) f=some none
theorem NoAttr.taker{K:PySem.W.Frag}{C:Addr}{f:Str}(n:NoAttr K C f):PySem.W.takerIn K C f=some none:=by
 unfold PySem.W.takerIn;rw [show PySem.W.findIn K (.ref C) f=some none from n];rfl
structure Meth(K:PySem.W.Frag)(C:Addr)(m:Str)(f:Addr):Prop where
 at_:PySem.W.findIn K (.ref C) m=some (some (.ref f))
 fn:PySem.W.isFn K (.ref f)=true
 kp:PySem.W.keepIn K (.ref f)=true
section
variable{X:Cx}{pins:List (Addr×Obj)}{σ:St}{H:Hp}{s:Shared}{a C dx:Addr}{fs:List (Str×V)}{f:Str}{v:V}{A:Around}{E:Value->Shared->Prop}
theorem XC{b:Bool}{Q:Value->Shared->Prop}(I:Inv X pins σ H s)(e:H a=some (.ins C dx fs))(c:Cls X.K C)(n:NoAttr X.K C f)(l:fs.lookup f=some v)
 (h : ∀u s',Inv X pins σ H s'->RelV v u->Q u s'):wpAny (model X.prog X.w) A (getAttr (.ref a) f b) Q E s:=by
 obtain⟨mA,O,r,_,_,_⟩:=wY I.hok e;obtain⟨u,J,z⟩:=RelO.some_of (v:=v) (o:=mA f) (by rw [<- l];exact r f);exact zbd I.kIn O (c.get f) c.hd n J (Yb z) (h u _ (I.tok _) z)
theorem XB{m:Str}{g:Addr}{pl:Sem Bool}{Q:Value×List Value->Shared->Prop}(I:Inv X pins σ H s)(e:H a=some (.ins C dx fs))(c:Cls X.K C)(k:Meth X.K C m g)(l:fs.lookup m=none)
 (h:Q (.ref g,[.ref a]) s):wpAny (model X.prog X.w) A (getMethod (.ref a) m pl) Q E s:=by
 obtain⟨mA,O,r,_,_,_⟩:=wY I.hok e;have hn:mA m=none:=RelO.none_of (by rw [<- l];exact r m);exact V6 I.kIn O (c.get m) k.at_ k.fn hn h
theorem Xa{y:V}{u:Value}{Q:Unit->Shared->Prop}(I:Inv X pins σ H s)(e:H a=some (.ins C dx fs))(c:Cls X.K C)(n:NoAttr X.K C f)(hl:fs.length<1000)(U:RelV y u)
 (h : ∀s',Inv X pins σ (upd H a (.ins C dx (wQ f y fs))) s'->Q () s'):wpAny (model X.prog X.w) A (setAttr (.ref a) f u) Q E s:=by
 obtain⟨mA,O,r,wi,_,S⟩:=wY I.hok e;have Y:(fs.map (·.1)).length<=sizeLine:=by rw [zgH,sizeLine_eq];omega
 refine zax I.kIn O c.sa c.po n.taker c.hd wi Y λh' J Z=>h _ ?_;have hd : ∃o,h'.get? dx=some o:=let ⟨o,_,_,e',_⟩:=J.ns;⟨o,e'⟩;refine I.write (x:=a) (e:=dx) (by rw [e];exact zh8) (.inr S) (λb q hb z=>(Z.2 b hb).trans z) hd ?_;refine⟨by rw [zJ O.ne];exact S,?_,O.ne,J.obj,_,J.ns,λg=>?_,λg hg=>?_⟩
 ·have:=vd f y fs;omega
 ·show RelO ((wQ f y fs).lookup g) (if g=f then some u else mA g)
  rw [jS];by_cases q:g=f
  ·rw [if_pos q,if_pos q];exact U
  ·rw [if_neg q,if_neg q];exact r g
 ·by_cases q:g=f
  ·rw [q];exact(ve f y fs).1
  ·refine(ve f y fs).2 g (wi g λz=>hg ?_)
   show(if g=f then some u else mA g)=none;rw [if_neg q];exact z
theorem Inv.made(I:Inv X pins σ H s):Inv X pins σ (upd (upd H s.heap.objs.size (.own (s.heap.objs.size+1))) (s.heap.objs.size+1) (.ins C s.heap.objs.size []))
 {s with heap:=(s.heap.push zhC).push (PySem.W.instObj C s.heap.objs.size)}:=by
 have e1:(s.heap.push zhC).get? s.heap.objs.size=some zhC:=zgu s.heap rfl;have z:((s.heap.push zhC).push (PySem.W.instObj C s.heap.objs.size)).get? (s.heap.objs.size+1)=some (PySem.W.instObj C s.heap.objs.size):=by
  have:=zgu (s.heap.push zhC) (o:=PySem.W.instObj C s.heap.objs.size) rfl
  rwa [zgW]at this
 have J:(s.heap.push zhC).Ns s.heap.objs.size (λ_=>none):=⟨zhC,#[],_,e1,rfl,(λe O=>absurd O ⋯),λ_=>rfl⟩;have S:=I.laid (a:=s.heap.objs.size) (o:= .own (s.heap.objs.size+1)) (h':=s.heap.push zhC) (t':=s.toks) (λb u q=>zgk _ q) (zgp _) ⟨_,e1⟩;refine S.laid (a:=s.heap.objs.size+1) (o:= .ins C s.heap.objs.size []) (t':=s.toks) (λb u q=>zgk _ q) (Nat.le_of_eq (zgW _ _)) ?_;have ne:s.heap.objs.size≠s.heap.objs.size+1:=zgU (zhx _);refine⟨by rw [zJ ne,zH],zh5 _,ne,z,λ_=>none,(Heap.Ns1.of_empty J).at λo q=>zgk _ q,λ_=>zh8,λy U=>absurd rfl U⟩
theorem zbA{prog:Program}{w:World}{env:Env}{e:Expr}{f:Str}{pos:Pos}{s:Shared}{Q:Value->Shared->Prop}(z:attributeBase e f env (eval e env)=eval e env)
 (h:wpAny (model prog w) A (eval e env) (λo I=>wpAny (model prog w) A (getAttr o f true) Q E I) E s):wpAny (model prog w) A (eval (.Attribute e f pos) env) Q E s:=
 Attribute_any_ h (by rw [arm_eval_Attribute,z])
end
def zej(K:PySem.W.Frag)(ta:TE)(f:Str):TE:=λσ H Q=>ta σ H λx H1=>∃a C dx fs v,x = .ref a/\H1 a=some (.ins C dx fs)/\Cls K C/\NoAttr K C f/\fs.lookup f=some v/\Q v H1
def zep(K:PySem.W.Frag)(ta tv:TE)(f:Str):TS:=λD σ H=>tv σ H λy H1=>ta σ H1 λx H2=>∃a C dx fs,x = .ref a/\H2 a=some (.ins C dx fs)/\Cls K C/\NoAttr K C f/\fs.length<1000/\
 D.nx σ (upd H2 a (.ins C dx (wQ f y fs)))
section
variable{X:Cx}{o e value:Expr}{f:Str}{pos pos' tpos:Pos}{ta tv:TE}
theorem Qr(z:PE X e ta)(J:attributeBase e f X.env (eval e X.env)=eval e X.env):PE X (.Attribute e f pos) (zej X.K ta f):=by
 intro pins s σ H Q I h;refine zbA J (thn (z pins s σ H _ I h) λu s1 O=>?_);obtain⟨x,H1,S,U,a,C,dx,fs,v,ex,Y,c,n,l,q⟩:=O;subst ex;obtain rfl:u=zgK a:=U;exact XC S Y c n l λu' s2 Z ru=>⟨v,H1,Z,ru,q⟩
theorem WQ(ha:PE X o ta)(z:PE X value tv)(J:swapsWith value (some (.Attribute o f pos')) pos.line X.env=pure false):PS X (.Assign [.Attribute o f pos'] value pos) (zep X.K ta tv f):=by
 intro pins s σ H D I h;refine plainObj_wpAny_Assign_Attribute (thn (z pins s σ H _ I h) λu s1 ⟨y,H1,O,S,q⟩=>thn (ha pins s1 σ H1 _ O q) λU s2 ⟨x,H2,Y,Z,a,C,dx,fs,ex,ea,c,n,l,q2⟩=>?_) J;subst ex;obtain rfl:U=zgK a:=Z;exact Xa Y ea c n l S λs3 I3=>⟨σ,_,I3,q2⟩
end
section
variable{X:Cx}{pins:List (Addr×Obj)}{σ:St}{H:Hp}{s:Shared}{A:Around}{E:Value->Shared->Prop}{Q:Value->Shared->Prop}{c:Value}{b:Bool}
inductive TyOf(K:PySem.W.Frag)(H:Hp):V->Value->Prop where
 | non:TyOf K H .non (.type "NoneType")
 | bl (x:Bool):TyOf K H (.bl x) (.type "bool")
 | int (i:Int):TyOf K H (.int i) (.type "int")
 | str (x:Str):TyOf K H (.str x) (.type "str")
 | flt (x:UInt64):TyOf K H (.flt x) (.type "float")
 | lst {a:Addr} {xs:List V} (e:H a=some (.lst xs)):TyOf K H (.ref a) (.type "list")
 | frz {a:Addr} {o:Obj} {xs:List V} (e:H a=some (.frz o (.lst xs))):TyOf K H (.ref a) (.type "list")
 | tup {a:Addr} {xs:List V} (e:H a=some (.tup xs)):TyOf K H (.ref a) (.type "tuple")
 | dK {a:Addr} {kvs:List (Key×V)} (e:H a=some (.dK kvs)):TyOf K H (.ref a) (.type "dict")
 | dT {a:Addr} {kvs:List (List Key×V)} (e:H a=some (.dT kvs)):TyOf K H (.ref a) (.type "dict")
 | ins {a C dx:Addr} {fs:List (Str×V)} (e:H a=some (.ins C dx fs)) (cl:Cls K C) (ha:PySem.W.findIn K (.ref C) "__class__" = some (some (.builtin "object.__class__")))
  (hn:PySem.W.specialIn K (.builtin "object.__class__") "__get__" = some (some (.builtin "getset_descriptor.__get__"))) (htk:PySem.W.takesIn K (.builtin "object.__class__")=some true)
  (hm:PySem.W.mroIn K C (.type "object")=some true):TyOf K H (.ref a) (.ref C)
theorem K4{x:V}{u t:Value}(I:Inv X pins σ H s)(S:RelV x u)(ty:TyOf X.K H x t)(e:zhK X.K t c=some b)(h : ∀tk,Q (.bool b) {s with toks:=tk}) :
 wpAny (model X.prog X.w) A (call (.builtin "isinstance") [u,c]) Q E s:=by
 cases ty with
 | non=>cases (show u=zhI from S);exact zgR PySem.W.kitx_none I.kIn zh8 e (λz=>nomatch z) h
 | bl y=>cases (show u=zjx y from S);exact zgR PySem.W.kitx_bool I.kIn zh8 e (λz=>nomatch z) h
 | int i=>obtain⟨t,q⟩:=(show ∃t,u=Value.int i t from S);cases q;exact zgR PySem.W.kitx_int I.kIn zh8 e (λz=>nomatch z) h
 | str y=>obtain⟨t,q⟩:=(show ∃t,u=Value.str y t from S);cases q;exact zgR PySem.W.kitx_str I.kIn zh8 e (λz=>nomatch z) h
 | flt y=>obtain⟨t,q⟩:=(show ∃t,u=Value.float y t from S);cases q;exact zgR PySem.W.kitx_float I.kIn zh8 e (λz=>nomatch z) h
 | @lst a xs U=>
  cases (show u=zgK a from S);obtain⟨_,_,n,_,h1⟩:=(show ObjOk X.prog X.w H s.heap a (.lst xs)from I.hok a _ U);exact zgR zjr I.kIn ⟨_,h1,rfl⟩ e (λz=>nomatch z) h
 | @frz a Y xs U=>
  cases (show u=zgK a from S);obtain⟨_,_,_,n,_,h1⟩:=(show ObjOk X.prog X.w H s.heap a (.frz Y (.lst xs))from I.hok a _ U);exact zgR zjr I.kIn ⟨_,h1,rfl⟩ e (λz=>nomatch z) h
 | @tup a xs U=>
  cases (show u=zgK a from S);obtain⟨_,_,_,p⟩:=(show ObjOk X.prog X.w H s.heap a (.tup xs)from I.hok a _ U);obtain⟨o,h1,h2,_⟩:=p;exact zgR PySem.W.kitx_tuple I.kIn ⟨o,h1,(Prod.mk.inj h2).1⟩ e (λz=>nomatch z) h
 | @dK a kvs U=>
  cases (show u=zgK a from S);obtain⟨_,_,vs,_,p⟩:=(show ObjOk X.prog X.w H s.heap a (.dK kvs)from I.hok a _ U);obtain⟨o,es,ep,h1,h2,_⟩:=p;exact zgR zjs I.kIn ⟨o,h1,h2.1⟩ e (λz=>nomatch z) h
 | @dT a kvs U=>
  cases (show u=zgK a from S);obtain⟨_,_,xs,_,o,es,ep,h1,h2,_⟩:=(show ObjOk X.prog X.w H s.heap a (.dT kvs)from I.hok a _ U);exact zgR zjs I.kIn ⟨o,h1,h2.1⟩ e (λz=>nomatch z) h
 | @ins a C dx fs U cl ha hn htk hm=>
  cases (show u=zgK a from S);obtain⟨mA,O,_⟩:=wY I.hok U;obtain⟨od,J,_⟩:=O.look;exact zgR (PySem.W.kitx_own (cl.get _) cl.hd ha hn htk hm) I.kIn J e (λz=>nomatch z) h
end
structure Room(k:Nat)(A:Around):Prop where
 hd:A.handled=none
 dp:A.depth+3*k+5<recursionLimit
 un:A.units+16*k+200<cLine
theorem Room.mono{j k:Nat}{A:Around}(r:Room k A)(h:j<=k):Room j A:=⟨r.hd,by have:=r.dp;omega,by have:=r.un;omega⟩
theorem Room.deeper{k:Nat}{A:Around}(r:Room (k+1) A)(env:Env):Room k (A.deeper env):=
 ⟨r.hd,by have:=r.dp;show A.depth+1+3*k+5<_;omega,by have:=r.un;show A.units+3+16*k+200<_;omega⟩
theorem Xq{A:Around}{C:Addr}{us:List Value}{z:List (Str×Value)}:(A.under (.builtin "type.__call__" ⟨.ref C::us,z⟩)).depth=A.depth+1:=by
 first | rfl | simp [Around.under,Code.weight,Code.isCreation,Code.isGuard,Code.isCaller,Code.frames,Code.isFrame,guardIds]
theorem Xp{A:Around}{C:Addr}{us:List Value}{z:List (Str×Value)}:(A.under (.builtin "type.__call__" ⟨.ref C::us,z⟩)).units=A.units+1:=by
 first | rfl | simp [Around.under,Code.cUnits,Code.frames,Code.isFrame]
theorem Room.make{k:Nat}{A:Around}(r:Room (k+1) A)(C:Addr)(us:List Value)(z:List (Str×Value)):Room k (A.under (.builtin "type.__call__" ⟨.ref C::us,z⟩)):=
 ⟨r.hd,by have:=r.dp;rw [Xq];omega,by have:=r.un;rw [Xp];omega⟩
theorem Room.depth{k:Nat}{A:Around}(r:Room k A):A.depth<recursionLimit:=by have:=r.dp;omega
def zbG:TA:=λ_ H Q=>Q [] H
def yK(ta:TE)(z:TA):TA:=λσ H Q=>ta σ H λx H1=>z σ H1 λxs H2=>Q (x::xs) H2
section
variable{X:Cx}{e:Expr}{es:List Expr}{te:TE}{t:TA}{pos:Pos}
theorem jF:PA X [] zbG:=λ_ _ _ _ H Q I h=>ziX ⟨[],H,I,.nil,h⟩
theorem zT(ha:PE X e te)(z:PA X es t)(J:starEach (e::es) X.env=(false,eval e X.env)::starEach es X.env:=by rfl):PA X (e::es) (yK te t):=by
 intro pos pins s σ H Q I h;rw [J];show wpAny _ _ (spliced ((false,eval e X.env)::backTo pos (starEach es X.env))) _ _ s;refine zh9 (thn (ha pins s σ H _ I h) λu s1 O=>?_);obtain⟨x,H1,S,U,Y⟩:=O;exact thn (z pos pins s1 σ H1 _ S Y) λus s2 ⟨xs,H2,Z,r2,q2⟩=>⟨x::xs,H2,Z,.cons U r2,q2⟩
def zfV(t:TA):TE:=λσ H Q=>t σ H λxs H1=>xs.length<=sizeLine/\∀p,H1 p=none->Q (.ref p) (upd H1 p (.tup xs))
def zfY(t:TA):TE:=λσ H Q=>t σ H λxs H1=>xs.length<=sizeLine/\∀p,H1 p=none->Q (.ref p) (upd H1 p (.lst xs))
theorem zcB{x1}(h:PA X es t):PE X (.Tuple es x1 pos) (zfV t):=by
 intro pins s σ H Q I O;refine wpAny_Tuple_spliced (thn (h pos pins s σ H _ I O) λus s1 ⟨xs,H1,J,r,z,q⟩=>⟨by rw [<- r.length];exact z,?_⟩);have S:H1 s1.heap.objs.size=none:=J.hok.fresh (zgp _);refine⟨.ref s1.heap.objs.size,upd H1 s1.heap.objs.size (.tup xs),J.laid (t':=s1.toks) (λb u e=>zgk _ e) (zgp _) ?_,rfl,q _ S⟩;exact⟨z,us,r,⟨_,zgu _ rfl,rfl,_,rfl⟩⟩
theorem zcE(h:PA X es t):PE X (.List es pos) (zfY t):=by
 intro pins s σ H Q I O;refine wpAny_List_spliced (thn (h pos pins s σ H _ I O) λus s1 ⟨xs,H1,J,r,z,q⟩=>⟨by rw [<- r.length];exact z,?_⟩);have S:H1 s1.heap.objs.size=none:=J.hok.fresh (zgp _);refine⟨.ref s1.heap.objs.size,upd H1 s1.heap.objs.size (.lst xs),J.laid (t':=s1.toks) (λb u e=>zgk _ e) (zgp _) ?_,rfl,q _ S⟩;exact⟨z,us,0,r,zgu _ rfl⟩
end
abbrev Sp:=List V->Hp->VK->XK->Prop
abbrev CXT:=List Env->Hp->Shared->XK->Value->Shared->Prop
structure Env0(P:Program)(w:World)(K:PySem.W.Frag)(mg:Str->Option Value)(base:Heap)(A:Around)(outer:List Env)(s:Shared)(H:Hp):Prop where
 frames:A.frames=some outer
 mod:Mod K mg base
 bs : ∀b o,base.get? b=some o->s.heap.get? b=some o/\H b=none
 bsz:base.objs.size<=s.heap.objs.size
 funs:s.heap.FunFrames base outer
 frf : ∀b∈frs outer,H b=none
 hok:HOk P w H s.heap
 bare:AllBare s.gens
def CE(outer:List Env)(P:Program)(w:World)(H:Hp)(s:Shared)(Q:VK)(u:Value)(s':Shared):Prop:=
 ∃v H',s'.os=s.os/\AllBare s'.gens/\Un (frs outer) [] H H' s.heap s'.heap/\HOk P w H' s'.heap/\RelV v u/\Q v H'
def CR(CX:CXT)(outer:List Env)(P:Program)(w:World)(H:Hp)(s:Shared)(Q:VK)(E:XK)(r:Result)(s':Shared):Prop:=
 match r with
 | .ok (.ret u)=>CE outer P w H s Q u s'
 | .ok _=>False
 | .error e=>CX outer H s E e s'
structure FnOk(P:Program)(w:World)(K:PySem.W.Frag)(mg:Str->Option Value)(base:Heap)(CX:CXT)(k:Nat)(f:Addr)(fd:FuncData)(ps:List Str)(sp:Sp):Prop where
 len : ∀vs H Q E,sp vs H Q E->vs.length=ps.length
 run : ∀(A:Around) (outer:List Env) (s:Shared) (H:Hp) (args:Args) (us:List Value) (vs:List V) (Q:VK) (E:XK),Room k A->Env0 P w K mg base A outer s H->BindsTo s fd args (ps.zip us)->Vals vs us->sp vs H Q E->
  codeAny (model P w) A (.call (.ref f) args) (CR CX outer P w H s Q E) s
theorem Env0.make{P:Program}{w:World}{K:PySem.W.Frag}{mg:Str->Option Value}{base:Heap}{A:Around}{outer:List Env}{s:Shared}{H:Hp}(e:Env0 P w K mg base A outer s H)(C:Addr)(us:List Value)(z:List (Str×Value)) :
 Env0 P w K mg base (A.under (.builtin "type.__call__" ⟨.ref C::us,z⟩)) outer s H:=⟨by first | exact e.frames | (simpa [Around.under,Code.envs,Code.isFrame,pushEnvs]using e.frames),e.mod,e.bs,e.bsz,e.funs,e.frf,e.hok,e.bare⟩
section
variable{X:Cx}{pins:List (Addr×Obj)}{σ:St}{H:Hp}{s s':Shared}
theorem Inv.env0(I:Inv X pins σ H s):Env0 X.prog X.w X.K X.mg X.base X.A X.stack s H:=
 ⟨I.ok.frames,I.ok.mod,I.bs,zhh I.ok.bsz I.sz,I.stack,I.stkFree,I.hok,I.bare⟩
theorem Inv.after{Q:VK}{u:Value}(I:Inv X pins σ H s)(h:CE X.stack X.prog X.w H s Q u s'):EP X pins σ Q u s':=by
 obtain⟨v,H',os,bare,un,hok,r,q⟩:=h;obtain⟨J,g,d,t,O⟩:=s';obtain rfl:O=s.os:=os;exact⟨v,H',I.call (h':=J) (g':=g) (d':=d) (t':=t) (ch:=[]) un hok bare (λb z=>absurd z ⋯),r,q⟩
end
def Vd(sp:Sp)(dvs:List V)(E:XK)(t:TA):TE:=λσ H Q=>t σ H λvs H1=>sp (vs++dvs) H1 Q E
def zei(C:Addr)(m:Str)(sp:Sp)(dvs:List V)(E:XK)(ta:TE)(t:TA):TE:=λσ H Q=>ta σ H λx H1=>∃a dx fs,x = .ref a/\H1 a=some (.ins C dx fs)/\fs.lookup m=none/\
 t σ H1 λvs H2=>sp (x::(vs++dvs)) H2 Q E
def Va(C:Addr)(sp:Sp)(dvs:List V)(E:XK)(t:TA):TE:=λσ H Q=>t σ H λvs H1=>∀x dx,H1 x=none->H1 dx=none->dx≠x->
 sp (.ref x::(vs++dvs)) (upd (upd H1 dx (.own x)) x (.ins C dx [])) (λv H2=>v = .non/\Q (.ref x) H2) E
def Binds(K:PySem.W.Frag)(fd:FuncData)(ps:List Str)(ds:List Value):Prop:=
 ∀(s:Shared) (us:List Value),K.In s.heap->(us++ds).length=ps.length->BindsTo s fd ⟨us,[]⟩ (ps.zip (us++ds))
theorem Binds.all{K:PySem.W.Frag}{fd:FuncData}{ps:List Str}(h : ∀us:List Value,us.length=ps.length->bindArgs fd ⟨us,[]⟩=pure (ps.zip us)):Binds K fd ps []:=λs us _ z=>by
 rw [zjb]at z ⊢;exact .of_eq (h us z)
def wt(CX:CXT)(X:Cx)(E:XK):Prop:=∀(pins:List (Addr×Obj)) (σ:St) (H:Hp) (s:Shared) (e:Value) (s':Shared),Inv X pins σ H s->CX X.stack H s E e s'->X.xe e s'
section
variable{X:Cx}{CX:CXT}{k:Nat}{f C:Addr}{fd:FuncData}{ps:List Str}{sp:Sp}{dvs:List V}{ds:List Value}{E:XK}{x m:Str}{p pos apos:Pos}{e o:Expr}{es:List Expr}{ta:TE}{t:TA}
theorem WK{pins:List (Addr×Obj)}{σ:St}{H:Hp}{s:Shared}{Q:VK}{us:List Value}{vs:List V}(F:FnOk X.prog X.w X.K X.mg X.base CX k f fd ps sp)(J:Room k X.A)(O:Binds X.K fd ps ds)(hd:Vals dvs ds)(hx:wt CX X E)
 (I:Inv X pins σ H s) (r:Vals vs us) (h:sp (vs++dvs) H Q E):wpAny (model X.prog X.w) X.A (call (.ref f) us) (EP X pins σ Q) X.xe s:=by
 have r2:Vals (vs++dvs) (us++ds):=r.append hd;have S:(us++ds).length=ps.length:=by rw [<- r2.length];exact F.len _ _ _ _ h
 refine wpAny_call (zjo (F.run X.A X.stack s H ⟨us,[]⟩ (us++ds) (vs++dvs) Q E J I.env0 (O s us I.kIn S) r2 h) λr s' z=>?_);cases r with
 | error e=>exact hx pins σ H s e s' I z
 | ok U=>
  cases U with
  | ret u=>exact I.after z
  | next=>exact zhU z
  | brk=>exact zhU z
  | cont=>exact zhU z
theorem yW(F:FnOk X.prog X.w X.K X.mg X.base CX k f fd ps sp)(J:Room k X.A)(O:Gl X x)(hm:X.mg x=some (.ref f))(S:PySem.W.keepIn X.K (.ref f)=true)(U:Binds X.K fd ps ds)(hd:Vals dvs ds)(hx:wt CX X E)
 (ha:PA X (e::es) t) (Y:(x==("__debug__" : Str))=false:=by decide) (Z:starEach (e::es) X.env=(false,eval e X.env)::starEach es X.env:=by rfl) (a0:(backTo pos (starEach es X.env)).any (·.1)=false:=by rfl) :
 PE X (.Call (.Name x p) (e::es) [] pos) (Vd sp dvs E t):=by
 intro pins s σ H Q I h;refine ziy (KS I O hm ?_ Y);refine zjj (h₀:=X.base) I.ok.mod.kin S (thn (ha pos pins s σ H _ I h) λus s1 ⟨vs,H1,z,r,q⟩=>⟨z.kIn,?_⟩) Z a0;exact WK F J U hd hx z r q
theorem zaV{pl:Sem Bool}(S:PE X o ta)(c:Cls X.K C)(hm:Meth X.K C m f)(F:FnOk X.prog X.w X.K X.mg X.base CX k f fd ps sp)(U:Room k X.A)(Y:Binds X.K fd ps ds)(hd:Vals dvs ds)(hx:wt CX X E)(ha:PA X (e::es) t)
 (Z:starEach (e::es) X.env=(false,eval e X.env)::starEach es X.env:=by rfl) (a0:(backTo pos (starEach es X.env)).any (·.1)=false:=by rfl)
 (ht:eval (.Call (.Attribute o m apos) (e::es) [] pos) X.env=(do
   let z <- eval o X.env
   standAt apos.atName
   let (f,first) <- holding [z] (getMethod z m pl)
   callWith pos f first (backTo pos (starEach (e::es) X.env)) (backToKw pos (keywordEach [] X.env))):=by rfl) :
 PE X (.Call (.Attribute o m apos) (e::es) [] pos) (zei C m sp dvs E ta t):=by
 intro pins s σ H Q I h;refine PySem.W.methodCall_KW (pl:=pl) (thn (S pins s σ H _ I h) λu s1 hZ=>?_) ht;obtain⟨x,H1,J,rx,a,dx,fs,ex,ea,l,q⟩:=hZ;subst ex;obtain rfl:u=zgK a:=rx;refine XB J ea c hm l ?_;refine zjj (first:=[.ref a]) (h₀:=X.base) I.ok.mod.kin hm.kp (thn (ha pos pins s1 σ H1 _ J q) λus s2 ⟨vs,H2,O,r,q2⟩=>⟨O.kIn,?_⟩) Z a0;exact WK (us:= .ref a::us) (vs:= .ref a::vs) F U Y hd hx O (.cons rfl r) q2
structure Mk(K:PySem.W.Frag)(C f:Addr):Prop where
 makes:PySem.W.makesIn K C=true
 init:PySem.W.findIn K (.ref C) "__init__" = some (some (.ref f))
 fn:PySem.W.isFn K (.ref f)=true
 kp:PySem.W.keepIn K (.ref C)=true
theorem Vn{pins:List (Addr×Obj)}{σ:St}{H:Hp}{s:Shared}{Q:VK}{us:List Value}{vs:List V}(M:Mk X.K C f)(F:FnOk X.prog X.w X.K X.mg X.base CX k f fd ps sp)(S:Room (k+1) X.A)(U:Binds X.K fd ps ds)(hd:Vals dvs ds)
 (hx:wt CX X E) (I:Inv X pins σ H s) (r:Vals vs us)
 (h : ∀x dx,H x=none->H dx=none->dx≠x->sp (.ref x::(vs++dvs)) (upd (upd H dx (.own x)) x (.ins C dx [])) (λv H2=>v = .non/\Q (.ref x) H2) E) :
 wpAny (model X.prog X.w) X.A (call (.ref C) us) (EP X pins σ Q) X.xe s:=by
 have O:=h (s.heap.objs.size+1) s.heap.objs.size (I.hok.fresh (Nat.le_succ _)) (I.hok.fresh (zgp _)) (zgU (zhx _));have J:=Inv.made (C:=C) I;have r2:Vals (V.ref (s.heap.objs.size+1)::(vs++dvs)) (zgK (s.heap.objs.size+1)::(us++ds)):= .cons rfl (r.append hd);have Y:(zgK (s.heap.objs.size+1)::us++ds).length=ps.length:=by
  have e:=r2.length;rw [F.len _ _ _ _ O]at e;exact e.symm
 refine wpAny_call (VS (f:=f) I.kIn M.makes M.init (beq_iff_eq.mp M.fn) (zjo (F.run _ X.stack _ _ ⟨zgK (s.heap.objs.size+1)::us,[]⟩ (zgK (s.heap.objs.size+1)::(us++ds)) _ _ E (S.make C us [])
  (J.env0.make C us []) (U _ (zgK (s.heap.objs.size+1)::us) J.kIn Y) r2 O) λr s' z=>?_))
 cases r with
 | error e=>exact hx pins σ _ _ e s' J z
 | ok Z=>
  cases Z with
  | ret u=>
   obtain⟨v,H',I3,rv,ev,q3⟩:=J.after z;subst ev;exact⟨rv,⟨V.ref (s.heap.objs.size+1),H',I3,rfl,q3⟩⟩
  | next=>exact zhU z
  | brk=>exact zhU z
  | cont=>exact zhU z
theorem KG(M:Mk X.K C f)(F:FnOk X.prog X.w X.K X.mg X.base CX k f fd ps sp)(J:Room (k+1) X.A)(O:Gl X x)(hm:X.mg x=some (.ref C))(S:Binds X.K fd ps ds)(hd:Vals dvs ds)(hx:wt CX X E)
 (ha:PA X (e::es) t) (U:(x==("__debug__" : Str))=false:=by decide) (Y:starEach (e::es) X.env=(false,eval e X.env)::starEach es X.env:=by rfl) (Z:(backTo pos (starEach es X.env)).any (·.1)=false:=by rfl) :
 PE X (.Call (.Name x p) (e::es) [] pos) (Va C sp dvs E t):=by
 intro pins s σ H Q I h;refine ziy (KS I O hm ?_ U);refine zjj (h₀:=X.base) I.ok.mod.kin M.kp (thn (ha pos pins s σ H _ I h) λus s1 ⟨vs,H1,z,r,q⟩=>⟨z.kIn,?_⟩) Y Z;exact Vn M F J S hd hx z r q
end
structure FnScope(N P:List Str)(sc:Scope):Prop where
 kind:sc.kind = .function
 co:sc.isCoroutine=false
 gen:sc.isGenerator=false
 nd:N.Nodup
 pre:N.take P.length=P
 par : ∀x∈P,sc.names.lookup x=some .local\/sc.names.lookup x=some .cell
 nofree : ∀y∈sc.names,y.2 ≠ .free
theorem Z9{kindOf:Str->Option NameKind}{x:Str} : ∀{binds:List (Str×Value)} {m:Str->Option Value},(∀v,(x,v)∉binds)->bindL kindOf binds m x=m x
 | [],_,_=>rfl
 | (n,v)::r,m,h=>by
  unfold bindL;rw [Z9 λw hw=>h w (zgJ _ hw)];split
  ·have:x≠n:=by rintro rfl;exact h v zgI
   simp [this]
  ·rfl
theorem Jb{kindOf:Str->Option NameKind}{x:Str} : ∀{binds:List (Str×Value)} {m:Str->Option Value},(∀v,(x,v)∉binds)->bindC kindOf binds m x=m x
 | [],_,_=>rfl
 | (n,v)::r,m,h=>by
  unfold bindC;rw [Jb λw hw=>h w (zgJ _ hw)];split
  ·rfl
  ·have:x≠n:=by rintro rfl;exact h v zgI
   simp [this]
theorem Ja{kindOf:Str->Option NameKind}{x:Str}{v:Value} : ∀{P:List Str} {vs:List Value} {i:Nat} {m:Str->Option Value},P.Nodup->P[i]? = some x->vs[i]? = some v->kindOf x=some .local->
 bindL kindOf (P.zip vs) m x=some v
 | [],_,_,_,_,h,_,_=>by simp at h
 | _::_,[],_,_,_,_,h,_=>by simp at h
 | p::P,w::vs,0,m,nd,h1,h2,hk=>by
  simp at h1 h2;subst h1;subst h2;show bindL kindOf ((p,w)::P.zip vs) m p=_;unfold bindL;rw [Z9 λv z=>(ziq.mp nd).1 (List.of_mem_zip z).1,if_pos hk];simp
 | p::P,w::vs,i+1,m,nd,h1,h2,hk=>by
  show bindL kindOf ((p,w)::P.zip vs) m x=_;unfold bindL;exact Ja (i:=i) (ziq.mp nd).2 (by simpa using h1) (by simpa using h2) hk
theorem Jc{kindOf:Str->Option NameKind}{x:Str}{v:Value} : ∀{P:List Str} {vs:List Value} {i:Nat} {m:Str->Option Value},P.Nodup->P[i]? = some x->vs[i]? = some v->kindOf x≠some .local->
 bindC kindOf (P.zip vs) m x=some v
 | [],_,_,_,_,h,_,_=>by simp at h
 | _::_,[],_,_,_,_,h,_=>by simp at h
 | p::P,w::vs,0,m,nd,h1,h2,hk=>by
  simp at h1 h2;subst h1;subst h2;show bindC kindOf ((p,w)::P.zip vs) m p=_;unfold bindC;rw [Jb λv z=>(ziq.mp nd).1 (List.of_mem_zip z).1,if_neg hk];simp
 | p::P,w::vs,i+1,m,nd,h1,h2,hk=>by
  show bindC kindOf ((p,w)::P.zip vs) m x=_;unfold bindC;exact Jc (i:=i) (ziq.mp nd).2 (by simpa using h1) (by simpa using h2) hk
def start(N:List Str)(vs:List V):St:=vs.map some++zgm (N.length - vs.length) none
def zbp(CX:CXT)(P:Program)(w:World)(K:PySem.W.Frag)(mg:Str->Option Value)(base:Heap)(N:List Str)(qual:Str)(scope:Scope)(f:Addr)(z:Value)(A:Around)(outer:List Env)(s:Shared)(H:Hp)(E:XK):Cx where
 prog:=P
 w:=w
 K:=K
 mg:=mg
 base:=base
 A:=A.deeper (envOfC qual scope s.heap.objs.size f z)
 N:=N
 s₀:=s
 H₀:=H
 env:=envOfC qual scope s.heap.objs.size f z
 outer:=outer
 stack:=envOfC qual scope s.heap.objs.size f z::outer
 ex:=[]
 calm:=true
 fn:=λ_=>true
 pn:=[]
 xe:=λe s'=>wpAny (model P w) (A.deeper (envOfC qual scope s.heap.objs.size f z)) (leaving (envOfC qual scope s.heap.objs.size f z) e) (λ_ I=>CX outer H s E e I) (λJ I=>CX outer H s E J I) s'
theorem QP{sc:Scope}{n:Nat}{x:Str}(h:sc.names.lookup x=some .cell) : ∃c,(cellsFrom n sc.names []).lookup x=some c:=by
 have q:=zio sc.names n [] (.inl h);exact zhr.mp q
theorem K5{CX:CXT}{P:Program}{w:World}{K:PySem.W.Frag}{mg:Str->Option Value}{base:Heap}{N ps:List Str}{qual:Str}{scope:Scope}{f:Addr}{U:Value}{A:Around}{outer:List Env}{s s1:Shared}{H:Hp}{E:XK}{us:List Value}{vs:List V}
 (S:FnScope N ps scope) (hd:A.handled=none) (I:Env0 P w K mg base A outer s H) (hl:vs.length=ps.length) (r:Vals vs us)
 (x:InCallC s s.heap.objs.size (bindL (envOfC qual scope s.heap.objs.size f U).kindOf (ps.zip us) λ_=>none) (cellsFrom (s.heap.objs.size+1) scope.names []) (bindC (envOfC qual scope s.heap.objs.size f U).kindOf (ps.zip us) λ_=>none) s1) :
 Inv (zbp CX P w K mg base N qual scope f U A outer s H E) [] (start N vs) H s1:=by
 have a4:ps.length<=N.length:=by have:=congrArg List.length S.pre;rw [zik]at this;omega
 obtain⟨h1,tk,rfl,Z⟩:=x.done;have Y : ∀b:Addr,b∉(zbp CX P w K mg base N qual scope f U A outer s H E).ex:=λb z=>absurd (show b∈([]:List Addr)from z) ⋯;refine⟨⟨I.mod,S.kind,rfl,rfl,zgp _,λy z c h1 h2=>?_,λy J=>?_,λy c _ h=>?_,λ_=>hd,Around.frames_deeper I.frames,.inr ⟨rfl,rfl⟩,λb z=>absurd z (Y b),I.bs,I.bsz,λb _ _=>Y b,λb z=>absurd z (Y b),I.funs,I.frf⟩,
  rfl,I.bare,Un.kept Z,⟨_,x.toInCall.ns,λi y v h1 h2 h3=>?_⟩,λy c h=>⟨_,x.cell y c h⟩,I.hok.fresh (zgp _),λy c h=>?_,λp O=>absurd (show p∈([]:List (Addr×Obj))from O) ⋯,I.hok.kept Z,?_⟩
 ·exact name_of_addr x.apart (zij h1) (zij h2)
 ·have J:scope.names.lookup y=some .cell\/scope.names.lookup y=some .free:=J
  rcases J with J | J
  ·exact QP J
  ·exact absurd rfl (S.nofree _ (zij J))
 ·exact zjh (x.above y c (zij h))
 ·have hi:i<vs.length:=by
   unfold start at h2;by_cases hi:i<vs.length
   ·exact hi
   ·rw [zg5 (by simpa using hi)]at h2
    rw [zir]at h2;split at h2<;>cases h2
  have ha:vs[i]? = some v:=by
   unfold start at h2;rw [zhl (by simpa using hi),zg6]at h2;cases e:vs[i]? with
   | none=>rw [e]at h2;cases h2
   | some a=>rw [e]at h2;cases h2;rfl
  obtain⟨u,hu,rv⟩:=r.get ha;have O:ps[i]? = some y:=by
   rw [<- S.pre,List.getElem?_take_of_lt ⋯];exact h1
  have a1:ps.Nodup:=by rw [<- S.pre];exact S.nd.sublist (List.take_sublist _ _)
  refine⟨u,rv,?_⟩;rcases S.par y (ziD O)with k | k
  ·exact .inl ⟨k,Ja a1 O hu k⟩
  ·obtain⟨c,e⟩:=QP (n:=s.heap.objs.size+1) k
   refine .inr ⟨.inl k,c,e,?_⟩;have q:=x.cell y c e;rw [Jc a1 O hu (by show scope.names.lookup y≠_;rw [k];decide)]at q;exact q
 ·exact I.hok.fresh (zjh (x.above y c (zij h)))
 ·unfold start
  show _=N.length;rw [zhq,zgH,List.length_replicate];omega
theorem zeX{CX:CXT}{P:Program}{w:World}{K:PySem.W.Frag}{mg:Str->Option Value}{base:Heap}{k:Nat}{f:Addr}{name qual:Str}{a0:Arguments}{body:List Stmt}{scope:Scope}{dV kV doc pm cdv ct oc:Value}{an od:Option Addr}
 {osl:Array (Option Value)} {N ps:List Str} {sp:Sp} (lk:K.lookup f=some ⟨oc,od,.func (PySem.W.fnOf name qual a0 body scope dV kV doc pm an cdv ct),osl⟩) (a5:PySem.W.codeIn K cdv qual=true) (S:FnScope N ps scope)
 (len : ∀vs H Q E,sp vs H Q E->vs.length=ps.length)
 (a6 : ∀(A:Around) (outer:List Env) (s:Shared) (H:Hp) (vs:List V) (Q:VK) (E:XK),Room k (A.deeper (envOfC qual scope s.heap.objs.size f cdv))->sp vs H Q E->
   ∃t,PSs (zbp CX P w K mg base N qual scope f cdv A outer s H E) body t/\t {nx:=λ_ H'=>Q .non H',rt:=Q} (start N vs) H) :
 FnOk P w K mg base CX (k+1) f (PySem.W.fnOf name qual a0 body scope dV kV doc pm an cdv ct) ps sp:=by
 refine⟨len,λA outer s H args us vs Q E Y O hb r a2=>?_⟩;have hl:=len _ _ _ _ a2;have KX:K.In s.heap:=O.mod.kin.keeps λb o e=>(O.bs b o e).1;have lim:s.heap.NoLimit:=O.mod.nolimit.keeps λb o e=>(O.bs b o e).1;have a9 : ∀y∈ps.zip us,scope.names.lookup y.1=some .local\/(scope.names.lookup y.1=some .cell/\((cellsFrom (s.heap.objs.size+1) scope.names []).lookup y.1).isSome=true):=λ⟨n,v⟩ hy=>by
  rcases S.par n (List.of_mem_zip hy).1 with q | q
  ·exact .inl q
  ·exact .inr ⟨q,zio _ _ _ (.inl q)⟩
 refine codeAny_call_function Y.depth (KX _ _ lk) rfl S.co S.gen rfl (PySem.W.codeRec_of KX a5) (hb _ _ _ _ ?_);refine wpAny_newFunctionEnv_cells S.kind a9 λenv he s1 x=>?_;subst he;refine⟨lim.keeps x.toInCall.keep,codeAny_func ?_⟩;obtain⟨t,ht,hq⟩:=a6 A outer s H vs Q E (Y.deeper _) a2;have I:Inv (zbp CX P w K mg base N qual scope f cdv A outer s H E) [] (start N vs) H s1:=K5 S Y.hd O hl r x;refine zid (ht [] s1 (start N vs) H _ I hq) (λfl s' z=>?_) λe s' z=>z;have a4 : ∀{U:St} {H':Hp} {v:V} {u:Value},Inv (zbp CX P w K mg base N qual scope f cdv A outer s H E) [] U H' s'->RelV v u->Q v H'->CE outer P w H s Q u s':=
  λ{U H' v u} J Z q=>⟨v,H',J.os,J.bare,J.base,J.hok,Z,q⟩
 cases fl with
 | ret u=>
  obtain⟨v,U,H',J,Z,q⟩:=z;exact a4 J Z q
 | next=>
  obtain⟨U,H',J,q⟩:=z;exact a4 (v:=V.non) (u:=zhI) J rfl q
 | brk=>
  obtain⟨_,_,_,q⟩:=z;exact zhU q
 | cont=>
  obtain⟨_,_,_,q⟩:=z;exact zhU q
section
variable{X:Cx}{x:Str}{p pos:Pos}{e:Expr}{es:List Expr}{t:TA}{id T:String}{r:List V->Hp->VK->Prop}
def tCB(r:List V->Hp->VK->Prop)(t:TA):TE:=λσ H Q=>t σ H λvs H1=>r vs H1 Q
theorem xL(z:vD X (.builtin id) r)(J:Gl X x)(hm:X.mg x=none)(O:bootBuiltins x=some (.builtin id))(ha:PA X (e::es) t)(hn:x ≠ "__name__":=by decide)(S:(x==("__debug__" : Str))=false:=by decide)
 (U:starEach (e::es) X.env=(false,eval e X.env)::starEach es X.env:=by rfl) (Y:(backTo pos (starEach es X.env)).any (·.1)=false:=by rfl):PE X (.Call (.Name x p) (e::es) [] pos) (tCB r t):=by
 intro pins s σ H Q I h;refine ziy (xX I J hm O ?_ hn S);exact zjf (thn (ha pos pins s σ H _ I h) λus s1 ⟨vs,H1,Z,r1,q1⟩=>z pins s1 σ H1 vs us Q Z r1 q1) U Y
theorem yV(z:vD X (.type T) r)(J:Gl X x)(hm:X.mg x=none)(O:bootBuiltins x=some (.type T))(ha:PA X (e::es) t)(hn:x ≠ "__name__":=by decide)(S:(x==("__debug__" : Str))=false:=by decide)
 (U:starEach (e::es) X.env=(false,eval e X.env)::starEach es X.env:=by rfl) (Y:(backTo pos (starEach es X.env)).any (·.1)=false:=by rfl):PE X (.Call (.Name x p) (e::es) [] pos) (tCB r t):=by
 intro pins s σ H Q I h;refine ziy (xX I J hm O ?_ hn S);exact zho (thn (ha pos pins s σ H _ I h) λus s1 ⟨vs,H1,Z,r1,q1⟩=>z pins s1 σ H1 vs us Q Z r1 q1) U Y
end
end L2
namespace HT
open PySem PyProof.Rows
section
variable{prog:Program}{w:World}{A:Around}{E:Value->Shared->Prop}{s:Shared}
theorem cat_tup{t b:Addr}{vs z:List Value}{Q:Value->Shared->Prop}(ht:IsTup s.heap t vs.toArray)(hb:IsTup s.heap b z.toArray)(O:vs ≠ [])
 (h1:z=[]->Q (.ref t) s) (h2:z ≠ []->Q (.ref s.heap.objs.size) {s with heap:=s.heap.push {cls:= .type "tuple",data:= .seq (vs++z).toArray}})
 (hsz:vs.length+z.length<=sizeLine):wpAny (model prog w) A (binaryOp .Add (.ref t) (.ref b)) Q E s:=by
 obtain⟨⟨cls,S,data,sl⟩,I,U,n,hd⟩:=id ht;obtain⟨⟨a5,Y,data2,Z⟩,J,a0,n2,a2⟩:=id hb;simp only at U hd a0 a2;subst U hd a0 a2;have e:vs.toArray++z.toArray=(vs++z).toArray:=by simp
 by_cases hw:z=[]
 ·exact zjV ⟨_,I,rfl⟩ ⟨_,J,rfl⟩ zjX seq_tuple_add ziY ziV (ziO _ _)
   (tuple_addW1 t b vs.toArray z.toArray n n2 S Y sl Z (by simpa using O) (by simp [hw])) ⟨I,J,h1 hw⟩
 ·refine zjV ⟨_,I,rfl⟩ ⟨_,J,rfl⟩ zjX seq_tuple_add ziY ziV (ziO _ _)
   (tuple_addW2 t b vs.toArray z.toArray n n2 S Y sl Z (by simpa using O) (by simpa using hw) (by rw [zgs,zgs];exact hsz)) ⟨I,J,?_⟩
  rw [e];exact h2 hw
def sIx(n d:Nat):Option Int->Nat
 | none=>d
 | some v=>if v<0 then (v+(n:Int)).toNat else min v.toNat n
theorem zca(n d:Nat)(hd:d<=n)(o:Option Int):sIx n d o<=n:=by
 cases o with
 | none=>exact hd
 | some v=>
  show(if v<0 then (v+(n:Int)).toNat else min v.toNat n)<=n;by_cases z:v<0
  ·rw [if_pos z];omega
  ·rw [if_neg z];exact Nat.min_le_right _ _
theorem YC(v:Int)(n d:Nat):(if v<0 then max (v+(n:Int)) 0 else min v (n:Int))=((sIx n d (some v):Nat):Int):=by
 show(if v<0 then max (v+(n:Int)) 0 else min v (n:Int))=(((if v<0 then (v+(n:Int)).toNat else min v.toNat n):Nat):Int);by_cases z:v<0
 ·simp only [if_pos z];omega
 ·simp only [if_neg z];omega
theorem XQ(lo hi:Option Int)(n:Nat):ziC lo hi 1 (n:Int)=(((sIx n 0 lo:Nat):Int),((sIx n n hi:Nat):Int)):=by
 have h1 : ¬((1:Int)<0):=by omega
 unfold ziC;simp only [h1,if_false];refine Prod.ext ?_ ?_
 ·cases lo with
  | none=>rfl
  | some v=>exact YC v n 0
 ·cases hi with
  | none=>rfl
  | some v=>exact YC v n n
theorem Xh(i j:Nat):zia (i:Int) (j:Int) 1=j - i:=by
 unfold zia;have h1:(1:Int)>0:=by omega
 simp only [h1,if_true,Int.ediv_one];split<;>omega
theorem vZ{v:Value}{o:Option Int}{Q:Option Int->Shared->Prop}(p:IsPart v o)(h:Q o s):wpAny (model prog w) A (Builtin.Slice.slicePartIndex v) Q E s:=by
 cases p with
 | none=>exact slicePart_none h
 | int i t=>exact slicePart_int h
theorem sliceApplied_gen{sl:Addr}{z I:Value}{lo hi:Option Int}{n:Nat}{Q:Int×Int×Nat->Shared->Prop}(S:s.heap.IsSliceOf sl z I .none)(pl:IsPart z lo)(U:IsPart I hi)
 (h:Q (((sIx n 0 lo:Nat):Int),1,sIx n n hi - sIx n 0 lo) s):wpAny (model prog w) A (Builtin.Slice.sliceApplied (.ref sl) (pure (n:Int))) Q E s:=by
 obtain⟨os,J,Y,O⟩:=id S;unfold Builtin.Slice.sliceApplied Builtin.Slice.sliceFields;refine zgi (zgi (zhj J O (x:=z) rfl (zgi (zhj J O (x:=I) rfl (zgi (zhj J O (x:= .none) rfl (zgo ?_)))))));refine zgi (slicePart_none ?_);show wpAny _ _ (if ((1:Int)==0)=true then _ else _) _ _ s;rw [if_neg ⋯];refine zgi (vZ pl (zgi (vZ U (zgi (zgo ?_)))));show wpAny _ _ (match ziC lo hi 1 (n:Int)with | (lo,hi)=>pure (lo,(1:Int),zia lo hi 1)) _ _ s;rw [XQ lo hi n];show wpAny _ _ (pure (((sIx n 0 lo:Nat):Int),(1:Int),zia ((sIx n 0 lo:Nat):Int) ((sIx n n hi:Nat):Int) 1)) _ _ s;rw [Xh];exact zgo h
theorem VB(xs:Array Value)(i k:Nat):((zgj k).filterMap λ(m:Nat)=>xs[((i:Int)+(m:Int)*1).toNat]?).toArray=((xs.toList.drop i).take k).toArray:=by
 have e:(λ(m:Nat)=>xs[((i:Int)+(m:Int)*1).toNat]?)=λm=>xs[i+m]? :=by
  funext m;have:((i:Int)+(m:Int)*1).toNat=i+m:=by omega
  rw [this]
 rw [e];have:=pick_run xs i k;rw [List.filterMap_map]at this;have z:((λx=>xs[x]?)∘λx=>i+x)=λm=>xs[i+m]? :=rfl;rw [z]at this;rw [this]
theorem getItem_tuple_cut{t sl:Addr}{items:Array Value}{J O:Value}{lo hi:Option Int}{Q:Value->Shared->Prop}(z:IsTup s.heap t items)(S:s.heap.IsSliceOf sl J O .none)(pl:IsPart J lo)(U:IsPart O hi)
 (hw : ¬(sIx items.size 0 lo=0/\sIx items.size items.size hi=items.size))
 (h:Q (.ref s.heap.objs.size) {s with heap:=s.heap.push {cls:= .type "tuple",data:= .seq ((items.toList.drop (sIx items.size 0 lo)).take (sIx items.size items.size hi - sIx items.size 0 lo)).toArray}})
 (hsz:items.size<=sizeLine):wpAny (model prog w) A (getItem (.ref t) (.ref sl)) Q E s:=by
 have I:sizeOk (.seq ((items.toList.drop (sIx items.size 0 lo)).take (sIx items.size items.size hi - sIx items.size 0 lo)).toArray):=by
  show((items.toList.drop (sIx items.size 0 lo)).take (sIx items.size items.size hi - sIx items.size 0 lo)).toArray.size<=sizeLine;rw [zgs,zik,List.length_drop,zhQ];omega
 have hj:sIx items.size items.size hi<=items.size:=zca _ _ (zgp _) hi;obtain⟨os,Y,Z,a3⟩:=id S;have a0:s.TypeIs (.ref sl) "slice":=⟨os,Y,Z⟩;unfold getItem
 try with_reducible refine zih ?_
 first | refine zgi (zgo ?_) | skip
 refine zgi (wpAny_sequenceKey z.typeIs ⋯ ?_);refine zgi (zg9 (name:=zhg "__getitem__") z.typeIs zhs
  (zhu zhs z.typeIs entry_tuple_getitem ?_ (args_tuple_getitem _ _)))
 show wpAny _ _ (Builtin.Tuple.tupleItemsOf (.ref t) >>= _) _ _ s;refine zgi (zjd z ?_);refine zgi (zi0 a0 ?_);rw [if_pos ⋯];refine zgi (sliceApplied_gen S pl U ?_);have a1 : ¬((((sIx items.size 0 lo:Nat):Int)==0 && (1:Int)==1 && (sIx items.size items.size hi - sIx items.size 0 lo)==items.size)=true):=by
  intro q;rw [Bool.and_eq_true,Bool.and_eq_true]at q;have q1:((sIx items.size 0 lo:Nat):Int)=0:=eq_of_beq q.1.1;have q2:sIx items.size items.size hi - sIx items.size 0 lo=items.size:=eq_of_beq q.2;exact hw ⟨by omega,by omega⟩
 show wpAny _ _ (if (((sIx items.size 0 lo:Nat):Int)==0 && (1:Int)==1 && (sIx items.size items.size hi - sIx items.size 0 lo)==items.size)=true then _ else _) _ _ s;rw [if_neg a1,VB]
 first
  | exact zgi (m:=zhD _) (zg8 (zgo ⟨_,rfl,zgo h⟩) I)
  | exact zgi (m:=zhD _) (zg8 (zgi (zgo (zgo ⟨_,rfl,zgo h⟩))) I)
  | exact zgi (zgi (m:=zhD _) (zg8 (zgo (zgo ⟨_,rfl,zgo h⟩)) I))
  | exact zgi (zgi (m:=zhD _) (zg8 (zgo ⟨_,rfl,zgo h⟩) I))
end
end HT
namespace L2
open PySem PySem.Spec PyProof.Rows
abbrev TO:=St->Hp->(Option Int->Hp->Prop)->Prop
def PO(X:Cx)(e:Option Expr)(t:TO):Prop:=
 ∀(pins:List (Addr×Obj)) (s:Shared) (σ:St) (H:Hp) (Q:Option Int->Hp->Prop),Inv X pins σ H s->t σ H Q->
  wpAny (model X.prog X.w) X.A (evalPart e X.env) (λu s'=>∃o H',Inv X pins σ H' s'/\IsPart u o/\Q o H') X.xe s
def zak:TO:=λ_ H Q=>Q none H
def zee(t:TE):TO:=λσ H Q=>t σ H λx H1=>∃i,x = .int i/\Q (some i) H1
section
variable{X:Cx}{e:Expr}{te:TE}{lo hi:Option Expr}{tl th:TO}{pos p2:Pos}
theorem zaO:PO X none zak:=by
 intro pins s σ H Q I h;rw [evalPart_none];exact zgo ⟨none,H,I,.none,h⟩
theorem zaN(h:PE X e te):PO X (some e) (zee te):=by
 intro pins s σ H Q I hw;rw [evalPart_some];refine thn (h pins s σ H _ I hw) λu s1 z=>?_;obtain⟨x,H1,J,O,S⟩:=z;obtain⟨i,rfl,q⟩:=S;obtain⟨t,rfl⟩:=O;exact⟨some i,H1,J,.int i t,q⟩
def SlR(X:Cx)(r:V->Option Int->Option Int->Hp->VK->Prop):Prop:=
 ∀(pins:List (Addr×Obj)) (s:Shared) (σ:St) (H:Hp) (x:V) (v z I:Value) (lo hi:Option Int) (sl:Addr) (Q:VK),Inv X pins σ H s->RelV x v->s.heap.IsSliceOf sl z I .none->IsPart z lo->IsPart I hi->r x lo hi H Q->
  ∃T id,typeLookup (.type T) "__getitem__" = pure (some (.builtin id))/\s.TypeIs v T/\wpAny (model X.prog X.w) X.A (getItem v (.ref sl)) (EP X pins σ Q) X.xe s
def tSl(r:V->Option Int->Option Int->Hp->VK->Prop)(te:TE)(tl th:TO):TE:=λσ H Q=>te σ H λx H1=>tl σ H1 λl H2=>th σ H2 λu z=>r x l u z Q
theorem VD{r:V->Option Int->Option Int->Hp->VK->Prop}(U:SlR X r)(Y:PE X e te)(Z:PO X lo tl)(hu:PO X hi th):PE X (.Subscript e (.Slice lo hi none p2) pos) (tSl r te tl th):=by
 intro pins s σ H Q I h;refine Subscript_ (thn (Y pins s σ H _ I h) λv s1 hZ=>?_);obtain⟨x,H1,I1,r1,q1⟩:=hZ;refine wpAny_Slice (thn (Z pins s1 σ H1 _ I1 q1) λJ s2 ⟨l,H2,I2,pl,q2⟩=>thn (hu pins s2 σ H2 _ I2 q2) λO z ⟨u,S,I3,pu,q3⟩=>?_);rw [evalPart_none];refine zgo ?_;have I4:Inv X pins σ S {z with heap:=z.heap.push {cls:= .type "slice",data:= .fields #[J,O,.none]}}:=I3.kept (t':=z.toks) λb ob q=>zgk _ q;obtain⟨T,id,hT,ht,hg⟩:=U pins {z with heap:=z.heap.push {cls:= .type "slice",data:= .fields #[J,O,.none]}} σ S x v J O l u z.heap.objs.size Q I4 r1 (Heap.IsSliceOf.new ..) pl pu q3;show wpAny (model X.prog X.w) X.A (subscriptTail e (.Slice lo hi none p2) v (.ref z.heap.objs.size)) (EP X pins σ Q) X.xe {z with heap:=z.heap.push {cls:= .type "slice",data:= .fields #[J,O,.none]}};exact tail_any (ops:=[.ref z.heap.objs.size,v]) ht hT hg (by with_unfolding_all rfl)
def zbr(xs:List V)(lo hi:Option Int):List V:=(xs.drop (HT.sIx xs.length 0 lo)).take (HT.sIx xs.length xs.length hi - HT.sIx xs.length 0 lo)
theorem JS(xs:List V)(lo hi:Option Int):(zbr xs lo hi).length<=xs.length:=by
 unfold zbr;rw [zik,List.length_drop];omega
def zf3(K:PySem.W.Frag):V->Option Int->Option Int->Hp->VK->Prop:=λx lo hi H Q=>∃a xs,x = .ref a/\SqT K H a xs/\
 ¬(HT.sIx xs.length 0 lo=0/\HT.sIx xs.length xs.length hi=xs.length)/\∀p,H p=none->Q (.ref p) (upd H p (.tup (zbr xs lo hi)))
theorem zb6:SlR X (zf3 X.K):=by
 intro pins s σ H x v vl vu lo hi sl Q I S U pl Y h;obtain⟨a,xs,rfl,hx,hw,q⟩:=h;cases S;obtain⟨Z,r,J,O⟩:=I.tuple hx;have z:Z.toArray.size=xs.length:=by rw [zgs];exact r.length.symm
 refine⟨"tuple",_,zhs.lookup,J.typeIs,?_⟩;refine HT.getItem_tuple_cut J U pl Y (by rw [z];exact hw) ?_ (by rw [z];exact O);rw [z];refine⟨.ref s.heap.objs.size,_,I.laid (t':=s.toks) (o:= .tup (zbr xs lo hi)) (λb ob q=>zgk _ q) (zgp _) ?_,rfl,q _ (I.hok.fresh (zgp _))⟩;exact⟨zhh (JS xs lo hi) O,_,(r.drop (HT.sIx xs.length 0 lo)).take (HT.sIx xs.length xs.length hi - HT.sIx xs.length 0 lo),IsTupD.new _ _⟩
theorem Vals.nil_iff{xs:List V}{us:List Value}(r:Vals xs us):us=[]↔xs=[]:=by
 cases r with
 | nil=>simp
 | cons _ _=>simp
end
def ixN(n:Nat)(i:Int):Option Nat:=if 0<=i then (if i<n then some i.toNat else none)else if -(n:Int)<=i then some (i+n).toNat else none
def atI{α:Type}(xs:List α)(i:Int):Option α:=(ixN xs.length i).bind λj=>xs[j]?
theorem za7{n:Nat}{i:Int}{j:Nat}(h:ixN n i=some j):seqIndex? i n=some j/\j<n/\ -(n:Int)<=i/\i<n:=by
 unfold ixN at h;by_cases z:0<=i
 ·rw [if_pos z]at h
  by_cases h1:i<n
  ·rw [if_pos h1]at h
   have e:i.toNat=j:=zhy h;exact⟨by rw [seqIndex_of z h1,e],by omega,by omega,h1⟩
  ·rw [if_neg h1]at h;cases h
 ·rw [if_neg z]at h
  by_cases h1 : -(n:Int)<=i
  ·rw [if_pos h1]at h
   have e:(i+n).toNat=j:=zhy h;exact⟨by rw [seqIndex_neg ⋯ h1,e],by omega,h1,by omega⟩
  ·rw [if_neg h1]at h;cases h
theorem JV{α:Type}{xs:List α}{i:Int}{v:α}(h:atI xs i=some v) : ∃j,seqIndex? i xs.length=some j/\xs[j]? = some v/\j<xs.length/\ -(xs.length:Int)<=i/\i<xs.length:=by
 unfold atI at h;cases e:ixN xs.length i with
 | none=>rw [e]at h;cases h
 | some j=>
  rw [e]at h;obtain⟨h1,h2,z,I⟩:=za7 e;exact⟨j,h1,h,h2,z,I⟩
def JZ(b:Expr):Prop:=∀o i,subscripted b false o i=operate [o,i] (getItem o i)
def IxR(X:Cx)(r:R2):Prop:=
 ∀(value z:Expr) (pins:List (Addr×Obj)) (s:Shared) (σ:St) (H:Hp) (x y:V) (v u:Value) (Q:VK),Inv X pins σ H s->RelV x v->RelV y u->r x y H Q->
  subscripted z false v u=operate [v,u] (getItem v u)->wpAny (model X.prog X.w) X.A (subscriptTail value z v u) (EP X pins σ Q) X.xe s
def MtR(X:Cx)(id:String)(r:V->List V->Hp->VK->Prop):Prop:=
 ∀(pins:List (Addr×Obj)) (s:Shared) (σ:St) (H:Hp) (x:V) (xs:List V) (v:Value) (us:List Value) (Q:VK),Inv X pins σ H s->RelV x v->Vals xs us->r x xs H Q->
  wpAny (model X.prog X.w) X.A (call (.builtin id) (v::us)) (EP X pins σ Q) X.xe s
section
variable{X:Cx}{a b:Expr}{ta tb:TE}{pos:Pos}
theorem IxR.or{r r':R2}(h:IxR X r)(h':IxR X r'):IxR X (λx y H Q=>r x y H Q\/r' x y H Q):=by
 intro value z pins s σ H x y v u Q I J O q S;rcases q with q | q
 ·exact h value z pins s σ H x y v u Q I J O q S
 ·exact h' value z pins s σ H x y v u Q I J O q S
theorem zcF{r:R2}(z:IxR X r)(ha:PE X a ta)(J:PE X b tb)(O:JZ b):PE X (.Subscript a b pos) (tOp r ta tb):=by
 intro pins s σ H Q I h;exact Subscript_ (ze8 ha J I h λv u s2 x y H2 S U Y q=>z a b pins s2 σ H2 x y v u Q S U Y q (O _ _))
def zf6(K:PySem.W.Frag):R2:=λx y H Q=>∃p xs i v,x = .ref p/\y = .int i/\SqL K H p xs/\atI xs i=some v/\Q v H
def zf4(K:PySem.W.Frag):R2:=λx y H Q=>∃p xs i v,x = .ref p/\y = .int i/\SqT K H p xs/\atI xs i=some v/\Q v H
def zf5:R2:=λx y H Q=>∃z i c,x = .str z/\y = .int i/\z.length<=sizeLine/\atI z.cps.toList i=some c/\Q (.str ⟨#[c]⟩) H
theorem ix_list:IxR X (zf6 X.K):=by
 intro value a8 pins s σ H x y v u Q I Z ry h O;obtain⟨p,xs,i,z,rfl,rfl,hq,he,q⟩:=h;cases Z;obtain⟨t,rfl⟩:=ry;obtain⟨a3,r,pl,hz⟩:=I.list hq;obtain⟨j,h1,h2,h3,h4,h5⟩:=JV he;obtain⟨w,S,a6⟩:=r.get h2;have hl:=r.length;have hn:=we;have U:EP X pins σ Q w s:=⟨z,H,I,a6,q⟩;by_cases Y:0<=i
 ·have J:i.toNat=j:=by
   rw [seqIndex_of Y h5]at h1;exact zhy h1
  exact item_listR pl.isList Y ⋯ (by rw [J];simpa using S) U O
 ·have J:(i+(a3.toArray.size:Int)).toNat=j:=by
   rw [seqIndex_neg ⋯ h4]at h1;rw [zgs,<- hl];exact zhy h1
  exact subscriptTail_builtinR (x:=w) pl.isList.typeIs slot_list_getitem.lookup
   (wpAny_getItem_list_neg (Q:=λr s'=>r=w/\EP X pins σ Q r s') pl.isList ⋯ (by rw [zgs]<;>omega) ⋯ (by rw [J];simpa using S) ⟨rfl,U⟩) O
theorem zc9:IxR X (zf4 X.K):=by
 intro value a3 pins s σ H x y v u Q I J O h S;obtain⟨p,xs,i,z,rfl,rfl,U,Y,q⟩:=h;cases J;obtain⟨t,rfl⟩:=O;obtain⟨a4,r,pl,hz⟩:=I.tuple U;obtain⟨j,h1,h2,h3,h4,h5⟩:=JV Y;obtain⟨w,Z,a0⟩:=r.get h2;have hl:=r.length;have hn:=we;have a2:EP X pins σ Q w s:=⟨z,H,I,a0,q⟩;exact subscriptTail_builtinR (x:=w) pl.typeIs slot_tuple_getitem.lookup
  (getItem_tuple (j:=j) (Q:=λr s'=>r=w/\EP X pins σ Q r s') pl ⋯ ⋯ (by rw [zgs,<- hl];exact h1) (by simpa using Z) ⟨rfl,a2⟩) S
theorem zda:IxR X zf5:=by
 intro value a2 pins s σ H x y v u Q I J O h S;obtain⟨z,i,c,rfl,rfl,hz,U,q⟩:=h;obtain⟨t,rfl⟩:=J;obtain⟨t',rfl⟩:=O;obtain⟨j,h1,h2,h3,Y,Z⟩:=JV U;have hl:z.cps.toList.length=z.length:=by simp [Str.length]
 rw [hl]at h1 Y Z;have hn:=we;exact tail_any (typeIs_str s z t) slot_str_getitem.lookup (getItem_str (c:=c) (by
  have e1:decide (i < -(2 ^ 63:Int))=false:=decide_eq_false ⋯;have e2:decide (i>=2 ^ 63)=false:=decide_eq_false ⋯;rw [e1,e2,Bool.or_false]) (by rw [h1];simpa using h2) ⟨.str ⟨#[c]⟩,H,I.tok _,⟨_,rfl⟩,q⟩) S
theorem Z8:vD X (.builtin "len") (λxs H Q=>∃p ys,xs=[.ref p]/\(SqL X.K H p ys\/SqT X.K H p ys)/\Q (.int ys.length) H):=by
 intro pins s σ H xs us Q I r h;obtain⟨p,ys,rfl,z,q⟩:=h;obtain⟨u,rfl,O⟩:=ym r;cases O;have hn:=we;rcases z with z | z
 ·obtain⟨S,r',pl,U⟩:=I.list z
  have J:=r'.length;exact Calls.call_len_list pl.isList (by simp only [zgs]<;>omega) ⟨.int ys.length,H,I.tok _,⟨s.toks+1,by rw [zgs,J]⟩,q⟩
 ·obtain⟨S,r',pl,U⟩:=I.tuple z
  have J:=r'.length;exact len_tuple pl (by simp only [zgs]<;>omega) ⟨.int ys.length,H,I.tok _,⟨s.toks+1,by rw [zgs,J]⟩,q⟩
theorem Z7:vD X (.builtin "len") (λxs H Q=>∃z,xs=[.str z]/\z.length<=sizeLine/\Q (.int z.length) H):=by
 intro pins s σ H xs us Q I r h;obtain⟨z,rfl,J,q⟩:=h;obtain⟨u,rfl,t,rfl⟩:=ym r;have hn:=we;exact len_str ⋯ ⟨.int z.length,H,I.tok _,⟨_,rfl⟩,q⟩
theorem Z6:vD X (.type "list") (λxs H Q=>∃p ys,xs=[.ref p]/\(SqL X.K H p ys\/SqT X.K H p ys)/\∀l,H l=none->Q (.ref l) (upd H l (.lst ys))):=by
 intro pins s σ H xs us Q I r h;obtain⟨p,ys,rfl,O,q⟩:=h;obtain⟨u,rfl,rx⟩:=ym r;cases rx;have Z : ∀(z:List Value),Vals ys z->ys.length<=sizeLine->∀(h':Heap) (J:Nat),(∀b o',s.heap.get? b=some o'->h'.get? b=some o')->
  h'.get? s.heap.objs.size=some {cls:= .type "list",dict:=none,data:= .seq z.toArray J,slots:=#[]}->EP X pins σ Q (.ref s.heap.objs.size) {s with heap:=h'}:=λz r' S h' J kp e=>
  ⟨.ref s.heap.objs.size,_,I.laid (t':=s.toks) kp (zgp _) (show ObjOk X.prog X.w _ h' _ (.lst ys)from⟨S,z,J,r',e⟩),rfl,q _ (I.hok.fresh (zgp _))⟩
 rcases O with O | O
 ·obtain⟨z,r',pl,S⟩:=I.list O
  have a1:=r'.length;obtain⟨o,U,Y,n,hd⟩:=pl.isList;exact call_list_seq p (.inl rfl) U Y hd (λh' J kp e=>Z z r' S h' J kp e) (by simp only [zgs]<;>omega)
 ·obtain⟨z,r',pl,S⟩:=I.tuple O
  have a1:=r'.length;obtain⟨o,U,Y,n,hd⟩:=pl;exact call_list_seq p (.inr rfl) U Y hd (λh' J kp e=>Z z r' S h' J kp e) (by simp only [zgs]<;>omega)
theorem Zg:vD X (.type "tuple") (λxs H Q=>∃p ys,xs=[.ref p]/\((SqL X.K H p ys/\∀l,H l=none->Q (.ref l) (upd H l (.tup ys)))\/(SqT X.K H p ys/\Q (.ref p) H))):=by
 intro pins s σ H xs us Q I r h;obtain⟨p,ys,rfl,h⟩:=h;obtain⟨u,rfl,U⟩:=ym r;cases U;rcases h with⟨z,q⟩ | ⟨z,q⟩
 ·obtain⟨J,r',pl,O⟩:=I.list z
  have Z:=r'.length;refine call_tuple_list pl.isList (λh' kp=>?_) (by simp only [zgs]<;>omega);have S:Inv X pins σ H {s with heap:=h'}:=I.kept (t':=s.toks) kp;have Y:Inv X pins σ (upd H h'.objs.size (.tup ys)) {s with heap:=h'.push {cls:= .type "tuple",data:= .seq J.toArray}}:=
   S.laid (t':=s.toks) (λb o e=>zgk _ e) (zgp _) (show ObjOk X.prog X.w _ _ _ (.tup ys)from⟨O,J,r',IsTupD.new _ _⟩)
  exact⟨.ref h'.objs.size,_,Y,rfl,q _ (S.hok.fresh (zgp _))⟩
 ·obtain⟨J,r',pl,O⟩:=I.tuple z
  exact call_tuple_same pl ⟨.ref p,H,I,rfl,q⟩
def tyV(K:PySem.W.Frag)(T:String)(x:V)(H:Hp):Prop:=match x with
 | .str _=>T = "str"
 | .int _=>T = "int"
 | .ref p=>(T = "list"/\∃xs,SqL K H p xs)\/(T = "tuple"/\∃o,K.lookup p=some o/\o.cls = .type "tuple"/\o.dict=none)\/
  (T = "dict"/\((∃kvs,H p=some (.dK kvs))\/∃kvs,H p=some (.dT kvs)))\/(T = "set"/\∃S n,H p=some (.set S n))
 | _=>False
theorem zbW{pins:List (Addr×Obj)}{σ:St}{H:Hp}{s:Shared}{T:String}{x:V}{v:Value}(I:Inv X pins σ H s)(r:RelV x v)(ty:tyV X.K T x H) :
 s.TypeIs v T/\∀a,v = .ref a->∃U,s.heap.get? a=some U/\U.dict=none:=by
 cases x with
 | str z=>
  obtain⟨t,rfl⟩:=r;cases (show T = "str" from ty);exact⟨typeIs_str s z t,λ_ e=>nomatch e⟩
 | int i=>
  obtain⟨t,rfl⟩:=r;cases (show T = "int" from ty);exact⟨typeIs_int s i t,λ_ e=>nomatch e⟩
 | ref p=>
  cases r;rcases ty with⟨rfl,xs,Y⟩ | ⟨rfl,o,J,Z,hd⟩ | ⟨rfl,J⟩ | ⟨rfl,S,n,J⟩
  ·obtain⟨a0,_,pl,_⟩:=I.list Y
   refine⟨pl.isList.typeIs,λa e=>?_⟩;cases e;obtain⟨o,n,e,c,hd,_⟩:=pl;exact⟨o,e,hd⟩
  ·refine⟨⟨o,I.kIn p o J,Z⟩,λa e=>?_⟩
   cases e;exact⟨o,I.kIn _ o J,hd⟩
  ·have z : ∃o,s.heap.get? p=some o/\o.ExactDict:=by
    rcases J with⟨kvs,J⟩ | ⟨kvs,J⟩
    ·obtain⟨_,_,_,_,o,_,_,e,ex,_⟩:=I.hok p _ J
     exact⟨o,e,ex⟩
    ·obtain⟨_,_,_,_,o,_,_,e,ex,_⟩:=I.hok p _ J
     exact⟨o,e,ex⟩
   obtain⟨o,e,ex⟩:=z;refine⟨⟨o,e,ex.1⟩,λa O=>?_⟩;cases O;exact⟨o,e,ex.2.1⟩
  ·obtain⟨o,_,_,_,e,ex,_⟩:=I.hok p _ J
   refine⟨⟨o,e,ex.1⟩,λa O=>?_⟩;cases O;exact⟨o,e,ex.2.1⟩
 | _=>exact zhU ty
def tBM(K:PySem.W.Frag)(T:String)(r:V->List V->Hp->VK->Prop)(to:TE)(t:TA):TE:=λσ H Q=>to σ H λx H1=>tyV K T x H1/\t σ H1 λxs H2=>r x xs H2 Q
variable{o e:Expr}{es:List Expr}{to:TE}{t:TA}{name:Str}{apos cpos:Pos}{T id:String}{r:V->List V->Hp->VK->Prop}
theorem zcH(S:PlainAttrs T)(slot:Slot T name id)(U:typeOf (.builtin id)=pure (.type "method_descriptor"))(hm:MtR X id r)(Y:PE X o to)(ha:PA X (e::es) t)
 (Z:attributeBase o name X.env (eval o X.env)=eval o X.env:=by rfl)
 (a0:((backTo cpos (starEach (e::es) X.env)).all (λx=> !x.1) && (backToKw cpos (keywordEach [] X.env)).all (λx=>x.1.isSome)
   && decide ((e::es).length+([]:List Keyword).length+(if ([]:List Keyword).isEmpty then 0 else 1)<30))=true:=by rfl)
 (a1:(apos.endLine==cpos.line)=true:=by rfl) (hs:starEach (e::es) X.env=(false,eval e X.env)::starEach es X.env:=by rfl) (a3:(backTo cpos (starEach es X.env)).any (·.1)=false:=by rfl) :
 PE X (.Call (.Attribute o name apos) (e::es) [] cpos) (tBM X.K T r to t):=by
 intro pins s σ H Q I h;refine wpAny_Call_method_late Z a0 a1 rfl (thn (Y pins s σ H _ I h) λv s1 hZ=>?_);obtain⟨x,H1,z,J,ty,q1⟩:=hZ;obtain⟨h1,h2⟩:=zbW z J ty;refine⟨T,id,S,slot,U,h1,h2,?_⟩;have O:=ha cpos pins s1 σ H1 _ z q1;rw [hs]at O ⊢;refine Calls.callWith_builtin (by show(false || (backTo cpos (starEach es X.env)).any (·.1))=false;rw [a3]<;>rfl) (Calls.evalArgs_plain ?_);exact thn O λus s2 ⟨vs,H2,I2,r2,q2⟩=>hm pins s2 σ H2 x vs v us Q I2 J r2 q2
end
def MtM(X:Cx)(id:String)(r:V->List V->Hp->VK->Prop):Prop:=
 ∀(pins:List (Addr×Obj)) (s:Shared) (σ:St) (H:Hp) (x:V) (xs:List V) (v:Value) (us:List Value) (Q:VK),Inv X pins σ H s->RelV x v->Vals xs us->r x xs H Q->
  wpAny (model X.prog X.w) X.A (call (.builtin id) (v::us)) (EP X pins σ Q) X.xe s
theorem Vals.one : ∀{x:V} {us:List Value},Vals [x] us->∃u,us=[u]/\RelV x u
 | _,_,.cons r .nil=>⟨_,rfl,r⟩
theorem Vals.dropLast{xs:List V}{us:List Value}(h:Vals xs us):Vals xs.dropLast us.dropLast:=by
 induction h with
 | nil=>exact .nil
 | cons r t z=>
  cases t with
  | nil=>exact .nil
  | cons q t'=>exact .cons r z
theorem Vals.rep{xs:List V}{us:List Value}(h:Vals xs us) : ∀k:Nat,Vals (zgm k xs).flatten (zgm k us).flatten
 | 0=> .nil
 | k+1=>by
  rw [zhF,zhF,zhX,zhX];exact Vals.append h (Vals.rep h k)
theorem Z3(z:List Value) : ∀(k:Nat) (acc:List Value),
 List.foldl (λx1 I=>x1++I) acc.toArray (zgm k z.toArray)=(acc++(zgm k z).flatten).toArray
 | 0,acc=>by simp
 | k+1,acc=>by
  have e:acc.toArray++z.toArray=(acc++z).toArray:=by simp
  have J:(acc++z)++(zgm k z).flatten=acc++(zgm (k+1) z).flatten:=by
   rw [zhF,zhX,List.append_assoc]
  rw [<- J,<- Z3 z k (acc++z),<- e,zhF,List.foldl_cons]
section
variable{X:Cx}{pins:List (Addr×Obj)}{σ:St}{H:Hp}{s:Shared}{l b:Addr}{xs ys zs:List V}
theorem Inv.lset{z its':List Value}{n:Nat}{f:Array Value->Array Value}{t':Nat}(I:Inv X pins σ H s)(J:H l=some (.lst xs))
 (e:s.heap.get? l=some {cls:= .type "list",data:= .seq z.toArray n}) (O:f z.toArray=its'.toArray) (S:Vals ys its') (U:ys.length<=sizeLine) :
 Inv X pins σ (upd H l (.lst ys)) {s with heap:=s.heap.update l (Obj.mapSeq f),toks:=t'}:=by
 have q:=PySem.IsL.update e f;rw [O]at q;refine I.write (x:=l) (e:=l) (by rw [J];exact trivial) (.inl rfl) (λb' u Y Z=>(Heap.get?_update_other s.heap (Obj.mapSeq f) (zht Y)).trans Z) ⟨_,q⟩ ?_;exact⟨U,its',_,S,q⟩
theorem Inv.lnew{z:List Value}{t':Nat}(I:Inv X pins σ H s)(J:Vals ys z)(O:ys.length<=sizeLine) :
 Inv X pins σ (upd H s.heap.objs.size (.lst ys)) {s with heap:=s.heap.push {cls:= .type "list",data:= .seq z.toArray},toks:=t'}:=
 I.laid (λ_ _ q=>zgk _ q) (zgp _) ⟨O,z,0,J,zgu _ rfl⟩
theorem Inv.fresh(I:Inv X pins σ H s):H s.heap.objs.size=none:=I.hok.fresh (zgp _)
theorem Inv.lstM(I:Inv X pins σ H s)(O:H l=some (.lst xs)):xs.length<=sizeLine/\∃(J:List Value) (n:Nat),Vals xs J/\xs.length=J.length/\s.heap.get? l=some {cls:= .type "list",data:= .seq J.toArray n}:=by
 obtain⟨z,J,n,r,e⟩:=I.hok l _ O;exact⟨z,J,n,r,r.length,e⟩
theorem VI{n:Nat}(h:n<=sizeLine):ziG n=false:=by
 unfold ziG;exact decide_eq_false ⋯
end
section
variable{X:Cx}
def Kp:V->List V->Hp->VK->Prop:=λx vs H Q=>∃l xs y,x = .ref l/\vs=[y]/\H l=some (.lst xs)/\xs.length<sizeLine/\Q .non (upd H l (.lst (xs++[y])))
theorem KL:MtM X "list.append" Kp:=by
 intro pins s σ H x vs v us Q I S U h;obtain⟨l,xs,y,rfl,rfl,J,Z,q⟩:=h;cases S;obtain⟨u,rfl,Y⟩:=U.one;obtain⟨z,O,n,r,hl,e⟩:=I.lstM J;refine zi7 F.slot_list_append ⟨_,e,rfl⟩ F.entry_list_append (F.args_list_append_2 _ _) (PySem.list_append l O.toArray n u (by rw [zgs];omega)) ⟨e,?_⟩;refine⟨.non,_,I.lset (its':=O++[u]) J e ⋯ (r.append (.cons Y .nil)) ?_,rfl,q⟩;rw [zhq,ziB];omega
def zaE:V->List V->Hp->VK->Prop:=λx vs H Q=>∃l b xs zs,x = .ref l/\vs=[.ref b]/\H l=some (.lst xs)/\H b=some (.lst zs)/\xs.length+zs.length<=sizeLine/\Q .non (upd H l (.lst (xs++zs)))
theorem KK:MtM X "list.extend" zaE:=by
 intro pins s σ H x vs v us Q I U Y h;obtain⟨l,b,xs,zs,rfl,rfl,S,Z,hz,q⟩:=h;cases U;obtain⟨u,rfl,ru⟩:=Y.one;cases ru;obtain⟨z,J,n,r,hl,e⟩:=I.lstM S;obtain⟨z2,O,n2,r2,a6,e2⟩:=I.lstM Z;have hsz:J.toArray.size+O.toArray.size<=sizeLine:=by rw [zgs,zgs];omega
 have a3 : ¬(!J.toArray.isEmpty && ziG (J.toArray.size+O.toArray.size))=true:=by
  rw [VI hsz,Bool.and_false];exact zgB
 refine zi7 F.slot_list_extend ⟨_,e,rfl⟩ F.entry_list_extend (F.args_list_extend_2 _ _)
  (AutoSeq1.list_extend_list_list_0 l J.toArray n b O.toArray n2 a3 (by rw [zgs];omega) ⋯) ⟨e,e2,?_⟩
 refine⟨.non,_,I.lset (its':=J++O) S e ⋯ (r.append r2) ?_,rfl,q⟩;rw [zhq];omega
theorem KR{α:Type}(xs:List α)(k:Nat):(zgm k xs).flatten.length=k*xs.length:=by
 induction k with
 | zero=>simp
 | succ k z=>rw [zhF,zhX,zhq,z,Nat.succ_mul,Nat.add_comm]
end
end L2
namespace Att
open PySem PySem.W PySem.Calls PyProof.Rows
theorem vg{P:Params}{h:Heap} : ∀(ns:List Int) (vs:List Value),WellAll P h vs (ns.map WData.int)->IntsAre vs ns:=by
 intro ns
 induction ns with
 | nil=>
  intro vs w;rw [List.map_nil]at w;cases w;exact .nil
 | cons n ns z=>
  intro vs w;rw [zgO]at w;cases w with
  | cons a b=>
   cases a;exact .cons _ _ (z _ b)
theorem Kf{l:OpenLaw}{n:Nat}(hn:l.most=some n){P:Params}{h:Heap}{args:List WData}{J:List Value}
 (O:l.row.toRowW.claim.pre args=true) (U:WellAll P h J args) :
 ∃a vs ns,J=[zgK a]/\args=[WData.list (ns.map WData.int)]/\h.get? a=some {cls:= .type "list",data:= .seq vs.toArray}/\IntsAre vs ns/\ns.length<=n:=by
 have Y:WShape.hasAll [] args [.list .int]=true:=(pre_splitW O).1;have S:l.pre.holds [] {args:=args}=true:=(pre_splitW O).2;obtain⟨d,r,rfl,h1,h2⟩:=hasAllW_cons Y;obtain rfl:=hasAllW_nil h2;obtain⟨xs,rfl,Z⟩:=hasW_list h1;obtain⟨ns,rfl⟩:=items_int Z;have a0:ns.length<=n:=by
  unfold OpenLaw.pre at S;have z:(WTm.not (.lt (.lit (.int (n:Int))) (.len (.arg 0)))).holds [] {args:=[.list (ns.map .int)]}=true:=by
   have z:=(holds_andW S).1;rw [hn]at z;exact z
  have I:=condW_of z (w_not (w_lt w_lit (w_len_list (w_arg rfl))));rw [zgH]at I;refine Nat.le_of_not_lt λq=>?_;have q':(n:Int)<((ns.length:Nat):Int):=by omega
  first
   | (rw [decide_eq_true q']at I;exact absurd I ⋯)
   | (simp at I;omega)
 cases U with
 | cons w1 w2=>
  cases w2;cases w1 with
  | list ho a3=>exact⟨_,_,ns,rfl,rfl,ho,vg ns _ a3,a0⟩
theorem Kz(l:OpenLaw)(args:List WData):l.row.toRowW.claim.post args (.bool true) args=true:=
 postW_of (r:=l.row.toRowW) (X:=(true==true))
  (show WShape.has [] (.bool true) .bool=true by first | rfl | decide | simp [WShape.has,WShape.arms,WShape.armsAll])
  (show(WTm.eq .res (.lit (.bool true))).value [] {args:=args,res:=some (.bool true),after:=args}=some (.bool (true==true))from w_eq_bool (w_res rfl) w_lit) rfl
theorem attach_call{l:OpenLaw}{n:Nat}{q:Program}{J:List Str}{O:(Str->Option Value)->Heap->Prop}{S:World->Heap->Prop}{d:DefRec}
 (hn:l.most=some n) (Z:d.params.defaults=[])
 (call : ∀(w:World) (s₀ z:Shared) (mg mb:Str->Option Value) (fa:Addr) (o:Obj) (pm I doc:Value) (a:Addr) (vs:List Value) (ns:List Int),
   Ground q J [] O w s₀ mg mb z.heap->S w z.heap->
   z.heap.get? fa=some o->o.data = .func (docDef d.name d.params d.body d.scope pm I doc)->z.heap.CodeRec I d.name->mg d.name=some (.ref fa)->
   z.heap.get? a=some {cls:= .type "list",data:= .seq vs.toArray}->IntsAre vs ns->ns.length<=n->z.gens = #[]->
   codeAny (model l.prog w) callerA (.call (.ref fa) ⟨[.ref a],[]⟩) (λr s'=>r = .ok (.ret (.bool true))/\OldK z.heap s'.heap/\s'.os=z.os/\AllBare s'.gens) z) :
 WalkO q J O S l.row.toRowW d [] (λf vs=>PySem.call f vs):=by
 intro w s₀ z mg mb G Y fa o pm I doc dV kV ho hd a2 U a3 hg args ad as a5 af ag a6 ah;obtain rfl:dV = .none:=Dflts.none U Z;obtain rfl:kV = .none:=Dflts.noKw U;obtain⟨a,vs,ns,rfl,rfl,a7,a8,a9⟩:=Kf hn a5 a6;refine enter_call (zjo (call w s₀ z mg mb fa o pm I doc a vs ns G Y ho (fd_plain hd) a2 a3 a7 a8 a9 hg) λr s' hq=>?_);obtain⟨rfl,h2,h3,h4⟩:=hq;exact⟨.inl ⟨.bool true,.bool true,[],rfl,λ_=>rfl,.bool true,Kz l _,λ_=>⟨zis.nil,λ_ hm=>(nomatch hm)⟩⟩,h2,h3,h4⟩
end Att
namespace L2
open PySem PySem.Spec PyProof.Rows
theorem kj : ∀{vs:List Value} {ns:List Int},IntsAre vs ns->Vals (ns.map V.int) vs
 | _,_,.nil=> .nil
 | _,_,.cons n t h=> .cons ⟨t,rfl⟩ (kj h)
def zea(H:Hp):Prop:=∀b,H b=none\/∃o xs,H b=some (.frz o (.lst xs))
theorem VU{P:Program}{w:World}{K:PySem.W.Frag}{mg mb:Str->Option Value}{CX:CXT}{k:Nat}{fa a:Addr}{fd:FuncData}{x:Str}{sp:Sp}{I:Shared}{vs:List Value}{ns:List Int}
 (Y:K.In I.heap) (Z:I.heap.Ns mainGlobals mg) (J:I.heap.Ns builtinsNs mb) (a7 : ∀x:Str,x ≠ "__name__"->mb x=bootBuiltins x) (a8:I.heap.NoLimit) (hg:I.gens = #[])
 (ha:I.heap.get? a=some {cls:= .type "list",data:= .seq vs.toArray}) (hi:IntsAre vs ns) (hl:ns.length<=sizeLine) (hr:Room k callerA)
 (F : ∀base:Heap,K.In base->base.Ns mainGlobals mg->FnOk P w K mg base CX k fa fd [x] sp) (ab : ∀(s:Shared) (u:Value),BindsTo s fd ⟨[u],[]⟩ [(x,u)])
 (ac : ∀H:Hp,zea H->SqL K H a (ns.map V.int)->sp [.ref a] H (λv _=>v = .bl true) λ_ _ _=>False)
 (ad : ∀H e s',CX [] H I (λ_ _ _=>False) e s'->False) :
 codeAny (model P w) callerA (.call (.ref fa) ⟨[.ref a],[]⟩) (λr s'=>r = .ok (.ret (.bool true))/\OldK I.heap s'.heap/\s'.os=I.os/\AllBare s'.gens) I:=by
 have rv:=kj hi;have ae:=hi.length;have a2 : ∀H:Hp,zea H->SqL K H a (ns.map V.int)->HOk P w H I.heap->(∀b,H b≠none->b=a)->(H a≠none->K.lookup a=none)->
  codeAny (model P w) callerA (.call (.ref fa) ⟨[.ref a],[]⟩) (λr s'=>r = .ok (.ret (.bool true))/\OldK I.heap s'.heap/\s'.os=I.os/\AllBare s'.gens) I:=by
  intro H hO hS hok hA hK;have a5 : ∀{b:Addr} {o:Obj},I.heap.get? b=some o->H b=none->(V3 I.heap H).get? b=some o:=λe n=>V2 e n;have ah : ∀{b:Addr} {o:Obj} {es:Array DictEntry} {ep:Nat},I.heap.get? b=some o->o.data = .dict es ep->H b=none:=λ{b o es ep} e d=>by
   cases q:H b with
   | none=>rfl
   | some u=>
    have U:b=a:=hA b (by rw [q];simp);subst U;rw [ha]at e;cases e;have d':Data.seq vs.toArray _=Data.dict es ep:=d;cases d'
  have S : ∀{b:Addr} {m:Str->Option Value},I.heap.Ns b m->(V3 I.heap H).Ns b m:=λ{b m} ⟨o,es,ep,e,d,r⟩=>⟨o,es,ep,a5 e (ah e d),d,r⟩;have a6:K.In (V3 I.heap H):=λb o e=>a5 (Y b o e) (by
   cases q:H b with
   | none=>rfl
   | some u=>
    have U:b=a:=hA b (by rw [q];simp);subst U;rw [hK (by rw [q];simp)]at e;cases e)
  have hM:Mod K mg (V3 I.heap H):=⟨a6,S Z,⟨mb,S J,a7⟩,let ⟨mc,h1,h2⟩:=a8;⟨mc,S h1,h2⟩⟩;have e0:Env0 P w K mg (V3 I.heap H) callerA [] I H:=⟨rfl,hM,λb o e=>za0 e,Nat.le_of_eq (K8 _ _),trivial,λb J=>absurd (show b∈([]:List Addr)from J) ⋯,hok,.of_eq hg⟩;refine zjo ((F _ a6 (S Z)).run callerA [] I H ⟨[.ref a],[]⟩ [.ref a] [.ref a] _ _ hr e0 (ab I (.ref a)) (.cons rfl .nil) (ac H hO hS)) λr s' h=>?_;cases r with
  | error e=>exact(ad H e s' h).elim
  | ok fl=>
   cases fl with
   | next=>exact zhU h
   | brk=>exact zhU h
   | cont=>exact zhU h
   | ret u=>
    obtain⟨v,H',os,bare,un,am,r',q⟩:=h;have q':v = .bl true:=q;subst q';obtain rfl:u=zjx true:=r';refine⟨rfl,OldK.of_keep λb o e=>?_,os,bare⟩;cases q:H b with
    | none=>exact un.keep b o e q (by intro z;exact absurd (show b∈([]:List Addr)from z) ⋯) ⋯
    | some u=>
     rcases hO b with z | ⟨ob,xs,z⟩
     ·rw [q]at z;cases z
     ·have z2:=un.frzs b ob _ z
      obtain⟨e1,_⟩:=hok b _ z;obtain⟨e2,_⟩:=am b _ z2;rw [e]at e1;cases e1;exact e2
 cases hk:K.lookup a with
 | some o=>
  have e:=Y a o hk;rw [ha]at e;cases e;refine a2 (λ_=>none) (λ_=> .inl rfl) (.inr ⟨_,vs.toArray,_,hk,rfl,rfl,rfl,by rw [zgs,ae];exact hl,by simpa using rv⟩) (λb u z=>by have O:(none:Option HO)=some u:=z;cases O) (λb z=>absurd rfl z) λz=>absurd rfl z
 | none=>
  refine a2 (λb=>if b=a then some (.frz {cls:= .type "list",data:= .seq vs.toArray} (.lst (ns.map V.int)))else none) (λb=>?_) (.inl (.inr ⟨{cls:= .type "list",data:= .seq vs.toArray},if_pos rfl⟩)) (λb u z=>?_) (λb z=>?_) λ_=>hk
  ·by_cases J:b=a
   ·exact .inr ⟨_,_,if_pos J⟩
   ·exact .inl (if_neg J)
  ·by_cases J:b=a
   ·have O:=(if_pos J).symm.trans z
    cases O;subst J;exact⟨ha,by rw [zgH];exact hl,vs,_,rv,ha⟩
   ·have O:=(if_neg J).symm.trans z
    cases O
  ·by_cases J:b=a
   ·exact J
   ·exact absurd (if_neg J) z
abbrev KOf{K:PySem.W.Frag}{h:Heap}(_:K.In h):PySem.W.Frag:=K
theorem zag{l:PySem.W.OpenLaw}{n k:Nat}{q:Program}{O:List Str}{S:(Str->Option Value)->Heap->Prop}{z:World->Heap->Prop}{d:DefRec}{K:Params->PySem.W.Frag}{CX:World->CXT}{sp:World->Sp}{x:Str}
 (hn:l.most=some n) (U:n<=sizeLine) (Z:d.params.defaults=[]) (hr:Room k callerA)
 (hY : ∀(w:World) (h:Heap),z w h->(K w.params).In h)
 (F : ∀(w:World) (mg:Str->Option Value) (fa:Addr) (h:Heap),(K w.params).In h->h.Ns mainGlobals mg->mg d.name=some (.ref fa)->
   ∃fd:FuncData,(∀(s:Shared) (u:Value),BindsTo s fd ⟨[u],[]⟩ [(x,u)])/\
    ∀base:Heap,(K w.params).In base->base.Ns mainGlobals mg->FnOk l.prog w (K w.params) mg base (CX w) k fa fd [x] (sp w))
 (a2 : ∀(w:World) (H:Hp) (a:Addr) (ns:List Int),ns.length<=n->zea H->SqL (K w.params) H a (ns.map V.int)->sp w [.ref a] H (λv _=>v = .bl true) λ_ _ _=>False)
 (a3 : ∀(w:World) (H:Hp) (s:Shared) (e:Value) (s':Shared),CX w [] H s (λ_ _ _=>False) e s'->False) :
 PySem.W.WalkO q O S z l.row.toRowW d [] (λf vs=>PySem.call f vs):=by
 refine Att.attach_call hn Z λw s₀ s₁ mg mb fa o pm cd doc a vs ns G Y ho hd af a5 a6 a7 I hg=>?_;have J:=hY w _ Y;obtain⟨fd,hb,hF⟩:=F w mg fa _ J G.T.g a5;exact VU J G.T.g G.T.b G.T.builtins G.T.nolimit hg a6 a7 (zhh I U) hr hF hb (λH hO hS=>a2 w H a ns I hO hS) λH e s'=>a3 w H s₁ e s'
theorem walk_ofK{l:PySem.W.OpenLaw}{n k:Nat}{q:Program}{I:List Str}{J:(Str->Option Value)->Heap->Prop}{z:World->Heap->Prop}{d:DefRec}{K:Params->PySem.W.Frag}{CX:CXT}{sp:PySem.W.Frag->Sp}{x:Str}
 (hn:l.most=some n) (O:n<=sizeLine) (S:d.params.defaults=[]) (U:Room k callerA)
 (Y : ∀(w:World) (h:Heap),z w h->(K w.params).In h)
 (F : ∀(w:World) (mg:Str->Option Value) (fa:Addr) (h:Heap),(K w.params).In h->h.Ns mainGlobals mg->mg d.name=some (.ref fa)->
   ∃fd:FuncData,(∀(s:Shared) (u:Value),BindsTo s fd ⟨[u],[]⟩ [(x,u)])/\
    ∀base:Heap,(K w.params).In base->base.Ns mainGlobals mg->FnOk l.prog w (K w.params) mg base CX k fa fd [x] (sp (K w.params)))
 (Z : ∀(K:PySem.W.Frag) (H:Hp) (a:Addr) (ns:List Int),ns.length<=n->zea H->SqL K H a (ns.map V.int)->sp K [.ref a] H (λv _=>v = .bl true) λ_ _ _=>False)
 (a0 : ∀(H:Hp) (s:Shared) (e:Value) (s':Shared),CX [] H s (λ_ _ _=>False) e s'->False) :
 PySem.W.WalkO q I J z l.row.toRowW d [] (λf vs=>PySem.call f vs):=
 zag (K:=K) (CX:=λ_=>CX) (sp:=λw=>sp (K w.params)) hn O S U Y F (λw H a ns h1 h2 h3=>Z (K w.params) H a ns h1 h2 h3) λ_ H s e s'=>a0 H s e s'
def defArgs(s:Stmt):Arguments:=match s with
 | .FunctionDef _ a _ _ _ _ _ _ _ _=>a
 | _=>{posonlyargs:=[],args:=[],vararg:=none,kwonlyargs:=[],kw_defaults:=[],kwarg:=none,defaults:=[]}
def defBody(s:Stmt):List Stmt:=match s with
 | .FunctionDef _ _ b _ _ _ _ _ _ _=>b
 | _=>[]
def defScope(s:Stmt):Scope:=match s with
 | .FunctionDef _ _ _ _ _ _ sc _ _ _=>sc
 | _=>{kind:= .function,names:=[],isGenerator:=false,isCoroutine:=false}
abbrev CX0:CXT:=λ_ _ _ _ _ _=>False
abbrev E0:XK:=λ_ _ _=>False
theorem ZO{X:Cx}:wt CX0 X E0:=λ_ _ _ _ _ _ _ h=>h.elim
structure Fun(K:PySem.W.Frag)(x qual:Str)(st:Stmt)(f:Addr)(fd:FuncData):Prop where
 ex : ∃(oc:Value) (od:Option Addr) (kV doc pm:Value) (an:Option Addr) (cdv ct:Value) (osl:Array (Option Value)),
  fd=PySem.W.fnOf x qual (defArgs st) (defBody st) (defScope st) .none kV doc pm an cdv ct/\K.lookup f=some ⟨oc,od,.func fd,osl⟩/\PySem.W.codeIn K cdv qual=true
 kp:PySem.W.keepIn K (.ref f)=true
section
variable{P:Program}{w:World}{K:PySem.W.Frag}{mg:Str->Option Value}{base:Heap}
theorem Fun.ok{x qual:Str}{st:Stmt}{f:Addr}{fd:FuncData}{N ps:List Str}{k:Nat}{sp:Sp}(F:Fun K x qual st f fd)(S:FnScope N ps (defScope st))(len : ∀vs H Q E,sp vs H Q E->vs.length=ps.length)
 (z : ∀(cdv:Value) (A:Around) (outer:List Env) (s:Shared) (H:Hp) (vs:List V) (Q:VK) (E:XK),Room k (A.deeper (envOfC qual (defScope st) s.heap.objs.size f cdv))->sp vs H Q E->
   ∃t,PSs (zbp CX0 P w K mg base N qual (defScope st) f cdv A outer s H E).nox (defBody st) t/\t {nx:=λ_ H'=>Q .non H',rt:=Q} (start N vs) H):FnOk P w K mg base CX0 (k+1) f fd ps sp:=by
 obtain⟨oc,od,kV,doc,pm,an,cdv,ct,osl,rfl,lk,I⟩:=F.ex;refine zeX lk I S len λA outer s H vs Q E J O=>?_;obtain⟨t,h,q⟩:=z cdv A outer s H vs Q E J O;exact⟨t,h.nox,q⟩
theorem Fun.binds{x qual:Str}{st:Stmt}{f:Addr}{fd:FuncData}{ps:List Str}(F:Fun K x qual st f fd)
 (h : ∀(kV doc pm:Value) (an:Option Addr) (cdv ct:Value) (us:List Value),us.length=ps.length->bindArgs (PySem.W.fnOf x qual (defArgs st) (defBody st) (defScope st) .none kV doc pm an cdv ct) ⟨us,[]⟩=pure (ps.zip us)):Binds K fd ps []:=by
 obtain⟨oc,od,kV,doc,pm,an,cdv,ct,osl,rfl,lk,z⟩:=F.ex;exact .all (h kV doc pm an cdv ct)
theorem QG{x qual:Str}{st:Stmt}{f:Addr}{oc:Value}{od an:Option Addr}{osl:Array (Option Value)}{kV doc pm cdv ct:Value}(l:K.lookup f=some ⟨oc,od,.func (PySem.W.fnOf x qual (defArgs st) (defBody st) (defScope st) .none kV doc pm an cdv ct),osl⟩)
 (c:PySem.W.codeIn K cdv qual=true) (k:PySem.W.keepIn K (.ref f)=true):Fun K x qual st f (PySem.W.fnOf x qual (defArgs st) (defBody st) (defScope st) .none kV doc pm an cdv ct):=⟨⟨oc,od,kV,doc,pm,an,cdv,ct,osl,rfl,l,c⟩,k⟩
end
def Same(H H':Hp):Prop:=∀b o,H b=some o->H' b=some o
theorem Same.refl(H:Hp):Same H H:=λ_ _ h=>h
theorem Same.trans{H H1 H2:Hp}(a:Same H H1)(b:Same H1 H2):Same H H2:=λc o h=>b c o (a c o h)
theorem Same.free{H H':Hp}(e:Same H H'){l:Addr}(h:H' l=Option.none):H l=Option.none:=by
 cases q:H l with
 | none=>rfl
 | some o=>
  rw [e l o q]at h;cases h
theorem Same.seq{K:PySem.W.Frag}{H H':Hp}{a:Addr}{xs:List V}(e:Same H H')(h:SqL K H a xs):SqL K H' a xs:=by
 rcases h with(h | ⟨o,h⟩) | h
 ·exact .inl (.inl (e _ _ h))
 ·exact .inl (.inr ⟨o,e _ _ h⟩)
 ·exact .inr h
def Zp(cells:List (Str×Addr)):List (Str×NameKind)->List (Str×Addr)->List (Str×Addr)
 | [],acc=>acc
 | (n,k)::r,acc=>Zp cells r (if k==NameKind.free then (match cells.lookup n with | some c=>(n,c)::acc | none=>acc)else acc)
theorem xv{env:Env}(f:Str×NameKind->List (Str×Addr)->Sem (ForInStep (List (Str×Addr))))
 (I : ∀name kind J,f (name,kind) J=if kind==NameKind.free then (do let a <- cellOf env name;pure (.yield ((name,a)::J)))else pure (.yield J)) :
 ∀(names:List (Str×NameKind)) (acc:List (Str×Addr)),(∀n,(n,NameKind.free)∈names->∃c,env.cells.lookup n=some c)->
  forIn names acc f=(pure (Zp env.cells names acc):Sem _)
 | [],acc,_=>by rw [List.forIn_nil];rfl
 | (n,k)::r,acc,h=>by
  rw [List.forIn_cons,I];have O : ∀n,(n,NameKind.free)∈r->∃c,env.cells.lookup n=some c:=λm hm=>h m (zgJ _ hm);unfold Zp;by_cases z:(k==NameKind.free)=true
  ·rw [if_pos z,if_pos z]
   have U:k=NameKind.free:=by simpa using z
   subst U;obtain⟨c,S⟩:=h n zgI;have e:cellOf env n=pure c:=by unfold cellOf;rw [S]
   rw [e,S];exact xv f I r _ O
  ·rw [if_neg z,if_neg z]
   exact xv f I r acc O
theorem Zd{scope:Scope}{env:Env}(h : ∀n,(n,NameKind.free)∈scope.names->∃c,env.cells.lookup n=some c) :
 closureFor scope env=pure (Zp env.cells scope.names []):=by
 simp only [closureFor];rw [xv (env:=env) _ (λname kind z=>by cases hk:kind==NameKind.free<;>simp [hk]) scope.names [] h];rfl
theorem qI{M:Model}{A:Around}{E:Value->Shared->Prop}{s:Shared}{scope:Scope}{globals:Addr}{cl:List (Str×Addr)}{qual:Str}{env:Env}{Q:Env->Shared->Prop}
 (z:Q {scope:=scope,locals:=s.heap.objs.size,globals:=globals,cells:=cellsFrom (s.heap.objs.size+1) scope.names cl,qual:=qual,func:=none,code:=env.code,frame:=env.frame,builtins:=env.builtins}
   {s with heap:=pushCells (s.heap.push {cls:= .type "dict",data:= .dict #[]}) scope.names}) :
 wpAny M A (newFunctionEnv scope globals cl [] qual none .none (some env)) Q E s:=by
 simp only [newFunctionEnv,Option.isSome_some,if_true];refine zgi (wpAny_alloc ?_);refine zgi (wpAny_layCells _ (λname kind cells=>by cases hkc:kind==zhV<;>simp [hkc]) _ _ _ _ ?_);rw [show({s with heap:=s.heap.push {cls:= .type "dict",data:= .dict #[]}}:Shared).heap.objs.size=s.heap.objs.size+1 from zgW ..];exact zgi (zgo (zgo z))
theorem Qv{cells:List (Str×Addr)}{n:Str}{c:Addr} : ∀{names:List (Str×NameKind)} {acc:List (Str×Addr)},(n,c)∈Zp cells names acc->(n,c)∈acc\/((n,NameKind.free)∈names/\cells.lookup n=some c)
 | [],acc,h=> .inl h
 | (m,k)::r,acc,h=>by
  unfold Zp at h;rcases Qv h with g | ⟨h1,h2⟩
  ·clear h
   by_cases z:(k==NameKind.free)=true
   ·rw [if_pos z]at g
    have I:k=NameKind.free:=by simpa using z
    subst I;cases e:cells.lookup m with
    | none=>rw [e]at g;exact .inl g
    | some J=>
     rw [e]at g;rcases zgz.mp g with g | g
     ·cases g;exact .inr ⟨zgI,e⟩
     ·exact .inl g
   ·rw [if_neg z]at g;exact .inl g
  ·exact .inr ⟨zgJ _ h1,h2⟩
theorem y9{cells:List (Str×Addr)}{n:Str} : ∀{names:List (Str×NameKind)} {acc:List (Str×Addr)},((acc.lookup n).isSome=true\/((n,NameKind.free)∈names/\(cells.lookup n).isSome=true))->((Zp cells names acc).lookup n).isSome=true
 | [],acc,h=>by
  rcases h with h | ⟨h,_⟩
  ·exact h
  ·cases h
 | (m,k)::r,acc,h=>by
  unfold Zp;apply y9;by_cases z:(k==NameKind.free)=true
  ·rw [if_pos z]
   have J:k=NameKind.free:=by simpa using z
   subst J;cases e:cells.lookup m with
   | none=>
    rcases h with h | ⟨h1,h2⟩
    ·exact .inl h
    ·rcases zgz.mp h1 with h1 | h1
     ·cases h1;rw [e]at h2;cases h2
     ·exact .inr ⟨h1,h2⟩
   | some O=>
    dsimp only;by_cases I:n=m
    ·subst I;left;simp
    ·rcases h with h | ⟨h1,h2⟩
     ·left;rw [zhb];split<;>simp_all
     ·rcases zgz.mp h1 with h1 | h1
      ·cases h1;exact absurd rfl I
      ·exact .inr ⟨h1,h2⟩
  ·rw [if_neg z]
   rcases h with h | ⟨h1,h2⟩
   ·exact .inl h
   ·rcases zgz.mp h1 with h1 | h1
    ·cases h1;exact absurd rfl z
    ·exact .inr ⟨h1,h2⟩
theorem ql{n:Str}{c:Addr} : ∀{names:List (Str×NameKind)} {k:Nat} {acc:List (Str×Addr)},(n,c)∈cellsFrom k names acc->(n,c)∈acc\/(k<=c/\(n,zhV)∈names)
 | [],_,_,h=> .inl h
 | (m,kd)::r,k,acc,h=>by
  unfold cellsFrom at h;split at h
  ·rename_i z
   have I:kd=zhV:=by simpa using z
   subst I;rcases ql h with h | ⟨h1,h2⟩
   ·rcases zgz.mp h with h | h
    ·cases h;exact .inr ⟨zgp _,zgI⟩
    ·exact .inl h
   ·exact .inr ⟨by omega,zgJ _ h2⟩
  ·rcases ql h with h | ⟨h1,h2⟩
   ·exact .inl h
   ·exact .inr ⟨h1,zgJ _ h2⟩
theorem qV : ∀{names:List (Str×NameKind)} {k:Nat} {acc:List (Str×Addr)},(∀p∈acc,∀q∈acc,p.2=q.2->p.1=q.1)->(∀p∈acc,p.2<k)->
 ∀p∈cellsFrom k names acc,∀q∈cellsFrom k names acc,p.2=q.2->p.1=q.1
 | [],_,_,h,_=>h
 | (m,kd)::r,k,acc,h,hl=>by
  unfold cellsFrom;split
  ·refine qV (λp z q I e=>?_) (λp z=>?_)
   ·rcases zgz.mp z with rfl | z<;>rcases zgz.mp I with rfl | I
    ·rfl
    ·have J:k=q.2:=e
     exact absurd (J ▸ hl q I) (zgZ _)
    ·have J:p.2=k:=e
     exact absurd (J ▸ hl p z) (zgZ _)
    ·exact h p z q I e
   ·rcases zgz.mp z with rfl | z
    ·exact zhx _
    ·exact zhm (hl p z)
  ·exact qV h hl
theorem vm : ∀{names:List (Str×NameKind)} {h:Heap} {acc:List (Str×Addr)} {n:Str} {c:Addr},(n,c)∈cellsFrom h.objs.size names acc->(n,c)∈acc\/(pushCells h names).IsCell c none
 | [],_,_,_,_,hm=> .inl hm
 | (m,kd)::r,h,acc,n,c,hm=>by
  unfold cellsFrom at hm;unfold pushCells;split at hm
  ·rename_i z
   rw [if_pos z];have e:h.objs.size+1=(h.push {cls:= .type "cell",data:= .cell none}).objs.size:=(zgW ..).symm;rw [e]at hm;rcases vm hm with hm | hm
   ·rcases zgz.mp hm with hm | hm
    ·cases hm
     have I:(h.push {cls:= .type "cell",data:= .cell none}).IsCell h.objs.size none:=⟨{cls:= .type "cell",data:= .cell none},zgu _ rfl,rfl⟩;exact .inr (I.keeps λb o q=>ziU _ _ b o q)
    ·exact .inl hm
   ·exact .inr hm
  ·rename_i z
   rw [if_neg z];exact vm hm
theorem xN{α:Type}{l:List (Str×α)}(nd:(l.map (·.1)).Nodup) : ∀{n:Str} {a:α},(n,a)∈l->l.lookup n=some a:=by
 induction l with
 | nil=>intro n a h;cases h
 | cons p r z=>
  intro n a h;obtain⟨m,b⟩:=p;rw [zgO,ziq]at nd;rw [zhb];rcases zgz.mp h with h | h
  ·cases h;simp
  ·have I:(n==m)=false:=by
    have:n≠m:=λe=>nd.1 (by rw [<- e];exact zg1.mpr ⟨(n,a),h,rfl⟩);simpa using this
   rw [I];exact z nd.2 h
theorem xW(scope:Scope)(env:Env)(x:Str):(relabel scope env).names.lookup x =
 (scope.names.lookup x).map λk=>if (k==NameKind.free && env.scope.kind == .function && env.kindOf x==some .cell)then zhV else k:=by
 unfold relabel;dsimp only;generalize scope.names=l
 induction l with
 | nil=>rfl
 | cons p r I=>
  obtain⟨n,k⟩:=p;rw [zgO];cases hx:x==n with
  | true=>
   have e:x=n:=by simpa using hx
   subst e;rw [zhb,zhb];dsimp only;by_cases z:(k==NameKind.free && env.scope.kind == .function && env.kindOf x==some .cell)=true
   ·rw [if_pos z,beq_self_eq_true];dsimp only [zjt];rw [if_pos z]
   ·rw [if_neg z,beq_self_eq_true];dsimp only [zjt];rw [if_neg z]
  | false=>
   have : ∀J,zim x ((n,J)::(r.map λx=>match x with | (n,k)=>if (k==NameKind.free && env.scope.kind == .function && env.kindOf n==some .cell)=true then (n,zhV)else (n,k)))=zim x (r.map λx=>match x with | (n,k)=>if (k==NameKind.free && env.scope.kind == .function && env.kindOf n==some .cell)=true then (n,zhV)else (n,k)):=λJ=>by
    rw [zhb,hx]
   rw [zhb (k:=n),hx];dsimp only;split
   ·rw [this];exact I
   ·rw [this];exact I
def kM(scope:Scope)(env:Env)(L:Addr):Env:=
 {scope:=relabel scope env,locals:=L,globals:=env.globals,cells:=cellsFrom (L+1) scope.names (Zp env.cells scope.names []),qual:=env.qual,func:=none,code:=env.code,frame:=env.frame,builtins:=env.builtins}
def jg(X:Cx)(scope:Scope)(N':List Str)(fp:List Addr)(s2:Shared)(H2:Hp):Cx:=
 {X with N:=N',s₀:=s2,H₀:=H2,env:=kM scope X.env (s2.heap.objs.size+1),outer:=X.stack,stack:=X.stack,ex:=fp,fn:=λx=>scope.names.lookup x==some .cell,pn:=[],xe:=λ_ _=>False}
structure CompOk(X:Cx)(scope:Scope)(fr:List (Str×Nat)):Prop where
 kind:scope.kind = .function
 nd:(scope.names.map (·.1)).Nodup
 free : ∀p∈scope.names,p.2=NameKind.free->X.env.kindOf p.1=some .cell\/X.env.kindOf p.1=some .free
 fr : ∀p∈fr,scope.names.lookup p.1=some .free/\X.N[p.2]? = some p.1
def pull(own:List Str)(fr:List (Str×Nat))(σ:St):St:=own.map (λ_=>none)++fr.map λp=>(σ[p.2]?).join
abbrev JG:Obj:={cls:= .type "list",data:= .seq #[]}
abbrev W4:Obj:={cls:= .type "dict",data:= .dict #[]}
theorem V0{X:Cx}{pins:List (Addr×Obj)}{σ:St}{H2:Hp}{s2:Shared}{scope:Scope}{own:List Str}{fr:List (Str×Nat)}{fp:List Addr}(I:Inv X pins σ H2 s2)(ok:CompOk X scope fr)
 (a1 : ∀b∈fp,FpOk X pins H2 b) (ae : ∀b∈fp,∃o,s2.heap.get? b=some o) :
 Inv (jg X scope (own++fr.map (·.1)) fp s2 H2) [] (pull own fr σ) (upd H2 s2.heap.objs.size (.lst [])) {s2 with heap:=pushCells ((s2.heap.push JG).push W4) scope.names}:=by
 have z1:(s2.heap.push JG).objs.size=s2.heap.objs.size+1:=zgW ..;have z2:((s2.heap.push JG).push W4).objs.size=s2.heap.objs.size+2:=by rw [zgW,z1]
 have U : ∀n c,(n,c)∈Zp X.env.cells scope.names []->(n,NameKind.free)∈scope.names/\X.env.cells.lookup n=some c:=λn c h=>(Qv h).resolve_left ⋯;have a7 : ∀n c,X.env.cells.lookup n=some c->c<s2.heap.objs.size:=λn c h=>by obtain⟨v,q⟩:=I.cell n c h;exact q.lt
 have af : ∀p∈Zp X.env.cells scope.names [],p.2<s2.heap.objs.size+1+1:=λp O=>by
  exact zhm (zhm (a7 p.1 p.2 (U p.1 p.2 O).2))
 have hC:(kM scope X.env (s2.heap.objs.size+1)).cells=cellsFrom (s2.heap.objs.size+2) scope.names (Zp X.env.cells scope.names []):=rfl;have cells : ∀x c,(kM scope X.env (s2.heap.objs.size+1)).cells.lookup x=some c->((x,NameKind.free)∈scope.names/\X.env.cells.lookup x=some c)\/(s2.heap.objs.size+2<=c/\(x,zhV)∈scope.names):=λx c h=>by
  rcases ql (mem_of_lookup h)with h | h
  ·exact .inl (U x c h)
  ·exact .inr h
 have a8 : ∀x,(x,NameKind.free)∈scope.names->∃c,X.env.cells.lookup x=some c/\(kM scope X.env (s2.heap.objs.size+1)).cells.lookup x=some c:=λx hx=>by
  obtain⟨c,Y⟩:=I.ok.has x (ok.free (x,.free) hx rfl);have h1:((Zp X.env.cells scope.names []).lookup x).isSome=true:=y9 (.inr ⟨hx,by rw [Y];rfl⟩);have h2:=zio scope.names (s2.heap.objs.size+2) (Zp X.env.cells scope.names []) (.inr h1);obtain⟨c',aa⟩:=zhr.mp h2;refine⟨c,Y,?_⟩;rcases cells x c' aa with⟨_,q⟩ | ⟨_,q⟩
  ·rw [Y]at q;cases q;exact aa
  ·exact absurd ((xN ok.nd q).symm.trans (xN ok.nd hx)) ⋯
 have keep : ∀b o,s2.heap.get? b=some o->(pushCells ((s2.heap.push JG).push W4) scope.names).get? b=some o:=λb o e=>
  ziU _ _ b o (zgk _ (zgk _ e))
 have ab : ∀b∈fp,b<s2.heap.objs.size:=λb J=>by obtain⟨o,e⟩:=ae b J;exact zgy e
 have fresh:H2 s2.heap.objs.size=none:=I.hok.fresh (zgp _);have ac : ∀c,s2.heap.objs.size<c->(upd H2 s2.heap.objs.size (.lst [])) c=none:=λc Y=>by
  rw [zJ (zhM Y)];exact I.hok.fresh (zjh Y)
 obtain⟨m0,ah⟩ : ∃m,(pushCells ((s2.heap.push JG).push W4) scope.names).Ns (s2.heap.objs.size+1) m:=by
  have q:=(Heap.Ns.new (s2.heap.push JG) (.type "dict")).keeps (λb o e=>ziU scope.names _ b o e);rw [z1]at q;exact⟨_,q⟩
 refine⟨⟨I.ok.mod,ok.kind,I.ok.glob,I.ok.blt,Nat.le_succ _,λx y c h1 h2=>?_,λx hx=>?_,λx c hf h=>?_,I.ok.hd,I.ok.frames,.inl rfl,λb J=>⟨?_,λx c h z=>?_⟩,λb o e=>I.bs b o e,?_,λb o e J=>?_,λb J hs=>?_,I.stack,I.stkFree⟩,
  rfl,I.bare,Un.laid keep (zgp _) fresh,⟨m0,ah,λi x v e1 S e3=>?_⟩,λx c h=>?_,?_,λx c h=>?_,λp O=>?_,?_,?_⟩
 ·have q:=qV (names:=scope.names) (k:=s2.heap.objs.size+2) (acc:=Zp X.env.cells scope.names []) (λp O q hq e=>I.ok.inj p.1 q.1 p.2 (U _ _ O).2 (by rw [e];exact(U _ _ hq).2)) af
  exact q (x,c) (mem_of_lookup h1) (y,c) (mem_of_lookup h2) rfl
 ·have Z:(relabel scope X.env).names.lookup x=some .cell\/(relabel scope X.env).names.lookup x=some .free:=hx
  have:scope.names.lookup x=some .cell\/scope.names.lookup x=some .free:=by
   rw [xW]at Z;cases e:scope.names.lookup x with
   | none=>rw [e]at Z;simp at Z
   | some k=>
    rw [e]at Z;cases k<;>simp at Z ⊢
  rcases this with h | h
  ·exact zhr.mp (zio scope.names _ _ (.inl h))
  ·obtain⟨c,_,h2⟩:=a8 x (mem_of_lookup h);exact⟨c,h2⟩
 ·have al:(scope.names.lookup x==some .cell)=true:=hf
  have am:scope.names.lookup x=some .cell:=by simpa using al
  rcases cells x c h with⟨q,_⟩ | ⟨q,_⟩
  ·exact absurd ((xN ok.nd q).symm.trans am) ⋯
  ·exact zhh (zhk _ 2) q
 ·exact zgU (zhm (ab b J))
 ·rcases cells x c h with⟨_,q⟩ | ⟨q,_⟩
  ·exact(a1 b J).2.2.2.2.1 x c q z
  ·exact absurd (zgG (ab b J) (zhh (zhk _ 2) (z ▸ q))) (zgZ _)
 ·exact zhh I.ok.bsz I.sz
 ·rcases (a1 b J).2.2.2.1 with q | q
  ·exact I.ok.noex b o e q
  ·exact absurd (zgG (zgy e) (zhh I.ok.bsz q)) (zgZ _)
 ·rcases zgz.mp (I.stkSub b hs)with q | q
  ·exact(a1 b J).2.1 q
  ·exact(a1 b J).2.2.1 q
 ·have hi:i<(own++fr.map (·.1)).length:=(zgw.mp e1).1
  by_cases a4:i<own.length
  ·unfold pull at S
   rw [zhl (by simpa using a4)]at S;simp [zg6,a4]at S
  ·have hj : ∃p,fr[i - own.length]? = some p/\p.1=x/\(σ[p.2]?).join=some v:=by
    unfold pull at S;have a0:(own++fr.map (·.1))[i]? = some x:=e1;rw [zg5 ⋯,zg6]at a0;rw [zg5 (by simpa using a4),zg6,zgH]at S;cases q:fr[i - own.length]? with
    | none=>rw [q]at a0;cases a0
    | some p=>
     rw [q]at a0 S;exact⟨p,rfl,by simpa using a0,by simpa using S⟩
   obtain⟨p,O,ao,a2⟩:=hj;obtain⟨g1,g2⟩:=ok.fr p (ziD O);rw [ao]at g1 g2;have hσ:σ[p.2]? = some (some v):=by
    cases q:σ[p.2]? with
    | none=>rw [q]at a2;cases a2
    | some o=>rw [q]at a2;simpa using a2
   have ad:=ok.free (x,.free) (mem_of_lookup g1) rfl;obtain⟨m,hn,hl⟩:=I.loc;obtain⟨u,ru,lk⟩:=hl p.2 x v g2 hσ (by rcases ad with k | k;exact .inr (.inl k);exact .inr (.inr k));refine⟨u,ru,.inr ?_⟩;obtain⟨c,as,au⟩:=a8 x (mem_of_lookup g1);have av:s2.heap.IsCell c (some u):=by
    rcases lk with⟨k,_⟩ | ⟨_,c',e,z⟩
    ·rcases ad with k' | k'<;>rw [k]at k'<;>cases k'
    ·rw [as]at e;cases e;exact z
   refine⟨?_,c,au,av.keeps keep⟩;show(relabel scope X.env).names.lookup x=some .cell\/(relabel scope X.env).names.lookup x=some .free;rw [xW,g1];dsimp only [zjt];split
   ·exact .inl rfl
   ·exact .inr rfl
 ·rcases ql (mem_of_lookup h)with q | q
  ·obtain⟨v,w'⟩:=I.cell x c (U x c q).2
   exact⟨v,w'.keeps keep⟩
  ·have q2:=mem_of_lookup h
   have q3:(x,c)∈cellsFrom ((s2.heap.push JG).push W4).objs.size scope.names (Zp X.env.cells scope.names []):=by rw [z2];exact q2
   rcases vm q3 with q4 | q4
   ·obtain⟨v,w'⟩:=I.cell x c (U x c q4).2
    exact⟨v,w'.keeps keep⟩
   ·exact⟨none,q4⟩
 ·exact ac _ (zhx _)
 ·rcases cells x c h with⟨_,q⟩ | ⟨q,_⟩
  ·rw [zJ (zgU (a7 x c q))];exact I.freeC x c q
  ·exact ac c (zgG (zhm (zhx _)) q)
 ·exact absurd (show p∈([]:List (Addr×Obj))from O) ⋯
 ·refine I.hok.laid keep (zgp _) ⟨zh5 _,[],0,.nil,?_⟩
  exact ziU _ _ _ _ (zgk _ (zgu _ rfl))
 ·show(pull own fr σ).length=(own++fr.map (·.1)).length
  simp [pull]
theorem xT{prog:Program}{w:World}{A:Around}{R:Result->Shared->Prop}{s:Shared}{elt J iter:Expr}{ifs:List Expr}{scope:Scope}{pos:Pos}{it acc:Value}{env:Env}(I:Nat->Shared->Prop)
 (a1 : ∀n s,I n s->wpAny (model prog w) A (pyNext it) (λr z=>match r with
   | none=>R (.ok .next) z
   | some v=>wpAny (model prog w) A (letOwnedTupleGo J it v) (λ_ z=>wpAny (model prog w) A (assign J env v) (λ_ S=>
    wpAny (model prog w) A (forIn ifs true λc r=>if r=true then do let ok <- isTrue c env (eval c env);pure (ziZ ok)else pure (ziZ r)) (λok O=>
     if ok=true then wpAny (model prog w) A (eval elt env) (λx U=>
      wpAny (model prog w) A (call (.builtin "list.append") [acc,x]) (λ_ Y=>∃m,m<n/\I m Y) (λ_ _=>False) U) (λ_ _=>False) O
     else ∃m,m<n/\I m O) (λ_ _=>False) S) (λ_ _=>False) z) (λ_ _=>False) z) (λ_ _=>False) s)
 (n:Nat) (h:I n s) :
 codeAny (model prog w) A (.compLoop (.ListComp elt [⟨J,iter,ifs,0⟩] scope pos) 0 it acc env) R s:=by
 refine codeAny_loop rfl I (λn s hI=>?_) n h;show wpAny _ A ((compTurn (.ListComp elt [⟨J,iter,ifs,0⟩] scope pos) 0 it acc env).onRaise (λx=>do noteFrame x env;theTreesLotGoes x)) _ _ s;refine wpAny_noted ?_;rw [compTurn_list];refine zgi (wpAny_standAt (zgi (zid (a1 n s hI) (λr z Z=>?_) λ_ _ h'=>h'.elim)));cases r with
 | none=>exact zgo Z
 | some v=>
  refine zgi (zid Z (λ_ a7 a3=>?_) λ_ _ h'=>h'.elim);refine zgi (zid a3 (λ_ S h₂=>zgi (zid h₂ (λok O h₃=>?_) λ_ _ h'=>h'.elim)) λ_ _ h'=>h'.elim);cases ok with
  | false=>exact zgo ⟨rfl,h₃⟩
  | true=>
   exact zgi (zgi (zid h₃ (λx U h₄=>zgi (zid h₄ (λ_ Y h₅=>zgo (zgo ⟨rfl,h₅⟩)) λ_ _ h'=>h'.elim)) λ_ _ h'=>h'.elim))
def zbL(X:Cx)(ifs:List Expr)(t:TT):Prop:=
 ∀(pins:List (Addr×Obj)) (s:Shared) (σ:St) (H:Hp) (Q:Bool->Hp->Prop),Inv X pins σ H s->t σ H Q->
  wpAny (model X.prog X.w) X.A (forIn ifs true λc r=>if r=true then do let ok <- isTrue c X.env (eval c X.env);pure (ziZ ok)else pure (ziZ r)) (TP X pins σ Q) X.xe s
def zeg:TT:=λ_ H Q=>Q true H
theorem Qo{X:Cx}:zbL X [] zeg:=λ_ _ _ H _ I h=>wpAny_tests_nil ⟨H,I,h⟩
theorem Qn{X:Cx}{c:Expr}{t:TT}(h:PT X c t):zbL X [c] t:=λpins s σ H Q I z=>wpAny_tests_one (h pins s σ H Q I z)
def CW(J:It)(g:TG)(tt:TT)(te:TE)(D:Addr)(Q:VK)(W:Nat->Nat->List V->St->Hp->Prop):Prop:=
 ∀i m ys σ H,W i m ys σ H->H D=some (.lst ys)/\((J.stop i H/\Q (.ref D) H)\/(J.go i H/\ys.length<sizeLine/\∀x H',J.yld i H x H'->g x σ H' λz H2=>tt z H2 λb I=>
  if b=true then te z I λv O=>O D=some (.lst ys)/\∃m',m'<m/\W (i+1) m' (ys++[v]) z (upd O D (.lst (ys++[v])))else ∃m',m'<m/\W (i+1) m' ys z I))
def Wv(X:Cx)(pins:List (Addr×Obj))(H:Hp)(L:Addr):Prop:=
 H L=none/\L≠X.env.locals/\X.s₀.heap.objs.size<=L/\(∀x c,X.env.cells.lookup x=some c->c≠L)/\∀p∈X.pn++pins,p.1≠L
theorem Wl{X:Cx}{pins:List (Addr×Obj)}{σ:St}{H2:Hp}{s2:Shared}{scope:Scope}{own:List Str}{fr:List (Str×Nat)}{fp:List Addr}{it:Addr}{tn:Nat->Heap->Prop}{J:It}{elt tg iter:Expr}{ifs:List Expr}{pos:Pos}{g:TG}{tt:TT}{te:TE}{Q:VK}{E:Value->Shared->Prop}
 (hc:X.calm=true) (I:Inv X pins σ H2 s2) (ok:CompOk X scope fr) (T:Turn X.prog X.w X.K tg J fp it tn) (st:tn 0 s2.heap) (U : ∀b∈fp,FpOk X pins H2 b)
 (hg:PG (jg X scope (own++fr.map (·.1)) fp s2 H2) tg g) (ht:zbL (jg X scope (own++fr.map (·.1)) fp s2 H2) ifs tt) (he:PE (jg X scope (own++fr.map (·.1)) fp s2 H2) elt te)
 (hW : ∀D,H2 D=none->∃W:Nat->Nat->List V->St->Hp->Prop,(∃m,W 0 m [] (pull own fr σ) (upd H2 D (.lst [])))/\CW J g tt te D Q W) :
 wpAny (model X.prog X.w) X.A (newList []) (λacc s₃=>wpAny (model X.prog X.w) X.A (newFunctionEnv scope X.env.globals (Zp X.env.cells scope.names []) [] X.env.qual none .none (some X.env)) (λa8 s₄=>
  codeAny (model X.prog X.w) X.A (.compStart (.ListComp elt [⟨tg,iter,ifs,0⟩] scope pos) 0 (.ref it) acc {a8 with scope:=relabel scope X.env})
   (λr s'=>(∃f,r = .ok f)/\∃D H',acc = .ref D/\Inv X pins σ H' s'/\Q (.ref D) H'/\(∃m,s'.heap.Ns a8.locals m)/\Wv X pins H' a8.locals) s₄) E s₃) E s2:=by
 have ah : ∀b∈fp,∃o,s2.heap.get? b=some o:=λb O=>by obtain⟨o,e,_⟩:=T.obj 0 _ st b O;exact⟨o,e⟩
 have I0:=V0 (own:=own) I ok U ah;obtain⟨W,⟨m0,w0⟩,cw⟩:=hW _ I.fresh;refine zg8 (qI ?_);have z1:(s2.heap.push JG).objs.size=s2.heap.objs.size+1:=zgW ..;show codeAny _ _ (.compStart _ 0 (.ref it) (.ref s2.heap.objs.size) {scope:=relabel scope X.env,locals:=(s2.heap.push JG).objs.size,globals:=X.env.globals,cells:=cellsFrom ((s2.heap.push JG).objs.size+1) scope.names (Zp X.env.cells scope.names []),qual:=X.env.qual,func:=none,code:=X.env.code,frame:=X.env.frame,builtins:=X.env.builtins})
  (λr s'=>(∃f,r = .ok f)/\∃D H',zgK s2.heap.objs.size = .ref D/\Inv X pins σ H' s'/\Q (.ref D) H'/\(∃m,s'.heap.Ns (s2.heap.push JG).objs.size m)/\Wv X pins H' (s2.heap.push JG).objs.size) {s2 with heap:=pushCells ((s2.heap.push JG).push W4) scope.names}
 rw [z1];have ai:tn 0 (pushCells ((s2.heap.push JG).push W4) scope.names):=T.keep 0 _ _ st λb _ o e=>ziU _ _ b o (zgk _ (zgk _ e));have bd : ∀b∈fp,b<s2.heap.objs.size:=λb O=>by obtain⟨o,e⟩:=ah b O;exact zgy e
 have a9 : ∀{H':Hp},(∀b∈fp,H' b=none)->∀b∈fp,FpOk (jg X scope (own++fr.map (·.1)) fp s2 H2) [] H' b:=λhn b O=>
  ⟨hn b O,(I0.ok.exf b O).1,I0.ok.exfs b O,.inl O,(I0.ok.exf b O).2,λp hp=>absurd (show p∈([]:List (Addr×Obj))from hp) ⋯⟩
 have aj:codeAny (model X.prog X.w) X.A (.compLoop (.ListComp elt [⟨tg,iter,ifs,0⟩] scope pos) 0 (.ref it) (.ref s2.heap.objs.size) (kM scope X.env (s2.heap.objs.size+1)))
  (λr s'=>(∃f,r = .ok f)/\∃D H',zgK s2.heap.objs.size = .ref D/\Inv X pins σ H' s'/\Q (.ref D) H'/\(∃m,s'.heap.Ns (s2.heap.objs.size+1) m)/\Wv X pins H' (s2.heap.objs.size+1)) {s2 with heap:=pushCells ((s2.heap.push JG).push W4) scope.names}:=by
  refine xT (λn s'=>∃i ys σ' H',Inv (jg X scope (own++fr.map (·.1)) fp s2 H2) [] σ' H' s'/\tn i s'.heap/\(∀b∈fp,H' b=none)/\W i n ys σ' H') ?_ m0
   ⟨0,[],_,_,I0,ai,λb O=>by rw [zJ (zgU (bd b O))];exact(U b O).1,w0⟩
  rintro n s3 ⟨i,ys,σ3,H3,I3,an,ao,w3⟩;obtain⟨hD,be⟩:=cw i n ys σ3 H3 w3;rcases be with⟨stop,qn⟩ | ⟨go,hz,step⟩
  ·refine thn (T.done (jg X scope (own++fr.map (·.1)) fp s2 H2) rfl rfl rfl hc i [] s3 σ3 H3 _ I3 (a9 ao) an stop) λr s4 S=>?_
   obtain⟨hr,Y⟩:=S;subst hr;refine⟨⟨_,rfl⟩,_,H3,rfl,I.call' (ch:=fp) Y.os Y.base Y.hok Y.bare (λb O=>⟨(U b O).2.2.2.1,(U b O).2.1,(U b O).2.2.2.2.1,(U b O).2.2.2.2.2⟩),qn,?_,Y.free,?_,?_,?_,?_⟩
   ·obtain⟨m,hn,_⟩:=Y.loc
    exact⟨m,hn⟩
   ·exact zhM (zhm I.lt)
   ·exact Nat.le_succ_of_le I.sz
   ·intro x c e z
    obtain⟨v,q⟩:=I.cell x c e;exact absurd (zhm q.lt) (by rw [z];exact zgZ _)
   ·intro p hp z
    exact absurd (zhm (zgy (I.pin p hp).1)) (by rw [z];exact zgZ _)
  ·refine thn (T.item (jg X scope (own++fr.map (·.1)) fp s2 H2) rfl rfl rfl hc i [] s3 σ3 H3 _ I3 (a9 ao) an go) λr s4 S=>?_
   obtain⟨u,hr,h4⟩:=S;subst hr;refine thn h4 λ_ s5 S=>?_;obtain⟨x,H5,I5,r5,y5,ac,bm⟩:=S;have bn:=I5.pinned (a9 bm) (T.obj _ _ ac);refine thn (hg _ s5 σ3 H5 x u _ bn r5 (step x H5 y5)) λ_ s6 S=>?_;obtain⟨σ6,H6,I6,q6⟩:=S;refine thn (ht _ s6 σ6 H6 _ I6 q6) λb s7 S=>?_;obtain⟨H7,I7,q7⟩:=S;have after : ∀{σ8:St} {H8:Hp} {Z:Shared},Inv (jg X scope (own++fr.map (·.1)) fp s2 H2) ([]++ZL fp s5.heap) σ8 H8 Z->tn (i+1) Z.heap/\∀b∈fp,H8 b=none:=λ{σ8 H8 Z} I8=>by
    refine⟨T.keep _ _ _ ac λb O o e=>(I8.pin (b,o) (zhe _ (zhe _ (xM O e)))).1,λb O=>?_⟩;obtain⟨o,e,d⟩:=T.obj _ _ ac b O;exact(I8.pin (b,o) (zhe _ (zhe _ (xM O e)))).2.1
   cases b with
   | false=>
    rw [if_neg zgB]at q7 ⊢;obtain⟨m',hm,w7⟩:=q7;exact⟨m',hm,i+1,ys,σ6,H7,I7.unpinned,(after I7).1,(after I7).2,w7⟩
   | true=>
    rw [if_pos rfl]at q7 ⊢;refine thn (he _ s7 σ6 H7 _ I7 q7) λv8 Z S=>?_;obtain⟨x8,H8,I8,r8,au,m',hm,w8⟩:=S;obtain⟨z8,av,n8,rv,c4,e8⟩:=I8.lstM au;refine zi7 F.slot_list_append ⟨_,e8,rfl⟩ F.entry_list_append (F.args_list_append_2 _ _) (PySem.list_append _ av.toArray n8 v8 (by rw [zgs];omega)) ⟨e8,?_⟩;have I9:=I8.lset (its':=av++[v8]) (f:=(·.push v8)) (t':=Z.toks) au e8 ⋯ (rv.append (.cons r8 .nil)) (by rw [zhq,ziB];omega);exact⟨m',hm,i+1,ys++[x8],σ6,_,I9.unpinned,(after I9).1,(after I9).2,w8⟩
 exact codeAny_compStart_list aj (T.self _ 0 _ _ _ ai aj)
def Vb(wi:TI)(own:List Str)(fr:List (Str×Nat))(g:TG)(tt:TT)(te:TE):TE:=λσ H Q=>wi σ H λJ H1=>∀D,H1 D=none->
 ∃W:Nat->Nat->List V->St->Hp->Prop,(∃m,W 0 m [] (pull own fr σ) (upd H1 D (.lst [])))/\CW J g tt te D Q W
section
variable{X:Cx}{scope:Scope}{own:List Str}{fr:List (Str×Nat)}{elt tg iter:Expr}{ifs:List Expr}{pos:Pos}{wi:TI}{g:TG}{tt:TT}{te:TE}
theorem QN{use:Option (Value->Sem Unit)}{R:Value->Shared->Prop}{pins:List (Addr×Obj)}{s:Shared}{σ:St}{H:Hp}{Q:VK}
 (z:X.calm=true) (ok:CompOk X scope fr) (hi:PI X tg iter wi) (O : ∀fp s2 H2,PG (jg X scope (own++fr.map (·.1)) fp s2 H2) tg g)
 (S : ∀fp s2 H2,zbL (jg X scope (own++fr.map (·.1)) fp s2 H2) ifs tt) (U : ∀fp s2 H2,PE (jg X scope (own++fr.map (·.1)) fp s2 H2) elt te)
 (I:Inv X pins σ H s) (h:Vb wi own fr g tt te σ H Q)
 (Y : ∀D H' s' L,Inv X pins σ H' s'->Q (.ref D) H'->(∃m,s'.heap.Ns L m)->Wv X pins H' L->
   compPost (model X.prog X.w) X.A X.xe use R (.ref D) L (.ok .next) s')
 (Z : ∀x,foldedSetIterable iter X.env x=pure x:=by intro _;rfl) :
 wpAny (model X.prog X.w) X.A (comprehension (.ListComp elt [⟨tg,iter,ifs,0⟩] scope pos) scope X.env (firstIterPos [⟨tg,iter,ifs,0⟩] pos) (newList []) false (eval iter X.env) use) R X.xe s:=by
 refine wpAny_comprehension_free rfl Z (Zd λn hn=>I.ok.has n (ok.free (n,.free) hn rfl)) ok.kind (λx hx e=>by rw [<- e];exact xN ok.nd (show(x.1,x.2)∈scope.names from hx)) ?_;refine thn (hi pins s σ H _ I h) λv s1 h1=>thn h1 λac s2 h2=>?_;obtain⟨it,fp,tn,J,H2,e,I2,T,a1,f2,hW⟩:=h2;subst e;refine thn (Wl (own:=own) (Q:=Q) (E:=X.xe) z I2 ok T a1 f2 (O fp s2 H2) (S fp s2 H2) (U fp s2 H2) hW) λacc s3 h3=>thn h3 λa5 s4 h4=>zjo h4 λr s' h5=>?_;obtain⟨⟨f,hr⟩,D,H',ea,I',q,hn,y⟩:=h5;subst hr;subst ea;have q2:=Y D H' s' a5.locals I' q hn y;cases use<;>exact q2
theorem JC(z:X.calm=true)(ok:CompOk X scope fr)(hi:PI X tg iter wi)(J : ∀fp s2 H2,PG (jg X scope (own++fr.map (·.1)) fp s2 H2) tg g)
 (O : ∀fp s2 H2,zbL (jg X scope (own++fr.map (·.1)) fp s2 H2) ifs tt) (S : ∀fp s2 H2,PE (jg X scope (own++fr.map (·.1)) fp s2 H2) elt te)
 (U : ∀x,foldedSetIterable iter X.env x=pure x:=by intro _;rfl) :
 PE X (.ListComp elt [⟨tg,iter,ifs,0⟩] scope pos) (Vb wi own fr g tt te):=by
 intro pins s σ H Q I h;rw [eval_ListComp];refine QN (use:=none) z ok hi J O S I h (λD H' s' L Y q hn y=>?_) U;obtain⟨m,hm⟩:=hn;obtain⟨Z,y2,y3,y4,y5⟩:=y;refine⟨m,hm,λh' sb=>⟨.ref D,H',Y.turned (t':=s'.toks) (it:=L) (λb o hb e=>sb.extBut b o hb e) Z y2 (.inr y3) y4 y5,rfl,q⟩⟩
theorem v9{y:Str}{z O:Pos}{i:Nat}(S:X.N.Nodup)(U:X.N[i]? = some y)(Y:Loc X.env.scope y)(Z:X.fn y=true\/X.env.scope.names.lookup y=some .local)
 (hc:X.calm=true) (ok:CompOk X scope fr) (hi:PI X tg iter wi) (hg : ∀fp s2 H2,PG (jg X scope (own++fr.map (·.1)) fp s2 H2) tg g)
 (ht : ∀fp s2 H2,zbL (jg X scope (own++fr.map (·.1)) fp s2 H2) ifs tt) (he : ∀fp s2 H2,PE (jg X scope (own++fr.map (·.1)) fp s2 H2) elt te)
 (hs : ∀x,foldedSetIterable iter X.env x=pure x:=by intro _;rfl) :
 PS X (.Assign [.Name y z] (.ListComp elt [⟨tg,iter,ifs,0⟩] scope pos) O) (X8 (Vb wi own fr g tt te) (kF i)):=by
 have J : ∃b:Bool,swapsWith (.ListComp elt [⟨tg,iter,ifs,0⟩] scope pos) (some (.Name y z)) O.line X.env=pure b:=⟨_,rfl⟩;obtain⟨b,J⟩:=J;cases b with
 | false=>
  have e1:swapsWithSole [.Name y z] (.ListComp elt [⟨tg,iter,ifs,0⟩] scope pos) O.line X.env=swapsWith (.ListComp elt [⟨tg,iter,ifs,0⟩] scope pos) (some (.Name y z)) O.line X.env:=rfl;exact WR (JC hc ok hi hg ht he hs) (KD S U Y Z) (by rw [e1];exact J)
 | true=>
  intro pins s σ H D I h;rw [exec_Assign_Name_used _ _ _ _ J];refine zgi (wpAny_standAt (zgi ?_));show wpAny _ X.A (do let _ <- comprehension (.ListComp elt [⟨tg,iter,ifs,0⟩] scope pos) scope X.env _ (newList []) false (eval iter X.env) (some (assign (.Name y z) X.env))) _ _ s;refine zgi (thn (QN (R:=λ_ s'=>SP X pins D .next s') (use:=some (assign (.Name y z) X.env)) hc ok hi hg ht he I h (λDa H' s' L I' q hn yg=>?_) hs) λ_ s' q=>zgo (zgo q));obtain⟨y1,y2,y3,y4,y5⟩:=yg;obtain⟨m,hm⟩:=hn;show wpAny _ _ (assign (.Name y z) X.env (.ref Da)) _ _ _;refine wpAny_assign_Name (Zw I' S U Y (v:= .ref Da) rfl (λad ae af=>?_) Z);obtain⟨a,sb,ha⟩:=af;have ah:L≠a:=by
   rcases ha with e | e
   ·rw [e];exact y2
   ·exact zht (y4 _ _ e)
  refine⟨m,hm.sameBut sb ah,λh' ai=>⟨_,_,ae.turned (t':=ad.toks) (it:=L) (λb o J e=>ai.extBut b o J e) y1 y2 (.inr y3) y4 y5,q⟩⟩
end
inductive Sk where
 | L | T
 deriving DecidableEq
end L2
namespace DL
open PySem L2
inductive D where
 | non | bl (b:Bool) | int (i:Int) | str (x:Str) | tup (xs:List D) | lst (xs:List D)
 | exc (c:Str) (n:Option Int)
 | dic (ks vs:List D)
 | dct (ks:List (List Int)) (vs:List D)
inductive Cell where
 | no | val (d:D) | own (ds:List D) | nest (rows:List (List D))
abbrev Ctx:=List Cell
abbrev CO (a : Type) := Ctx -> Option a
def lim:Nat:=2500
def js:D->Option (Sk×List D)
 | .tup ds=>some (.T,ds)
 | .lst ds=>some (.L,ds)
 | _=>none
def zz(f:CO D):CO (Sk×List D):=λγ=>(f γ).bind js
def ja(f:CO (List D)):CO D:=λγ=>(f γ).map D.lst
def jh(f:CO (List D)):CO (Sk×List D):=λγ=>(f γ).map λds=>(Sk.L,ds)
def JU:Option Cell->Option D
 | some (.val d)=>some d
 | _=>none
def xy:Option Cell->Option (Sk×List D)
 | some (.val d)=>js d
 | some (.own ds)=>some (.L,ds)
 | _=>none
def zc(i:Nat):CO D:=λγ=>JU γ[i]?
def zf(i:Nat):CO (Sk×List D):=λγ=>xy γ[i]?
def zh(d:D):CO D:=λ_=>some d
def zm(F:D->D->Option D)(fa fb:CO D):CO D:=λγ=>(fa γ).bind λx=>(fb γ).bind λy=>F x y
def asB:D->Option Bool
 | .bl b=>some b
 | _=>none
def asI:D->Option Int
 | .int i=>some i
 | _=>none
def sB(f:CO D):CO Bool:=λγ=>(f γ).bind asB
def wL(f g:CO Bool):CO Bool:=λγ=>(f γ).bind λb=>if b=true then g γ else some false
def zaA(f g:CO Bool):CO Bool:=λγ=>(f γ).bind λb=>if b=true then some true else g γ
def qN(f:CO Bool):CO Bool:=λγ=>(f γ).map λb=> !b
def Vm(f g:CO D):CO D:=λγ=>((f γ).bind asB).bind λb=>if b=true then g γ else some (.bl false)
def sOr(f g:CO D):CO D:=λγ=>((f γ).bind asB).bind λb=>if b=true then some (.bl true)else g γ
def zb9(f:CO D):CO D:=λγ=>((f γ).bind asB).map λb=> .bl (!b)
def ZB(c:CO Bool)(f g:CO D):CO D:=λγ=>(c γ).bind λb=>if b=true then f γ else g γ
def zu:CO (List D):=λ_=>some []
def za(f:CO D)(g:CO (List D)):CO (List D):=λγ=>(f γ).bind λx=>(g γ).map λr=>x::r
def ju(f:CO (List D)):CO D:=λγ=>(f γ).bind λds=>if ds.length<=lim then some (.tup ds)else none
def jX(f:CO (List D)):CO (List D):=λγ=>(f γ).bind λds=>if ds.length<=lim then some ds else none
inductive Res where
 | val (d:D) | own (ds:List D)
inductive Fl where
 | next (γ:Ctx) | brk (γ:Ctx) | cont (γ:Ctx) | ret (r:Res)
def jP:CO Fl:=λγ=>some (.next γ)
def zF(F G:CO Fl):CO Fl:=λγ=>(F γ).bind λz=>match z with
 | .next γ'=>G γ'
 | f=>some f
def jO(f:CO D):CO Fl:=λγ=>(f γ).map λd=> .ret (.val d)
def qy(f:CO (List D)):CO Fl:=λγ=>(f γ).map λd=> .ret (.own d)
def Zf:Option Cell->Option Fl
 | some (.val d)=>some (.ret (.val d))
 | some (.own ds)=>some (.ret (.own ds))
 | _=>none
def yo(i:Nat):CO Fl:=λγ=>Zf γ[i]?
def Vk:CO Fl:=λγ=>some (.cont γ)
def ZA:CO Fl:=λ_=>none
def sIf(k:CO Bool)(F G:CO Fl):CO Fl:=λγ=>(k γ).bind λb=>if b=true then F γ else G γ
def zO(i:Nat)(f:CO D):CO Fl:=λγ=>(f γ).map λd=> .next (γ.set i (.val d))
def qJ(i:Nat)(f:CO (List D)):CO Fl:=λγ=>(f γ).map λds=> .next (γ.set i (.own ds))
def qu:Option Cell->Option (List D)
 | some (.own ds)=>some ds
 | _=>none
def qp(i:Nat)(f:CO D):CO Fl:=λγ=>(qu γ[i]?).bind λds=>(f γ).bind λd=>if ds.length<lim then some (.next (γ.set i (.own (ds++[d]))))else none
def zV(n:Nat)(ds:List D):Ctx:=ds.map Cell.val++zgm (n - ds.length) Cell.no
def jb(n:Nat)(F:CO Fl)(ds:List D):Option Res:=(F (zV n ds)).bind λz=>match z with
 | .ret r=>some r
 | .next _=>some (.val .non)
 | _=>none
def zdJ:Res->D
 | .val d=>d
 | .own ds=> .lst ds
def zw(F:List D->Option Res)(g:CO (List D)):CO D:=λγ=>(g γ).bind λds=>(F ds).map zdJ
def zbI:Res->Option (List D)
 | .own ds=>some ds
 | _=>none
def zQ(F:List D->Option Res)(g:CO (List D)):CO (List D):=λγ=>(g γ).bind λds=>(F ds).bind zbI
def qB(lo:Int)(n:Nat):List D:=(zgj n).map λ(i:Nat)=>D.int (lo+(i:Int))
def vH(ds es:List D):List D:=(ds.zip es).map λp=>D.tup [p.1,p.2]
def zB(f:CO (Sk×List D)):CO (List D):=λγ=>(f γ).map (·.2)
def inR(i:Int):Bool:=decide (i.natAbs<2 ^ 62)
def zY(f:CO D):CO (List D):=λγ=>((f γ).bind asI).bind λn=>if inR n=true then some (qB 0 n.toNat)else none
def x6(f g:CO D):CO (List D):=λγ=>((f γ).bind asI).bind λm=>((g γ).bind asI).bind λn=>if inR m=true/\inR n=true then some (qB m (n - m).toNat)else none
def Jq(f g:CO D):CO (List D):=λγ=>((f γ).bind js).bind λm=>((g γ).bind js).map λn=>vH m.2 n.2
inductive Tg where
 | nm (i:Nat) | tp (is:List Nat)
def j6:List Nat->List D->Ctx->Ctx
 | i::is,d::ds,γ=>j6 is ds (γ.set i (.val d))
 | _,_,γ=>γ
def qv:Tg->D->CO Ctx
 | .nm i,d,γ=>some (γ.set i (.val d))
 | .tp is,.tup ds,γ=>if ds.length=is.length then some (j6 is ds γ)else none
 | _,_,_=>none
def qh(T:Tg)(F:CO Fl):List D->CO Fl
 | [],γ=>some (.next γ)
 | d::ds,γ=>(qv T d γ).bind λγ1=>(F γ1).bind λI=>match I with
  | .next z=>qh T F ds z
  | .cont z=>qh T F ds z
  | .brk z=>some (.next z)
  | .ret r=>some (.ret r)
def xK(src:CO (List D))(T:Tg)(F:CO Fl):CO Fl:=λγ=>(src γ).bind λds=>qh T F ds γ
def j3:Cell->Cell
 | .own _=> .no
 | .nest _=> .no
 | c=>c
def z4(n:Nat)(fr:List Nat)(γ:Ctx):Ctx:=zgm n Cell.no++fr.map λj=>j3 (γ[j]?.getD .no)
def zG(T:Tg)(k:CO Bool)(f:CO D)(γ:Ctx):List D->Option (List D)
 | []=>some []
 | d::ds=>(qv T d γ).bind λγ1=>(k γ1).bind λb=>if b=true then (f γ1).bind λe=>(zG T k f γ ds).map λr=>e::r else zG T k f γ ds
def zC(src:CO (List D))(T:Tg)(n:Nat)(fr:List Nat)(k:CO Bool)(f:CO D):CO (List D):=λγ=>(src γ).bind λds=>if ds.length<=lim then zG T k f (z4 n fr γ) ds else none
def z6:CO Bool:=λ_=>some true
def Tg.idx:Tg->List Nat
 | .nm i=>[i]
 | .tp is=>is
def dI(g:Int->Int->D):D->D->Option D
 | .int i,.int j=>some (g i j)
 | _,_=>none
def dIc(c:Int->Int->Bool)(g:Int->Int->D):D->D->Option D
 | .int i,.int j=>if c i j=true then some (g i j)else none
 | _,_=>none
def kf:D->D->Option D:=dI λi j=> .int (i - j)
def vF(i j:Int):Bool:=decide (i.natAbs<2 ^ 64) || decide (j.natAbs<2 ^ 64)
def zds(_ j:Int):Bool:=decide (0<j) && decide (j.natAbs<1073741824)
def Z5:D->D->Option D:=dIc zds λi j=> .int (i/j)
def zd1(_ j:Int):Bool:=decide (0<j)
def qa:D->D->Option D:=dIc zd1 λi j=> .int (i%j)
def zdr(i j:Int):Bool:=decide (0<=j) && decide (j.natAbs<=1000000) && decide (i.natAbs<2 ^ 64)
def zbo:D->D->Option D:=dIc zdr λi j=> .int (i ^ j.toNat)
def dLt:D->D->Option D:=dI λi j=> .bl (decide (i<j))
def dLe:D->D->Option D:=dI λi j=> .bl (decide (i<=j))
def dGt:D->D->Option D:=dI λi j=> .bl (decide (j<i))
def dGe:D->D->Option D:=dI λi j=> .bl (decide (j<=i))
def jo:D->D->Option D
 | .int i,.int j=>some (.int (i+j))
 | .tup xs,.tup ys=>if xs.length+ys.length<=lim then some (.tup (xs++ys))else none
 | _,_=>none
def qi:D->D->Option D
 | .int i,.int j=>if vF i j=true then some (.int (i*j))else none
 | .tup xs,.int j=>if xs.length*j.toNat<=lim/\inR j=true then some (.tup (zgm j.toNat xs).flatten)else none
 | _,_=>none
def xQ(f g:CO (Sk×List D)):CO (List D):=λγ=>(f γ).bind λa=>(g γ).bind λb=>
 match a.1,b.1 with
 | .L,.L=>if a.2.length+b.2.length<=lim then some (a.2++b.2)else none
 | _,_=>none
def zaz(f:CO (Sk×List D))(g:CO D):CO (List D):=λγ=>(f γ).bind λa=>((g γ).bind asI).bind λj=>
 match a.1 with
 | .L=>if a.2.length*j.toNat<=lim/\inR j=true then some (zgm j.toNat a.2).flatten else none
 | _=>none
def ixD(n:Nat)(i:Int):Option Nat:=if 0<=i/\i<n then some i.toNat else if i<0/\0<=i+n then some (i+n).toNat else none
def sIx(f:CO (Sk×List D))(g:CO D):CO D:=λγ=>(f γ).bind λa=>((g γ).bind asI).bind λi=>(ixD a.2.length i).bind λk=>a.2[k]?
def Kj(i:Nat)(g f:CO D):CO Fl:=λγ=>(f γ).bind λd=>(qu γ[i]?).bind λds=>((g γ).bind asI).bind λk=>(ixD ds.length k).map λj=> .next (γ.set i (.own (ds.set j d)))
def JT(n dflt:Nat):Option Int->Nat
 | none=>dflt
 | some i=>if i<0 then (i+n).toNat else min i.toNat n
def QM(xs:List D)(lo hi:Option Int):List D:=(xs.drop (JT xs.length 0 lo)).take (JT xs.length xs.length hi - JT xs.length 0 lo)
def XT:CO (Option Int):=λ_=>some none
def sBd(f:CO D):CO (Option Int):=λγ=>((f γ).bind asI).map some
def Qd(f:CO D)(l h:CO (Option Int)):CO D:=λγ=>(f γ).bind λd=>(l γ).bind λlo=>(h γ).bind λhi=>match d with
 | .tup xs=>some (.tup (QM xs lo hi))
 | _=>none
def xV(f:CO (Sk×List D)):CO D:=λγ=>(f γ).map λa=> .int a.2.length
inductive Ty where
 | int | bool | str | tuple | list
 deriving DecidableEq
@[simp] def zde:D->Bool
 | .int _=>true
 | .bl _=>true
 | _=>false
@[simp] def zeQ:D->Bool
 | .bl _=>true
 | _=>false
@[simp] def zdc:D->Bool
 | .str _=>true
 | _=>false
@[simp] def zdb:D->Bool
 | .tup _=>true
 | _=>false
@[simp] def zdd:D->Bool
 | .lst _=>true
 | _=>false
def W3:Ty->D->Bool
 | .int=>zde
 | .bool=>zeQ
 | .str=>zdc
 | .tuple=>zdb
 | .list=>zdd
def sIs(T:Ty)(f:CO D):CO D:=λγ=>(f γ).map λd=> .bl (W3 T d)
@[simp] def eqN:D->Bool
 | .non=>true
 | _=>false
@[simp] def eqB(a:Bool):D->Bool
 | .bl b=>a==b
 | .int b=>(if a then 1 else 0)==b
 | _=>false
@[simp] def eqI(a:Int):D->Bool
 | .bl b=>a==(if b then 1 else 0)
 | .int b=>a==b
 | _=>false
@[simp] def eqS(a:Str):D->Bool
 | .str b=>a==b
 | _=>false
@[simp] def eqX(a:Str)(i:Option Int):D->Bool
 | .exc b j=>a==b && i==j
 | _=>false
mutual
def eqD:D->D->Bool
 | .non,y=>eqN y
 | .bl a,y=>eqB a y
 | .int a,y=>eqI a y
 | .str a,y=>eqS a y
 | .tup xs,y=>match y with
  | .tup ys=>eqDs xs ys
  | _=>false
 | .lst xs,y=>match y with
  | .lst ys=>eqDs xs ys
  | _=>false
 | .exc a i,y=>eqX a i y
 | .dic a b,y=>match y with
  | .dic c d=>eqDs a c && eqDs b d
  | _=>false
 | .dct a b,y=>match y with
  | .dct c d=>a==c && eqDs b d
  | _=>false
def eqDs:List D->List D->Bool
 | [],[]=>true
 | x::xs,y::ys=>eqD x y && eqDs xs ys
 | _,_=>false
end
mutual
def deep:D->Nat
 | .tup xs=>deeps xs+1
 | .lst xs=>deeps xs+1
 | _=>0
def deeps:List D->Nat
 | []=>0
 | x::xs=>max (deep x) (deeps xs)
end
mutual
def okS:D->Bool
 | .str x=>x.cps.all (· < 0x110000)
 | .exc _ _=>false
 | .dic _ _=>false
 | .dct _ _=>false
 | .tup xs=>okSs xs
 | .lst xs=>okSs xs
 | _=>true
def okSs:List D->Bool
 | []=>true
 | x::xs=>okS x && okSs xs
end
def okD(d:D):Bool:=decide (deep d<=20) && okS d
def dEq(x y:D):Option D:=if okD x=true/\okD y=true then some (.bl (eqD x y))else none
def dNe(x y:D):Option D:=if okD x=true/\okD y=true then some (.bl (!eqD x y))else none
def zd0:D->D->Option D
 | x,.non=>some (.bl (match x with | .non=>true | _=>false))
 | _,_=>none
def zM(f:CO (Sk×List D)):CO D:=λγ=>(f γ).map λa=> .tup a.2
def x9(f:CO (Sk×List D)):CO (List D):=λγ=>(f γ).map λa=>a.2
def XS:List D->Option Int
 | []=>some 0
 | .int i::r=>(XS r).map λs=>i+s
 | _::_=>none
def zay(f:CO (Sk×List D)):CO D:=λγ=>(f γ).bind λa=>(XS a.2).map D.int
def zdF:D->Option Bool
 | .non=>some false
 | .bl b=>some b
 | .int i=>some (i != 0)
 | _=>none
def kY:List D->Option (List Bool)
 | []=>some []
 | d::r=>(zdF d).bind λb=>(kY r).map λs=>b::s
def zaC(f:CO (Sk×List D)):CO D:=λγ=>(f γ).bind λa=>(kY a.2).map λs=> .bl (s.all id)
def WJ(f:CO (Sk×List D)):CO D:=λγ=>(f γ).bind λa=>(kY a.2).map λs=> .bl (s.any id)
def Kk(f:CO D):CO D:=λγ=>(f γ).bind λd=>match d with
 | .int i=>some (.int i)
 | .bl b=>some (.int (if b then 1 else 0))
 | _=>none
def Vj(f:CO (Sk×List D)):CO Bool:=λγ=>(f γ).map λa=> !a.2.isEmpty
def zdG(f:CO D):CO D:=λγ=>((f γ).bind asI).map λi=> .int (-i)
def Qf(F G:D->D->Option D)(fa fb fc:CO D):CO D:=λγ=>(fa γ).bind λx=>(fb γ).bind λy=>((F x y).bind asB).bind λb=>if b=true then (fc γ).bind λz=>G y z else some (.bl false)
def wI(T:Tg)(f:CO D):CO Fl:=λγ=>(f γ).bind λd=>(qv T d γ).map .next
def zdW:D->Option Int
 | .tup (.int k::_)=>some k
 | _=>none
def vO:List D->Option (List Int)
 | []=>some []
 | d::r=>(zdW d).bind λk=>(vO r).map λl=>k::l
def zdu:List Int->Bool
 | a::b::r=>decide (a<b) && zdu (b::r)
 | _=>true
def zeA(ks:List Int):Nat:=(ks.dropLast.filter λk=>decide (k<ks.getLast?.getD 0)).length
def zfA(q:Nat)(ds:List D):List D:=ds.dropLast.take q++(ds.drop (ds.length - 1)++ds.dropLast.drop q)
def Vf(ds:List D):Option (List D):=(vO ds).bind λks=>if (1<=ds.length/\ds.length<=8)/\zdu ks.dropLast=true/\decide (ks.getLast?.getD 0∈ks.dropLast)=false then some (zfA (zeA ks) ds)else none
def Jr(f:CO (Sk×List D)):CO (List D):=λγ=>(f γ).bind λa=>match a.1 with
 | .L=>Vf a.2
 | _=>none
end DL
namespace L2
open PySem PySem.Spec PyProof.Rows
def ItAt(k:Sk)(h:Heap)(i l:Addr)(n:Nat):Prop:=match k with
 | .L=>h.IsListIter i l n
 | .T=>h.IsTupleIter i l n
def SqAt(k:Sk)(h:Heap)(l:Addr)(xs:Array Value):Prop:=match k with
 | .L=>h.IsList l xs
 | .T=>h.IsTuple l xs
def itO(k:Sk)(l:Addr):Obj:=match k with
 | .L=>{cls:= .type "list_iterator",data:= .fields #[.ref l,.int 0 0]}
 | .T=>{cls:= .type "tuple_iterator",data:= .fields #[.ref l,.int 0 0]}
theorem ItAt.at{k:Sk}{h h':Heap}{i l:Addr}{n:Nat}(x:ItAt k h i l n)(e : ∀o,h.get? i=some o->h'.get? i=some o):ItAt k h' i l n:=by
 cases k<;>exact let ⟨o,z,r⟩:=x;⟨o,e _ z,r⟩
theorem SqAt.at{k:Sk}{h h':Heap}{l:Addr}{xs:Array Value}(x:SqAt k h l xs)(e : ∀o,h.get? l=some o->h'.get? l=some o):SqAt k h' l xs:=by
 cases k<;>exact let ⟨o,z,r⟩:=x;⟨o,e _ z,r⟩
theorem ItAt.obj{k:Sk}{h:Heap}{i l:Addr}{n:Nat}(x:ItAt k h i l n) : ∃o,h.get? i=some o/\∀v,o.data ≠ .cell v:=by
 cases k<;>exact let ⟨o,I,_,d⟩:=x;⟨o,I,λv z=>by rw [d]at z;cases z⟩
theorem SqAt.lt{k:Sk}{h:Heap}{l:Addr}{xs:Array Value}(x:SqAt k h l xs):l<h.objs.size:=by
 cases k<;>exact let ⟨o,z,_⟩:=x;zgy z
theorem wj(k:Sk)(h:Heap)(l:Addr):ItAt k (h.push (itO k l)) h.objs.size l 0:=by
 cases k<;>exact⟨_,zgu _ rfl,rfl,rfl⟩
section
variable{prog:Program}{w:World}{A:Around}{E:Value->Shared->Prop}{s:Shared}
theorem ZV{k:Sk}{l:Addr}{xs:Array Value}{Q:Value->Shared->Prop}(z:SqAt k s.heap l xs)(I:Q (.ref s.heap.objs.size) {s with heap:=s.heap.push (itO k l)}):wpAny (model prog w) A (pyIter (.ref l)) Q E s:=by
 cases k
 ·exact zjS z I
 ·exact zi1 z I
theorem kz{k:Sk}{it l:Addr}{i:Nat}{items:Array Value}{x:Value}{Q:Value->Shared->Prop}(J:ItAt k s.heap it l i)(O:SqAt k s.heap l items)(hx:items[i]? = some x)
 (S : ∀h',ItAt k h' it l (i+1)->zh2 it s.heap h'->Q x {s with heap:=h'}):wpAny (model prog w) A (zgQ (.ref it)) Q E s:=by
 cases k with
 | L=>exact wpAny_nextOf_list_item J O hx S
 | T=>
  have I:s.heap.IsTupleIter it l i:=J;obtain⟨o,z,U,hd⟩:=id I;obtain⟨ol,Y,_,nl,Z⟩:=(show s.heap.IsTuple l items from O);unfold zgQ;refine zgi (zg9 (name:=zhg "__next__") I.typeIs ziT (zhu ziT I.typeIs entry_tupleiter_next ?_ (args_tupleiter_next _)));refine zgi (m:=field (.ref it) 0) (zhj z hd (x:= .ref l) rfl ?_);show wpAny _ _ (if (zgK l==zhI)=true then _ else _) _ _ s;rw [if_neg (show ¬((zgK l==zhI)=true)from zgB)];refine zgi (m:=field (.ref it) 1) (zhj z hd (x:= .int i 0) rfl ?_);refine zgi (m:=seqItems? (.ref l)) (zh0 Y Z ?_);simp only [zhn,hx];refine zgi (zjz z hd ⋯ (zgo ⟨x,rfl,zgo (S _ ?_ (zix ..))⟩));show Heap.IsTupleIter _ it l (i+1);exact⟨_,zjc _ z (zjg (ziu hd _)),(zjG ..).trans U,by rw [ziu hd];simp [rawInt]⟩
theorem wU{k:Sk}{it l:Addr}{i:Nat}{items:Array Value}{Q:Value->Shared->Prop}(z:A.handled=none)(O:ItAt k s.heap it l i)(S:SqAt k s.heap l items)(hx:items[i]? = none)
 (U : ∀h' e,Heap.ExtBut it s.heap h'->(∃o,h'.get? e=some o/\o.cls = .type "StopIteration")->E (.ref e) {s with heap:=h'}):wpAny (model prog w) A (zgQ (.ref it)) Q E s:=by
 cases k with
 | L=>exact wpAny_nextOf_list_end z O S hx U
 | T=>
  have I:s.heap.IsTupleIter it l i:=O;obtain⟨o,J,hc,hd⟩:=id I;obtain⟨ol,Y,_,nl,Z⟩:=(show s.heap.IsTuple l items from S);unfold zgQ;refine zgi (zg9 (name:=zhg "__next__") I.typeIs ziT (zhu ziT I.typeIs entry_tupleiter_next ?_ (args_tupleiter_next _)));refine zgi (m:=field (.ref it) 0) (zhj J hd (x:= .ref l) rfl ?_);show wpAny _ _ (if (zgK l==zhI)=true then _ else _) _ _ s;rw [if_neg (show ¬((zgK l==zhI)=true)from zgB)];refine zgi (m:=field (.ref it) 1) (zhj J hd (x:= .int i 0) rfl ?_);refine zgi (m:=seqItems? (.ref l)) (zh0 Y Z ?_);simp only [zhn,hx];refine zgi (zi6 (zgi (zjz J hd ⋯ ?_)));refine zgi (m:=newExc (.type "StopIteration") []) ?_;simp only [newExc,newTuple];refine zgi (zg8 ?_ (by size_fits));refine zgi (m:=firstArgMember _ _) (zjE (a:=zhI) (by first | rfl | (simp only [firstArgMember];rfl)) ?_);refine zg8 ?_ (by size_fits);simp only [raiseNew];refine zgi (wpAny_handled ?_)
  first | rw [show A.in1.handled=none from z] | rw [z]
  exact zgi (zgo (wpAny_throw (U _ _ (((zix ..).extBut.push _).push _) ⟨_,zgu _ rfl,rfl⟩)))
theorem XV{k1 k2:Sk}{z TI TO J O l1 l2:Addr}{n1 n2:Nat}{xs ys:Array Value}{x y a b:Value}{Q:Value->Shared->Prop}(D:ZipApart z TI TO J O l1 l2)
 (hz:IsZip s.heap z TI TO .none) (ap:IsPair s.heap TI (.ref J) (.ref O)) (aq:IsPair s.heap TO a b)
 (h1:ItAt k1 s.heap J l1 n1) (h2:ItAt k2 s.heap O l2 n2) (ar:SqAt k1 s.heap l1 xs) (as:SqAt k2 s.heap l2 ys) (hx:xs[n1]? = some x) (hy:ys[n2]? = some y)
 (hQ : ∀h',IsZip h' z TI TO (rawInt s.heap.objs.size)->IsPair h' TO x y->ItAt k1 h' J l1 (n1+1)->ItAt k2 h' O l2 (n2+1)->IsPair h' s.heap.objs.size x y->h'.objs.size=s.heap.objs.size+1->
   (∀c o,c≠z->c≠TO->c≠J->c≠O->s.heap.get? c=some o->h'.get? c=some o)->Q (.ref s.heap.objs.size) {s with heap:=h'}) :
 wpAny (model prog w) A (Builtin.«zip.__next__» ⟨[.ref z],[]⟩) (λaw s'=>∃v,aw = .done (.ret v)/\Q v s') E s:=by
 refine zgi (m:=field (.ref z) 2) (zhj hz rfl (x:= .bool false) rfl ?_);refine zgi (m:=field (.ref z) 3) (zhj hz rfl (x:= .ref TI) rfl ?_);refine zgi (zh0 ap rfl ?_);refine zgi (m:=zha (.ref z)) ?_;unfold zha;refine zgi (zhj hz rfl (x:= .none) rfl (zgo ?_));simp only [if_true];refine zgi (zi6 (zgi (zhj hz rfl (x:= .ref TO) rfl ?_)));refine zgi (zhw hz ⋯ λg1 ac S=>?_);replace ac:IsZip g1 z TI TO .ellipsis:=ac;refine zgi ?_;simp only [List.zipIdx_cons,List.zipIdx_nil,List.forIn_cons,List.forIn_nil];refine zgi (zgi (zjO ?_));refine zgi (m:=zgQ (.ref J)) (kz (h1.at λo e=>S.extBut _ _ D.i1z e) (ar.at λo e=>S.extBut _ _ D.l1z e) hx λg2 ay Y=>zgo ?_);have aj:IsPair g2 TO a b:=Y.extBut _ _ D.TOi1 (S.extBut _ _ D.TOz aq);refine zgi (zh0 aj rfl (zgi (zjv aj λg3 ad Z=>?_)));replace ad:IsPair g3 TO x b:=ad;refine zgi (wpAny_letGo (zgo (zgi (zgi (zjO ?_)))));refine zgi (m:=zgQ (.ref O)) (kz (h2.at λo e=>Z.extBut _ _ D.TOi2.symm (Y.extBut _ _ D.i12.symm (S.extBut _ _ D.i2z e))) (as.at λo e=>Z.extBut _ _ D.l2TO (Y.extBut _ _ D.l2i1 (S.extBut _ _ D.l2z e))) hy λg4 b9 a2=>zgo ?_);have ak:IsPair g4 TO x b:=a2.extBut _ _ D.TOi2 ad;refine zgi (zh0 ak rfl (zgi (zjv ak λI a8 a3=>?_)));replace a8:IsPair I TO x y:=a8;refine zgi (wpAny_letGo (zgo (zgo (zgi (zh0 a8 rfl (zgi (wpAny_newTuple ?_)))))));have hsz:I.objs.size=s.heap.objs.size:=by rw [a3.1,a2.1,Z.1,Y.1,S.1]
 have al:IsZip I z TI TO .ellipsis:=a3.extBut _ _ D.TOz.symm (a2.extBut _ _ D.i2z.symm (Z.extBut _ _ D.TOz.symm (Y.extBut _ _ D.i1z.symm ac)));have ba : ∀c o,c≠z->c≠TO->c≠J->c≠O->s.heap.get? c=some o->I.get? c=some o:=λc o U c2 c3 c4 e=>a3.extBut _ _ c2 (a2.extBut _ _ c4 (Z.extBut _ _ c2 (Y.extBut _ _ c3 (S.extBut _ _ U e))));have bb:ItAt k1 I J l1 (n1+1):=ay.at λo e=>a3.extBut _ _ D.TOi1.symm (a2.extBut _ _ D.i12 (Z.extBut _ _ D.TOi1.symm e));have bc:ItAt k2 I O l2 (n2+1):=b9.at λo e=>a3.extBut _ _ D.TOi2.symm e;have am:z<I.objs.size:=zgy al;refine zgi (m:=zhE (.ref z) (.ref I.objs.size)) ?_;unfold zhE;have bd:IsZip (I.push {cls:= .type "tuple",data:= .seq #[x,y]}) z TI TO .ellipsis:=zgk _ al;refine zgi (zhw bd ⋯ λg7 ag ah=>?_);replace ag:IsZip g7 z TI TO (rawInt I.objs.size):=ag;refine zhw ag ⋯ λg8 aa ai=>?_;replace aa:IsZip g8 z TI TO (rawInt I.objs.size):=aa;have up : ∀c o,c≠z->I.get? c=some o->g8.get? c=some o:=λc o U e=>ai.extBut _ _ U (ah.extBut _ _ U (zgk _ e));have an:IsPair g8 I.objs.size x y:=ai.extBut _ _ (zhM am) (ah.extBut _ _ (zhM am) (zgu _ rfl));have ao:g8.objs.size=I.objs.size+1:=by rw [ai.1,ah.1,zgW]
 rw [hsz]at aa an ao;refine zgo ⟨_,rfl,?_⟩;show Q (.ref I.objs.size) _;rw [hsz];exact hQ g8 aa (up _ _ D.TOz a8) (bb.at λo e=>up _ o D.i1z e) (bc.at λo e=>up _ o D.i2z e) an ao λc o U c2 c3 c4 e=>up c o U (ba c o U c2 c3 c4 e)
theorem Y4{k1 k2:Sk}{z TI TO O Y l1 l2:Addr}{n1 n2:Nat}{xs ys:Array Value}{a b:Value}{Q:Fin->Shared->Prop}(hh:A.handled=none)(D:ZipApart z TI TO O Y l1 l2)
 (hz:IsZip s.heap z TI TO .none) (aj:IsPair s.heap TI (.ref O) (.ref Y)) (ak:IsPair s.heap TO a b)
 (h1:ItAt k1 s.heap O l1 n1) (h2:ItAt k2 s.heap Y l2 n2) (ad:SqAt k1 s.heap l1 xs) (al:SqAt k2 s.heap l2 ys) (am:xs[n1]? = none\/ys[n2]? = none)
 (hE : ∀h' e,(∀c o,c≠z->c≠TO->c≠O->c≠Y->s.heap.get? c=some o->h'.get? c=some o)->(∃o,h'.get? e=some o/\o.cls = .type "StopIteration")->E (.ref e) {s with heap:=h'}) :
 wpAny (model prog w) A (Builtin.«zip.__next__» ⟨[.ref z],[]⟩) Q E s:=by
 refine zgi (m:=field (.ref z) 2) (zhj hz rfl (x:= .bool false) rfl ?_);refine zgi (m:=field (.ref z) 3) (zhj hz rfl (x:= .ref TI) rfl ?_);refine zgi (zh0 aj rfl ?_);refine zgi (m:=zha (.ref z)) ?_;unfold zha;refine zgi (zhj hz rfl (x:= .none) rfl (zgo ?_));simp only [if_true];refine zgi (zi6 (zgi (zhj hz rfl (x:= .ref TO) rfl ?_)));refine zgi (zhw hz ⋯ λg1 a4 I=>?_);replace a4:IsZip g1 z TI TO .ellipsis:=a4;refine zgi ?_;simp only [List.zipIdx_cons,List.zipIdx_nil,List.forIn_cons,List.forIn_nil];refine zgi (zgi (zjO ?_));have ae : ∀{g e:_} {Z:Obj},IsZip g z TI TO .ellipsis->(∀c o,c≠z->c≠TO->c≠O->c≠Y->s.heap.get? c=some o->g.get? c=some o)->g.get? e=some Z->Z.cls = .type "StopIteration"->
  wpAny (model prog w) A (setField (.ref z) 0 .none) (λ_ s'=>E (.ref e) s') E {s with heap:=g}:=λ{g e Z} af hk S a0=>by
  have aq:e≠z:=λq=>by subst q;rw [af]at S;cases S;simp at a0
  exact zhw af ⋯ λg3 _ U=>hE g3 e (λc o c1 c2 c3 c4 q=>U.extBut _ _ c1 (hk c o c1 c2 c3 c4 q)) ⟨Z,U.extBut _ _ aq S,a0⟩
 cases hx:xs[n1]? with
 | none=>
  refine zgi (m:=zgQ (.ref O)) (wU hh (h1.at λo e=>I.extBut _ _ D.i1z e) (ad.at λo e=>I.extBut _ _ D.l1z e) hx λg2 e J he=>?_);obtain⟨Z,S,a0⟩:=he;exact ae (J _ _ D.i1z.symm a4) (λc o c1 _ c3 _ q=>J _ _ c3 (I.extBut _ _ c1 q)) S a0
 | some x=>
  have hy:ys[n2]? = none:=by rcases am with h | h;rw [hx]at h;cases h;exact h
  refine zgi (m:=zgQ (.ref O)) (kz (h1.at λo e=>I.extBut _ _ D.i1z e) (ad.at λo e=>I.extBut _ _ D.l1z e) hx λg2 as J=>zgo ?_);have ah:IsPair g2 TO a b:=J.extBut _ _ D.TOi1 (I.extBut _ _ D.TOz ak);refine zgi (zh0 ah rfl (zgi (zjv ah λg3 au U=>?_)));refine zgi (wpAny_letGo (zgo (zgi (zgi (zjO ?_)))));refine zgi (m:=zgQ (.ref Y)) (wU hh (h2.at λo e=>U.extBut _ _ D.TOi2.symm (J.extBut _ _ D.i12.symm (I.extBut _ _ D.i2z e))) (al.at λo e=>U.extBut _ _ D.l2TO (J.extBut _ _ D.l2i1 (I.extBut _ _ D.l2z e))) hy λg4 e ai he=>?_);obtain⟨Z,S,a0⟩:=he;exact ae (ai _ _ D.i2z.symm (U.extBut _ _ D.TOz.symm (J.extBut _ _ D.i1z.symm a4))) (λc o c1 c2 c3 c4 q=>ai _ _ c4 (U.extBut _ _ c2 (J.extBut _ _ c3 (I.extBut _ _ c1 q)))) S a0
end
def k6(a b:Value):Obj:={cls:= .type "tuple",data:= .seq #[a,b]}
def zeb(TI TO:Addr):Obj:={cls:= .type "zip",data:= .fields #[.none,.bool false,.bool false,.ref TI,.ref TO]}
def vG(z I:Sk)(h:Heap)(J l2:Addr):Heap:=
 zhc (zhc (zhc (zhc (zhc h (itO z J)) (itO I l2)) (k6 (.ref h.objs.size) (.ref (h.objs.size+1)))) (k6 .none .none)) (zeb (h.objs.size+2) (h.objs.size+3))
theorem Y3(I J:Sk)(z l2:Addr)(xs ys:Array Value) :
 Meets (Builtin.«zip.__new__» ⟨[.type "zip",.ref z,.ref l2],[]⟩) (λ_ R s=>SqAt I s.heap z xs/\SqAt J s.heap l2 ys/\
  R (.ok (.ret (.ref (s.heap.objs.size+4)))) {s with heap:=vG I J s.heap z l2}):=
 .of_wp λprog w A R s h=>by
  obtain⟨O,g,d,tk,os⟩:=s;obtain⟨S,U,h⟩:=h;have a0:=sub_zip;have Y:SqAt I (Shared.heap ⟨O,g,d,tk,os⟩) z xs:=S;have Z:SqAt J (Shared.heap ⟨O.push (itO I z),g,d,tk,os⟩) l2 ys:=U.at λo e=>zgk _ e
  wp_walk using ZV Y,ZV Z
  refine⟨_,rfl,?_⟩;simp only [vG,k6,zeb,zgW]at h ⊢;exact h
section
variable{X:Cx}{pins:List (Addr×Obj)}{σ:St}{H:Hp}{s:Shared}{h':Heap}
theorem Inv.turnLaid{t':Nat}{fp:List Addr}{a:Addr}{o:HO}(I:Inv X pins σ H s)(k : ∀b u,b∉fp->s.heap.get? b=some u->h'.get? b=some u)(S : ∀b∈fp,FpOk X pins H b)
 (Y:s.heap.objs.size<=a) (new:ObjOk X.prog X.w (upd H a o) h' a o):Inv X pins σ (upd H a o) {s with heap:=h',toks:=t'}:=by
 have ha:H a=none:=I.hok.fresh Y;have Z : ∀b u,H b=some u->b∉fp:=λb u e z=>by rw [(S b z).1]at e;cases e
 have a0 : ∀b u,s.heap.get? b=some u->b≠a:=λb u e=>zgU (zgG (zgy e) Y);refine I.step (g':=s.gens) (d':=s.drawn) (ch:=fp) (λb J=>⟨(S b J).2.2.2.1,(S b J).2.1,(S b J).2.2.2.2.1,(S b J).2.2.2.2.2⟩) (λb u _ _ O e _=>k b u O e) (λb u _ _ O e _=>⟨u.slots,k b u O e⟩)
  (λb u _ e n=>by rw [zJ (a0 b u e)];exact n) (λb u O e=>⟨u,k b u O e⟩) (λb xs e=>by rw [zJ (jq e ha)];exact e) (λb U xs e=>by rw [zJ (jq e ha)];exact e)
  (λb ps e=>⟨#[],by rw [zJ (jq e ha),e];simp⟩) (λm hm=>?_) (λb u e=>?_) I.bare
 ·obtain⟨U,es,ep,ho,r⟩:=hm
  refine⟨U,es,ep,k _ U (λz=>(S _ z).2.1 rfl) ho,r⟩
 ·by_cases J:b=a
  ·subst J;rw [zH]at e;cases e;exact new
  ·rw [zJ J]at e
   refine(I.hok b u e).stay (λc v O q=>k c v ?_ q) (λc q=>by rw [zJ (jq q ha)];exact q) λc xs q=>by rw [zJ (jq q ha)];exact q
   rcases O with z | z
   ·rw [z];exact Z b u e
   ·exact Z c _ z
theorem Inv.turnedL{t':Nat}{fp:List Addr}(I:Inv X pins σ H s)(k : ∀b u,b∉fp->s.heap.get? b=some u->h'.get? b=some u)(O : ∀b∈fp,FpOk X pins H b):Inv X pins σ H {s with heap:=h',toks:=t'}:=by
 have Y : ∀b u,H b=some u->b∉fp:=λb u e z=>by rw [(O b z).1]at e;cases e
 refine I.step (g':=s.gens) (d':=s.drawn) (ch:=fp) (λb S=>⟨(O b S).2.2.2.1,(O b S).2.1,(O b S).2.2.2.2.1,(O b S).2.2.2.2.2⟩) (λb u _ _ J e _=>k b u J e) (λb u _ _ J e _=>⟨u.slots,k b u J e⟩)
  (λb u _ e n=>n) (λb u J e=>⟨u,k b u J e⟩) (λb xs e=>e) (λb U xs e=>e)
  (λb ps e=>⟨#[],by rw [e];simp⟩) (λm hm=>?_) (λb u e=>?_) I.bare
 ·obtain⟨U,es,ep,Z,r⟩:=hm
  refine⟨U,es,ep,k _ U (λz=>(O _ z).2.1 rfl) Z,r⟩
 ·refine(I.hok b u e).stay (λc v J q=>k c v ?_ q) (λc q=>q) λc xs q=>q
  rcases J with z | z
  ·rw [z];exact Y b u e
  ·exact Y c _ z
end
def SqK(k:Sk)(K:PySem.W.Frag)(H:Hp)(a:Addr)(xs:List V):Prop:=match k with
 | .L=>SqL K H a xs
 | .T=>SqT K H a xs
theorem Inv.sq{X:Cx}{pins:List (Addr×Obj)}{σ:St}{H:Hp}{s:Shared}{k:Sk}{a:Addr}{xs:List V}(I:Inv X pins σ H s)(h:SqK k X.K H a xs) :
 ∃J:List Value,Vals xs J/\SqAt k s.heap a J.toArray/\xs.length<=sizeLine:=by
 cases k with
 | L=>obtain⟨J,r,p,z⟩:=I.list h;exact⟨J,r,p.isList,z⟩
 | T=>obtain⟨J,r,p,z⟩:=I.tuple h;exact⟨J,r,p,z⟩
theorem Inv.sq_inj{X:Cx}{pins:List (Addr×Obj)}{σ:St}{H:Hp}{s:Shared}{k:Sk}{a:Addr}{xs ys:List V}(I:Inv X pins σ H s)(h:SqK k X.K H a xs)(h':SqK k X.K H a ys):xs=ys:=by
 cases k with
 | L=>exact I.list_inj h h'
 | T=>exact I.tuple_inj h h'
def Itz(z I:Sk)(K:PySem.W.Frag)(a b:Addr):It:=
 ⟨λi H=>∃xs ys,SqK z K H a xs/\SqK I K H b ys/\i<xs.length/\i<ys.length,
  λi H x H'=>∃p u v,x = .ref p/\H p=none/\H'=upd H p (.tup [u,v])/\(∀xs,SqK z K H a xs->xs[i]? = some u)/\(∀ys,SqK I K H b ys->ys[i]? = some v),
  λi H=>∃xs ys,SqK z K H a xs/\SqK I K H b ys/\(xs.length<=i\/ys.length<=i)⟩
theorem Y8{P:Program}{w:World}{K:PySem.W.Frag}{elts:List Expr}{x1:Nat}{tpos:Pos}(k1 k2:Sk){z TI TO U Y a b:Addr}(D:ZipApart z TI TO U Y a b) :
 Turn P w K (.Tuple elts x1 tpos) (Itz k1 k2 K a b) [z,TI,TO,U,Y] z (λi h=>IsZip h z TI TO .none/\IsPair h TI (.ref U) (.ref Y)/\(∃c d,IsPair h TO c d)/\ItAt k1 h U a i/\ItAt k2 h Y b i) where
 mem:=by simp
 obj:=λi h ⟨O,S,⟨c,d,Z⟩,h1,h2⟩ y hy=>by
  simp only [zgz,zgP,or_false]at hy;rcases hy with rfl | rfl | rfl | rfl | rfl
  ·exact⟨_,O,λv q=>by cases q⟩
  ·exact⟨_,S,λv q=>by cases q⟩
  ·exact⟨_,Z,λv q=>by cases q⟩
  ·exact h1.obj
  ·exact h2.obj
 keep:=λi h h' ⟨O,S,⟨c,d,Z⟩,h1,h2⟩ k=>
  ⟨k z ⋯ _ O,k TI ⋯ _ S,⟨c,d,k TO ⋯ _ Z⟩,h1.at λo e=>k U ⋯ o e,h2.at λo e=>k Y ⋯ o e⟩
 item:=by
  rintro X hP hw hK hc i pins s σ H E I hf ⟨O,S,⟨c,d,Z⟩,h1,h2⟩ ⟨xs,ys,ab,ac,an,ao⟩;subst hP hw hK;obtain⟨ap,af,p1,z1⟩:=I.sq ab;obtain⟨aq,ah,p2,z2⟩:=I.sq ac;have hx:xs[i]? = some xs[i]:=zgn an;have hy:ys[i]? = some ys[i]:=zgn ao;obtain⟨u1,ar,as⟩:=af.get hx;obtain⟨u2,au,av⟩:=ah.get hy;have hT:s.TypeIs (.ref z) "zip":=⟨_,O,rfl⟩;unfold pyNext;refine zgi (zii (zg9 (name:=zhg "__next__") hT zjk (zhu zjk hT F.entry_zip_next
   (XV D O S Z h1 h2 p1 p2 (x:=u1) (y:=u2) (by simpa using ar) (by simpa using au) λg a1 a2 a3 a4 a5 a6 a7=>zgo ⟨_,rfl,?_⟩) (F.args_zip_next_1 _))))
  refine wpAny_letOwnedTupleGo_zip a1 λg2 b9 a0=>?_;have lt : ∀{c o},s.heap.get? c=some o->s.heap.objs.size≠c:=λe=>zhM (zgy e);have ba:IsPair g2 s.heap.objs.size u1 u2:=a0.extBut _ _ (lt O) a5;have kk : ∀b' u,b' ∉ [z,TI,TO,U,Y]->s.heap.get? b'=some u->g2.get? b'=some u:=λb' u J e=>by
   simp only [zgz,zgP,or_false,not_or]at J;exact a0.extBut _ _ J.1 (a7 b' u J.1 J.2.2.1 J.2.2.2.1 J.2.2.2.2 e)
  have I1:Inv X pins σ (upd H s.heap.objs.size (.tup [xs[i],ys[i]])) {s with heap:=g2,toks:=s.toks}:=
   I.turnLaid (fp:=[z,TI,TO,U,Y]) kk hf (zgp _) ⟨by show 2<=sizeLine;decide,[u1,u2],.cons as (.cons av .nil),⟨_,ba,rfl,_,rfl⟩⟩
  have bc:H s.heap.objs.size=none:=I.fresh;refine⟨.ref s.heap.objs.size,_,I1,rfl,⟨_,_,_,rfl,bc,rfl,λbj ai=>by rw [I.sq_inj ai ab];exact hx,λbl ai=>by rw [I.sq_inj ai ac];exact hy⟩,?_,λb' J=>?_⟩
  ·exact⟨b9,a0.extBut _ _ D.TIz (a7 _ _ D.TIz D.TITO D.TIi1 D.TIi2 S),⟨_,_,a0.extBut _ _ D.TOz a2⟩,a3.at λo e=>a0.extBut _ _ D.i1z e,a4.at λo e=>a0.extBut _ _ D.i2z e⟩
  ·have bd:b'≠s.heap.objs.size:=by
    simp only [zgz,zgP,or_false]at J;rcases J with rfl | rfl | rfl | rfl | rfl
    ·exact(lt O).symm
    ·exact(lt S).symm
    ·exact(lt Z).symm
    ·obtain⟨o,e,_⟩:=h1.obj;exact(lt e).symm
    ·obtain⟨o,e,_⟩:=h2.obj;exact(lt e).symm
   rw [zJ bd];exact(hf b' J).1
 done:=by
  rintro X hP hw hK hc i pins s σ H E I hf ⟨O,S,⟨c,d,Z⟩,h1,h2⟩ ⟨xs,ys,ab,ac,hi⟩;subst hP hw hK;obtain⟨ap,af,p1,z1⟩:=I.sq ab;obtain⟨aq,ah,p2,z2⟩:=I.sq ac;have hT:s.TypeIs (.ref z) "zip":=⟨_,O,rfl⟩;have l1:=af.length;have l2:=ah.length;unfold pyNext;refine zgi (zii (zg9 (name:=zhg "__next__") hT zjk (zhu zjk hT F.entry_zip_next
   (Y4 (show X.A.handled=none from I.ok.hd hc) D O S Z h1 h2 p1 p2 (by rcases hi with q | q;left;simp;omega;right;simp;omega) λg e hk he=>?_) (F.args_zip_next_1 _))))
  obtain⟨o,ho,bh⟩:=he;refine zgi (zjW (T:="StopIteration") (b:=true) ⟨o,ho,bh⟩ isSubtype_stop (zgo ⟨rfl,?_⟩));refine I.turnedL (t':=s.toks) (fp:=[z,TI,TO,U,Y]) (λb' u J e=>?_) hf;simp only [zgz,zgP,or_false,not_or]at J;exact hk b' u J.1 J.2.2.1 J.2.2.2.1 J.2.2.2.2 e
 self:=λ_ _ _ _ _ st h=>wpAny_pyIter_zip st.1 h
def zf9(K:PySem.W.Frag)(ta:TA):TI:=λσ H R=>ta σ H λvs H1=>∃z I a b,vs=[.ref a,.ref b]/\(∃xs,SqK z K H1 a xs)/\(∃ys,SqK I K H1 b ys)/\R (Itz z I K a b) H1
theorem zcy{X:Cx}{e1 O:Expr}{ta:TA}{p pos:Pos}{elts:List Expr}{x1:Nat}{tpos:Pos}(hg:Gl X "zip")(hm:X.mg "zip" = none)(ha:PA X [e1,O] ta)
 (hv:bootBuiltins "zip" = some (.type "zip")) (hs:starEach [e1,O] X.env=[(false,eval e1 X.env),(false,eval O X.env)]:=by rfl) (a0:starEach [O] X.env=[(false,eval O X.env)]:=by rfl) :
 PI X (.Tuple elts x1 tpos) (.Call (.Name "zip" p) [e1,O] [] pos) (zf9 X.K ta):=by
 intro pins s σ H R I h;refine Call_ (xX I hg hm hv (zho (thn (ha pos pins s σ H _ I h) λus s1 hZ=>?_) (by rw [hs,a0]) (by rw [a0];rfl)));obtain⟨vs,H1,S,r1,q1⟩:=hZ;obtain⟨z,J,a,b,e,⟨xs,ad⟩,⟨ys,ae⟩,q⟩:=q1;subst e;obtain⟨w1,w2,eu,ag,ah⟩:=zbO r1;subst eu;cases ag;cases ah;obtain⟨ai,aq,p1,z1⟩:=S.sq ad;obtain⟨aj,ar,p2,z2⟩:=S.sq ae;have la:=p1.lt;have lb:=p2.lt;refine callType_new F.called_zip ⋯ (F.typeCall_zip_2 _ _) (F.newCall_zip_2 _ _) (λobj=>F.args_object_init_3 obj _ _) F.entry_zip_new (Y3 z J a b ai.toArray aj.toArray) ⟨p1,p2,?_⟩;have keep : ∀c o,s1.heap.get? c=some o->(vG z J s1.heap a b).get? c=some o:=λc o e=>
  zgk _ (zgk _ (zgk _ (zgk _ (zgk _ e))))
 have y1:(zhc s1.heap (itO z a)).objs.size=s1.heap.objs.size+1:=zgW ..;have y2:(zhc (zhc s1.heap (itO z a)) (itO J b)).objs.size=s1.heap.objs.size+2:=by rw [zgW,y1]
 have y3:(zhc (zhc (zhc s1.heap (itO z a)) (itO J b)) (k6 (.ref s1.heap.objs.size) (.ref (s1.heap.objs.size+1)))).objs.size=s1.heap.objs.size+3:=by rw [zgW,y2]
 have y4:(zhc (zhc (zhc (zhc s1.heap (itO z a)) (itO J b)) (k6 (.ref s1.heap.objs.size) (.ref (s1.heap.objs.size+1)))) (k6 .none .none)).objs.size=s1.heap.objs.size+4:=by rw [zgW,y3]
 have g0:ItAt z (vG z J s1.heap a b) s1.heap.objs.size a 0:=(wj z s1.heap a).at λo e=>zgk _ (zgk _ (zgk _ (zgk _ e)));have g1:ItAt J (vG z J s1.heap a b) (s1.heap.objs.size+1) b 0:=by
  have q:=wj J (zhc s1.heap (itO z a)) b;rw [y1]at q;exact q.at λo e=>zgk _ (zgk _ (zgk _ e))
 have g2:IsPair (vG z J s1.heap a b) (s1.heap.objs.size+2) (.ref s1.heap.objs.size) (.ref (s1.heap.objs.size+1)):=by
  have q:_=some (k6 (.ref s1.heap.objs.size) (.ref (s1.heap.objs.size+1))):=zgu (zhc (zhc s1.heap (itO z a)) (itO J b)) (o:=k6 (.ref s1.heap.objs.size) (.ref (s1.heap.objs.size+1))) rfl;rw [y2]at q;exact zgk _ (zgk _ q)
 have g3:IsPair (vG z J s1.heap a b) (s1.heap.objs.size+3) .none .none:=by
  have q:_=some (k6 .none .none):=zgu (zhc (zhc (zhc s1.heap (itO z a)) (itO J b)) (k6 (.ref s1.heap.objs.size) (.ref (s1.heap.objs.size+1)))) (o:=k6 .none .none) rfl;rw [y3]at q;exact zgk _ q
 have Z:IsZip (vG z J s1.heap a b) (s1.heap.objs.size+4) (s1.heap.objs.size+2) (s1.heap.objs.size+3) .none:=by
  have q:=zgu (zhc (zhc (zhc (zhc s1.heap (itO z a)) (itO J b)) (k6 (.ref s1.heap.objs.size) (.ref (s1.heap.objs.size+1)))) (k6 .none .none)) (o:=zeb (s1.heap.objs.size+2) (s1.heap.objs.size+3)) rfl;rw [y4]at q;exact q
 refine⟨⟨_,Z,rfl⟩,wpAny_pyIter_zip (s:={s1 with heap:=vG z J s1.heap a b}) Z ?_⟩;have I2:Inv X pins σ H1 {s1 with heap:=vG z J s1.heap a b,toks:=s1.toks}:=S.kept keep;have nn : ∀m:Nat,s1.heap.objs.size≠s1.heap.objs.size+m+1:=λm=>by omega
 have U : ∀m:Nat,a≠s1.heap.objs.size+m:=λm=>zgU (zgG la (zhk _ m));have Y : ∀m:Nat,b≠s1.heap.objs.size+m:=λm=>zgU (zgG lb (zhk _ m));have ne : ∀m n:Nat,m≠n->(s1.heap.objs.size+m:Nat)≠s1.heap.objs.size+n:=λm n h=>by omega
 have D:ZipApart (s1.heap.objs.size+4) (s1.heap.objs.size+2) (s1.heap.objs.size+3) s1.heap.objs.size (s1.heap.objs.size+1) a b:=
  ⟨ne 2 4 ⋯,ne 3 4 ⋯,ne 0 4 ⋯,ne 1 4 ⋯,ne 2 3 ⋯,ne 2 0 ⋯,ne 2 1 ⋯,ne 3 0 ⋯,ne 3 1 ⋯,ne 0 1 ⋯,
   U 4,U 3,U 0,U 1,Y 4,Y 3,Y 0,Y 1⟩
 refine⟨_,[s1.heap.objs.size+4,s1.heap.objs.size+2,s1.heap.objs.size+3,s1.heap.objs.size,s1.heap.objs.size+1],_,_,H1,rfl,I2,Y8 z J D,⟨Z,g2,⟨_,_,g3⟩,g0,g1⟩,λc hc=>?_,q⟩;have a6:s1.heap.objs.size<=c:=by
  simp only [zgz,zgP,or_false]at hc;rcases hc with rfl | rfl | rfl | rfl | rfl
  ·exact zhk _ _
  ·exact zhk _ _
  ·exact zhk _ _
  ·exact zgp _
  ·exact zhk _ _
 exact S.fpOk a6 (S.hok.fresh a6)
def Itk(k:Sk)(K:PySem.W.Frag)(a:Addr):It:=match k with
 | .L=>Itl K a
 | .T=>Itt K a
def zga(K:PySem.W.Frag)(tl:TE):TI:=λσ H R=>tl σ H λx H1=>∃a k,x = .ref a/\(∃xs,SqK k K H1 a xs)/\R (Itk k K a) H1
theorem WT{X:Cx}{tg l:Expr}{tl:TE}(O:PE X l tl):PI X tg l (zga X.K tl):=by
 intro pins s σ H R I h;refine thn (O pins s σ H _ I h) λv s1 S=>?_;obtain⟨x,H1,z,U,Y⟩:=S;obtain⟨a,k,e,⟨xs,Z⟩,q⟩:=Y;subst e;cases U;have J : ∀b ∈ [s1.heap.objs.size],FpOk X pins H1 b:=λb hb=>by
  have e:b=s1.heap.objs.size:=by simpa using hb
  subst e;exact z.fpOk (zgp _) (z.hok.fresh (zgp _))
 obtain⟨a1,rv,p,hz⟩:=z.sq Z;cases k with
 | L=>exact zjS p ⟨s1.heap.objs.size,[s1.heap.objs.size],_,_,H1,rfl,z.kept (t':=s1.toks) λb o e=>zgk _ e,X2 a _,⟨_,zgu _ rfl,rfl,rfl⟩,J,q⟩
 | T=>exact zi1 p ⟨s1.heap.objs.size,[s1.heap.objs.size],_,_,H1,rfl,z.kept (t':=s1.toks) λb o e=>zgk _ e,QY a _,⟨_,zgu _ rfl,rfl,rfl⟩,J,q⟩
section
variable{X:Cx}{pins:List (Addr×Obj)}{σ:St}{H:Hp}{s:Shared}{a:Addr}{y v:V}{u r:Value}{o:Option V}{A:Around}{E:Value->Shared->Prop}
theorem Inv.big(I:Inv X pins σ H s):sysModules<s.heap.objs.size:=by
 have h:mainGlobals<s.heap.objs.size:=(I.mod.glob.keeps I.bk).lt;exact Nat.lt_trans ⋯ h
end
def zfS(i:Expr):Prop:=∀z I,subscripted i false z I=operate [z,I] (getItem z I)
theorem zal{prog:Program}{w:World}{A:Around}{E:Value->Shared->Prop}{s:Shared}{env:Env}{value z:Expr}{pos:Pos}{T id:String}{Q:Value->Shared->Prop}
 (Z:typeLookup (.type T) "__getitem__" = pure (some (.builtin id))) (hs:zfS z)
 (h:wpAny (model prog w) A (eval value env) (λo S=>wpAny (model prog w) A (eval z env) (λi I=>I.TypeIs o T/\wpAny (model prog w) A (getItem o i) Q E I) E S) E s) :
 wpAny (model prog w) A (eval (.Subscript value z pos) env) Q E s:=by
 refine Subscript_ (zid h (λo S h₁=>zid h₁ (λi I J=>?_) λ_ _ x=>x) λ_ _ x=>x);obtain⟨U,J⟩:=J;unfold subscriptTail;refine zgi ?_;rw [getitemInPython_of_ne U.not_modules];refine zgi (wpAny_specialOf U Z ?_);have O:wpAny (model prog w) A (subscripted z false o i) (λr Y=>wpAny (model prog w) A (letTemporaryGo value o r >>= λ_=>pure r) Q E Y) E I:=by
  rw [hs o i];exact wpAny_operating (zid J (λr Y h₃=>zgi (wpAny_letTemporaryGo (zgo h₃))) λ_ _ x=>x)
 first
  | exact zgo (zgi O)
  | exact zgi (zgo (zgi O))
  | exact zgi O
end L2
namespace DL
open PySem PySem.Spec PyProof.Rows L2
def xNames:List Str:=["NoPrime","Nought","NoTable","NoWidths","NoRow","Unlike","TooMany","NoTurn","NoLine","Nothing","NoArrow","NoText","NoRoom"]
def xCls(K:PySem.W.Frag)(c:Str):Option Addr:=match ziI K mainGlobals c with
 | some (some (.ref C))=>some C
 | _=>none
def zae(K:PySem.W.Frag)(C:Addr):Bool:=
 ["int","bool","str","tuple","list"].all (λt=>zhK K (.ref C) (.type t)==some false) && zhK K (.ref C) (.type "ValueError")==some true &&
 PySem.W.findIn K (.ref C) "__getattribute__" == some (some (.builtin "BaseException.__getattribute__")) && PySem.W.findIn K (.ref C) "__getattr__" == some none &&
 PySem.W.findIn K (.ref C) "__class__" == some (some (.builtin "object.__class__")) && PySem.W.mroIn K C (.type "object")==some true && PySem.W.mroIn K C (.type "BaseException")==some true &&
 PySem.W.specialIn K (.builtin "object.__class__") "__get__" == some (some (.builtin "getset_descriptor.__get__")) && PySem.W.takesIn K (.builtin "object.__class__")==some true &&
 (PySem.W.clsIn K C).any (λz=> !z.hasDel) && ziL K (.ref C)==some (.type "type")
def xAll(K:PySem.W.Frag):Bool:=match xCls K "SplitError" with
 | some S=>xNames.all λc=>match xCls K c with
  | some C=>zae K C && zhK K (.ref C) (.ref S)==some true && xNames.all λz=>match xCls K z with
   | some I=>zhK K (.ref C) (.ref I)==some (c==z)
   | none=>false
  | none=>false
 | none=>false
def XObj(h:Heap)(a:Addr)(C:Addr):Prop:=∃o vs,h.get? a=some o/\o.cls = .ref C/\o.data = .fields vs
structure XRep(K:PySem.W.Frag)(H:Hp)(c:Str)(n:Option Int)(a:Addr):Prop where
 all:xAll K=true
 mem:c∈xNames
 ex : ∃C φ,xCls K c=some C/\H a=some (.ext φ)/\(∀h,φ h->XObj h a C)/\
  match n with
  | none=>True
  | some i=>∃d,(∀h,φ h->∃o,h.get? a=some o/\o.dict=some d)/\H d=some (.xd [(if c==("NoRoom" : Str)then "room" else "at",.int i)])
theorem XRep.mono{K:PySem.W.Frag}{H H':Hp}{c:Str}{n:Option Int}{a:Addr}(e : ∀b o,H b=some o->H' b=some o)(h:XRep K H c n a):XRep K H' c n a:=by
 obtain⟨h1,h2,C,φ,I,g2,J,z⟩:=h;refine⟨h1,h2,C,φ,I,e _ _ g2,J,?_⟩;cases n with
 | none=>exact z
 | some i=>obtain⟨d,O,S⟩:=z;exact⟨d,O,e _ _ S⟩
theorem zad{K:PySem.W.Frag}{c:Str}{C:Addr}(h:xAll K=true)(J:c∈xNames)(e:xCls K c=some C) : ∃S,xCls K "SplitError" = some S/\zae K C=true/\zhK K (.ref C) (.ref S)=some true/\
 ∀z I,z∈xNames->xCls K z=some I->zhK K (.ref C) (.ref I)=some (c==z):=by
 unfold xAll at h;split at h
 ·rename_i S O
  have h1:=zil.mp h c J;rw [e]at h1;simp only [Bool.and_eq_true,beq_iff_eq]at h1;refine⟨S,O,h1.1.1,h1.1.2,λz I U Y=>?_⟩;have h2:=zil.mp h1.2 z U;rw [Y]at h2;exact beq_iff_eq.mp h2
 ·cases h
abbrev St:=L2.St
def zeN:D->Option Key
 | .int i=>some (.inl i)
 | .str x=>some (.inr x)
 | _=>none
def WZ:List D->Option (List Key)
 | []=>some []
 | d::ds=>(zeN d).bind λk=>(WZ ds).map λr=>k::r
def DRp(H:Hp)(a:Addr)(ks:List D)(xs:List V):Prop:=∃kk,WZ ks=some kk/\kk.length=xs.length/\H a=some (.dK (kk.zip xs))
def zaj(k:List Int):Int:=reduceHash (Builtin.Tuple.tupleHashOf (k.map hashInt))
def zbM(o:Obj)(xs:List (List Int×Addr×Value)):Prop:=o.ExactDict/\∃es ep,o.data = .dict es ep/\es.toList=xs.map (λx=>⟨zaj x.1,.ref x.2.1,x.2.2⟩)/\(xs.map (·.1)).Nodup
def atO(a:Addr)(o:Obj):HO:= .ext λh=>h.get? a=some o
def DRt(K:PySem.W.Frag)(H:Hp)(a:Addr)(ks:List (List Int))(ys:List V):Prop:=
 (a==sysModules)=false/\∃o xs,H a=some (atO a o)/\zbM o xs/\xs.map (·.1)=ks/\xs.length<=sizeLine/\(∀x∈xs,SqT K H x.2.1 (x.1.map V.int))/\Vals ys (xs.map (·.2.2))
mutual
def Rep(K:PySem.W.Frag)(H:Hp):D->V->Prop
 | .non,v=>v = .non
 | .bl b,v=>v = .bl b
 | .int i,v=>v = .int i
 | .str x,v=>v = .str x
 | .tup ds,v=>∃a xs,v = .ref a/\SqT K H a xs/\Reps K H ds xs
 | .lst ds,v=>∃a xs,v = .ref a/\SqL K H a xs/\Reps K H ds xs
 | .exc c n,v=>∃a,v = .ref a/\XRep K H c n a
 | .dic ks vs,v=>∃a xs,v = .ref a/\DRp H a ks xs/\Reps K H vs xs
 | .dct ks vs,v=>∃a xs,v = .ref a/\DRt K H a ks xs/\Reps K H vs xs
def Reps(K:PySem.W.Frag)(H:Hp):List D->List V->Prop
 | [],xs=>xs=[]
 | d::ds,xs=>∃x r,xs=x::r/\Rep K H d x/\Reps K H ds r
end
theorem sameT{K:PySem.W.Frag}{H H':Hp}{a:Addr}{xs:List V}(e:Same H H')(h:SqT K H a xs):SqT K H' a xs:=by
 rcases h with(h | ⟨o,h⟩) | h
 ·exact .inl (.inl (e _ _ h))
 ·exact .inl (.inr ⟨o,e _ _ h⟩)
 ·exact .inr h
theorem Zy{k:Sk}{K:PySem.W.Frag}{H H':Hp}{a:Addr}{xs:List V}(e:Same H H')(h:SqK k K H a xs):SqK k K H' a xs:=by
 cases k
 ·exact e.seq h
 ·exact sameT e h
mutual
theorem Rep.mono{K:PySem.W.Frag}{H H':Hp}(e:Same H H') : ∀{d:D} {v:V},Rep K H d v->Rep K H' d v
 | .non,_,h=>h
 | .bl _,_,h=>h
 | .int _,_,h=>h
 | .str _,_,h=>h
 | .tup ds,v,h=>by
  obtain⟨a,xs,e1,h1,h2⟩:=(show ∃a xs,v = .ref a/\SqT K H a xs/\Reps K H ds xs from h);exact(show ∃a xs,v = .ref a/\SqT K H' a xs/\Reps K H' ds xs from⟨a,xs,e1,sameT e h1,Reps.mono e h2⟩)
 | .lst ds,v,h=>by
  obtain⟨a,xs,e1,h1,h2⟩:=(show ∃a xs,v = .ref a/\SqL K H a xs/\Reps K H ds xs from h);exact(show ∃a xs,v = .ref a/\SqL K H' a xs/\Reps K H' ds xs from⟨a,xs,e1,e.seq h1,Reps.mono e h2⟩)
 | .exc c n,v,h=>by
  obtain⟨a,e1,h1⟩:=(show ∃a,v = .ref a/\XRep K H c n a from h);exact(show ∃a,v = .ref a/\XRep K H' c n a from⟨a,e1,h1.mono e⟩)
 | .dic ks vs,v,h=>by
  obtain⟨a,xs,e1,⟨kk,z,g2,I⟩,h2⟩:=(show ∃a xs,v = .ref a/\DRp H a ks xs/\Reps K H vs xs from h);exact(show ∃a xs,v = .ref a/\DRp H' a ks xs/\Reps K H' vs xs from⟨a,xs,e1,⟨kk,z,g2,e _ _ I⟩,Reps.mono e h2⟩)
 | .dct ks vs,v,h=>by
  obtain⟨a,xs,e1,⟨z,o,zs,g2,I,J,O,g6,S⟩,h2⟩:=(show ∃a xs,v = .ref a/\DRt K H a ks xs/\Reps K H vs xs from h);exact(show ∃a xs,v = .ref a/\DRt K H' a ks xs/\Reps K H' vs xs from⟨a,xs,e1,⟨z,o,zs,e _ _ g2,I,J,O,λx hx=>sameT e (g6 x hx),S⟩,Reps.mono e h2⟩)
theorem Reps.mono{K:PySem.W.Frag}{H H':Hp}(e:Same H H') : ∀{ds:List D} {xs:List V},Reps K H ds xs->Reps K H' ds xs
 | [],_,h=>h
 | d::ds,xs,h=>by
  obtain⟨x,r,e1,h1,h2⟩:=(show ∃x r,xs=x::r/\Rep K H d x/\Reps K H ds r from h);exact(show ∃x r,xs=x::r/\Rep K H' d x/\Reps K H' ds r from⟨x,r,e1,Rep.mono e h1,Reps.mono e h2⟩)
end
section
variable{K:PySem.W.Frag}{H:Hp}
theorem Reps.nil:Reps K H [] []:=(show([]:List V)=[]from rfl)
theorem Reps.cons{d:D}{ds:List D}{x:V}{xs:List V}(h:Rep K H d x)(t:Reps K H ds xs):Reps K H (d::ds) (x::xs):=⟨x,xs,rfl,h,t⟩
theorem Reps.inv_nil{xs:List V}(h:Reps K H [] xs):xs=[]:=h
theorem Reps.inv_cons{d:D}{ds:List D}{xs:List V}(h:Reps K H (d::ds) xs) : ∃x r,xs=x::r/\Rep K H d x/\Reps K H ds r:=h
theorem Reps.length : ∀{ds:List D} {xs:List V},Reps K H ds xs->xs.length=ds.length
 | [],xs,h=>by rw [h.inv_nil];rfl
 | d::ds,xs,h=>by
  obtain⟨x,r,e,_,t⟩:=h.inv_cons;rw [e,zg2,zg2,Reps.length t]
theorem Reps.get : ∀{ds:List D} {xs:List V} {i:Nat} {d:D},Reps K H ds xs->ds[i]? = some d->∃x,xs[i]? = some x/\Rep K H d x
 | [],_,_,_,_,e=>by simp at e
 | c::ds,xs,0,d,h,e=>by
  obtain⟨x,r,e1,h1,_⟩:=h.inv_cons;simp at e;subst e;exact⟨x,by rw [e1];rfl,h1⟩
 | c::ds,xs,i+1,d,h,e=>by
  obtain⟨x,r,e1,_,t⟩:=h.inv_cons;obtain⟨y,z,g2⟩:=Reps.get (i:=i) (d:=d) t (by simpa using e);exact⟨y,by rw [e1];simpa using z,g2⟩
theorem Reps.getV{ds:List D}{xs:List V}{i:Nat}{x:V}(h:Reps K H ds xs)(e:xs[i]? = some x) : ∃d,ds[i]? = some d/\Rep K H d x:=by
 have hi:i<ds.length:=by rw [<- h.length];exact(zgw.mp e).1
 obtain⟨y,e1,r⟩:=h.get (zgn hi);rw [e]at e1;cases e1;exact⟨_,zgn hi,r⟩
theorem Reps.append : ∀{ds es:List D} {xs ys:List V},Reps K H ds xs->Reps K H es ys->Reps K H (ds++es) (xs++ys)
 | [],_,xs,_,h,g=>by rw [h.inv_nil];exact g
 | d::ds,es,xs,ys,h,g=>by
  obtain⟨x,r,e,h1,t⟩:=h.inv_cons;rw [e];exact Reps.cons h1 (Reps.append t g)
theorem Reps.drop : ∀{ds:List D} {xs:List V} (n:Nat),Reps K H ds xs->Reps K H (ds.drop n) (xs.drop n)
 | _,_,0,h=>h
 | [],xs,n+1,h=>by rw [h.inv_nil];exact Reps.nil
 | d::ds,xs,n+1,h=>by
  obtain⟨x,r,e,_,t⟩:=h.inv_cons;rw [e];exact Reps.drop n t
theorem Reps.take : ∀{ds:List D} {xs:List V} (n:Nat),Reps K H ds xs->Reps K H (ds.take n) (xs.take n)
 | _,_,0,h=>by simp;exact Reps.nil
 | [],xs,n+1,h=>by rw [h.inv_nil];exact Reps.nil
 | d::ds,xs,n+1,h=>by
  obtain⟨x,r,e,h1,t⟩:=h.inv_cons;rw [e];exact Reps.cons h1 (Reps.take n t)
end
structure Ext(H0 H H0' H':Hp):Prop where
 s0:Same H0 H0'
 s1:Same H H'
 sub:Same H0' H'
 new : ∀a,H0 a=none->H a≠none->H0' a=none
theorem Ext.refl{H0 H:Hp}(s:Same H0 H):Ext H0 H H0 H:=⟨Same.refl _,Same.refl _,s,λ_ h _=>h⟩
theorem Ext.trans{H0 H H1 z H2 I:Hp}(a:Ext H0 H H1 z)(b:Ext H1 z H2 I):Ext H0 H H2 I:=
 ⟨a.s0.trans b.s0,a.s1.trans b.s1,b.sub,λc h1 h2=>b.new c (a.new c h1 h2) (by
  cases q:H c with
  | none=>exact absurd q h2
  | some o=>rw [a.s1 c o q];simp)⟩
theorem z5{H:Hp}{p:Addr}(h:H p=none)(o:HO):Same H (upd H p o):=λb u q=>by rw [zJ (jq q h)];exact q
theorem jp{H0 H:Hp}(s:Same H0 H){p:Addr}(h:H p=none):H0 p=none:=s.free h
theorem Kh{H0 H:Hp}{p:Addr}{o:HO}(s:Same H0 H):Same (upd H0 p o) (upd H p o):=λb u q=>by
 by_cases e:b=p
 ·subst e;rw [zH]at q ⊢;exact q
 ·rw [zJ e]at q ⊢;exact s b u q
theorem Ext.alloc{H0 H:Hp}{p:Addr}(s:Same H0 H)(h:H p=none)(o:HO):Ext H0 H (upd H0 p o) (upd H p o):=
 ⟨z5 (jp s h) o,z5 h o,Kh s,λa h1 h2=>by rw [zJ (λe=>h2 (by rw [e];exact h))];exact h1⟩
theorem Ext.hide{H0 H:Hp}{p:Addr}(s:Same H0 H)(h:H p=none)(o:HO):Ext H0 H H0 (upd H p o):=
 ⟨Same.refl _,z5 h o,s.trans (z5 h o),λa h1 _=>h1⟩
theorem Ext.show{H0 H H0' H':Hp}{a:Addr}{o:HO}(e:Ext H0 H H0' H')(h1:H a=none)(h2:H0' a=none)(J:H' a=some o)(s:Same H0 H):Ext H0 H (upd H0' a o) H':=
 ⟨e.s0.trans (z5 h2 o),e.s1,λb u q=>by
  by_cases z:b=a
  ·subst z;rw [zH]at q;rw [J];exact q
  ·rw [zJ z]at q;exact e.sub b u q,λb O I=>by
  rw [zJ (λz=>I (by rw [z];exact h1))];exact e.new b O I⟩
structure Nest(K:PySem.W.Frag)(H0 H:Hp)(rows:List (List D))(a:Addr)(bs:List Addr):Prop where
 a0:H0 a=none
 ha:H a=some (.lst (bs.map V.ref))
 nd:(a::bs).Nodup
 len:bs.length=rows.length
 row : ∀(k:Nat) b row,bs[k]? = some b->rows[k]? = some row->H0 b=none/\∃xs,H b=some (.lst xs)/\Reps K H0 row xs
theorem Nest.at{K:PySem.W.Frag}{H0 H:Hp}{rows:List (List D)}{a:Addr}{bs:List Addr}(n:Nest K H0 H rows a bs){b:Addr}(z:b∈a::bs):H0 b=none/\∃xs,H b=some (.lst xs):=by
 rcases zgz.mp z with rfl | z
 ·exact⟨n.a0,_,n.ha⟩
 ·obtain⟨k,I⟩:=List.getElem?_of_mem z
  have J:=(zgw.mp I).1;rw [n.len]at J;obtain⟨h1,xs,h2,_⟩:=n.row k b _ I (zgn J);exact⟨h1,xs,h2⟩
theorem Nest.move{K:PySem.W.Frag}{H0 H H0' H':Hp}{rows:List (List D)}{a:Addr}{bs:List Addr}(n:Nest K H0 H rows a bs)(s:Same H0 H0')(z : ∀b∈a::bs,H0' b=none)(h : ∀b∈a::bs,H' b=H b):Nest K H0' H' rows a bs:=
 ⟨z a zgI,by rw [h a zgI];exact n.ha,n.nd,n.len,λk b row I O=>by
  obtain⟨_,xs,h2,S⟩:=n.row k b row I O;have J:b∈a::bs:=zgJ _ (ziD I);exact⟨z b J,xs,by rw [h b J];exact h2,S.mono s⟩⟩
def NestOk(K:PySem.W.Frag)(H0 H:Hp)(σ:St)(γ:Ctx):Prop:=
 (∀(i:Nat) rows,γ[i]? = some (.nest rows)->∃a bs,σ[i]? = some (some (.ref a))/\Nest K H0 H rows a bs/\∀(j:Nat) ds c,γ[j]? = some (.own ds)->σ[j]? = some (some (.ref c))->c∉a::bs)/\
 ∀(i j:Nat) z r2,γ[i]? = some (.nest z)->γ[j]? = some (.nest r2)->i=j
theorem NestOk.nil0{K:PySem.W.Frag}{H0 H:Hp}{σ:St}{γ:Ctx}(h : ∀(i:Nat) rows,γ[i]? ≠ some (.nest rows)):NestOk K H0 H σ γ:=⟨λi rows e=>absurd e (h i rows),λi j z r2 e=>absurd e (h i z)⟩
theorem NestOk.move{K:PySem.W.Frag}{H0 H H0' H':Hp}{σ:St}{γ:Ctx}(n:NestOk K H0 H σ γ)(s:Same H0 H0')(h : ∀(i:Nat) rows a bs,γ[i]? = some (.nest rows)->σ[i]? = some (some (.ref a))->Nest K H0 H rows a bs->(∀(j:Nat) ds c,γ[j]? = some (.own ds)->σ[j]? = some (some (.ref c))->c∉a::bs)->∀b∈a::bs,H0' b=none/\H' b=H b):NestOk K H0' H' σ γ:=
 ⟨λi rows e=>by
  obtain⟨a,bs,h1,h2,z⟩:=n.1 i rows e;exact⟨a,bs,h1,h2.move s (λb I=>(h i rows a bs e h1 h2 z b I).1) (λb I=>(h i rows a bs e h1 h2 z b I).2),z⟩,n.2⟩
theorem NestOk.ext{K:PySem.W.Frag}{H0 H H0' H':Hp}{σ:St}{γ:Ctx}(n:NestOk K H0 H σ γ)(e:Ext H0 H H0' H'):NestOk K H0' H' σ γ:=
 n.move e.s0 λi rows a bs _ _ h2 _ b z=>by
  obtain⟨I,xs,g2⟩:=h2.at z;exact⟨e.new b I (by rw [g2];simp),by rw [e.s1 b _ g2,g2]⟩
structure RC(K:PySem.W.Frag)(H0 H:Hp)(σ:St)(γ:Ctx):Prop where
 sub:Same H0 H
 len:σ.length=γ.length
 val : ∀(i:Nat) d,γ[i]? = some (.val d)->∃v,σ[i]? = some (some v)/\Rep K H0 d v
 own : ∀(i:Nat) ds,γ[i]? = some (.own ds)->∃a xs,σ[i]? = some (some (.ref a))/\H0 a=none/\H a=some (.lst xs)/\Reps K H0 ds xs
 ne : ∀(i j:Nat) a ds es,γ[i]? = some (.own ds)->γ[j]? = some (.own es)->σ[i]? = some (some (.ref a))->σ[j]? = some (some (.ref a))->i=j
 nst:NestOk K H0 H σ γ
theorem RC.ext{K:PySem.W.Frag}{H0 H H0' H':Hp}{σ:St}{γ:Ctx}(r:RC K H0 H σ γ)(e:Ext H0 H H0' H'):RC K H0' H' σ γ:=
 ⟨e.sub,r.len,λi d h=>let ⟨v,h1,h2⟩:=r.val i d h;⟨v,h1,h2.mono e.s0⟩,
  λi ds h=>let ⟨a,xs,h1,h2,z,I⟩:=r.own i ds h;⟨a,xs,h1,e.new a h2 (by rw [z];simp),e.s1 _ _ z,I.mono e.s0⟩,r.ne,r.nst.ext e⟩
def tV(K:PySem.W.Frag)(f:CO D):TE:=λσ H Q=>∃H0 γ d,RC K H0 H σ γ/\f γ=some d/\∀v H' H0',Ext H0 H H0' H'->Rep K H0' d v->Q v H'
def tQ(K:PySem.W.Frag)(f:CO (Sk×List D)):TE:=λσ H Q=>∃H0 γ k ds,RC K H0 H σ γ/\f γ=some (k,ds)/\∀a xs H' H0',Ext H0 H H0' H'->SqK k K H' a xs->(k = .T->SqT K H0' a xs)->Reps K H0' ds xs->Q (.ref a) H'
def tO(K:PySem.W.Frag)(f:CO (List D)):TE:=λσ H Q=>∃H0 γ ds,RC K H0 H σ γ/\f γ=some ds/\
 ∀a xs H' H0',Ext H0 H H0' H'->H a=none->H0' a=none->H' a=some (.lst xs)->Reps K H0' ds xs->Q (.ref a) H'
def tT(K:PySem.W.Frag)(f:CO Bool):TT:=λσ H Q=>∃H0 γ b,RC K H0 H σ γ/\f γ=some b/\∀H' H0',Ext H0 H H0' H'->Q b H'
def tA(K:PySem.W.Frag)(f:CO (List D)):TA:=λσ H Q=>∃H0 γ ds,RC K H0 H σ γ/\f γ=some ds/\∀vs H' H0',Ext H0 H H0' H'->Reps K H0' ds vs->Q vs H'
abbrev PV(X:Cx)(e:Expr)(f:CO D):Prop:=PE X e (tV X.K f)
abbrev PQ(X:Cx)(e:Expr)(f:CO (Sk×List D)):Prop:=PE X e (tQ X.K f)
abbrev PO(X:Cx)(e:Expr)(f:CO (List D)):Prop:=PE X e (tO X.K f)
abbrev PTD(X:Cx)(e:Expr)(f:CO Bool):Prop:=PT X e (tT X.K f)
abbrev PWD(X:Cx)(e:Expr)(f:CO Bool):Prop:=PW X e (tT X.K f)
abbrev PAD(X:Cx)(es:List Expr)(f:CO (List D)):Prop:=PA X es (tA X.K f)
theorem jQ{X:Cx}{e:Expr}{t t':TE}(h:PE X e t)(i : ∀σ H Q,t' σ H Q->t σ H Q):PE X e t':=λpins s σ H Q I q=>h pins s σ H Q I (i σ H Q q)
theorem Vx{X:Cx}{e:Expr}{t t':TT}(h:PT X e t)(i : ∀σ H Q,t' σ H Q->t σ H Q):PT X e t':=λpins s σ H Q I q=>h pins s σ H Q I (i σ H Q q)
theorem zcj{X:Cx}{e:Expr}{t t':TT}(h:PW X e t)(i : ∀σ H Q,t' σ H Q->t σ H Q):PW X e t':=λz pins s σ H Q I q=>h z pins s σ H Q I (i σ H Q q)
theorem zcL{X:Cx}{es:List Expr}{t t':TA}(h:PA X es t)(i : ∀σ H Q,t' σ H Q->t σ H Q):PA X es t':=λpos pins s σ H Q I q=>h pos pins s σ H Q I (i σ H Q q)
theorem xR{X:Cx}{st:Stmt}{t t':TS}(h:PS X st t)(i : ∀D σ H,t' D σ H->t D σ H):PS X st t':=λpins s σ H D I q=>h pins s σ H D I (i D σ H q)
theorem WP{X:Cx}{st:List Stmt}{t t':TS}(h:PSs X st t)(i : ∀D σ H,t' D σ H->t D σ H):PSs X st t':=λpins s σ H D I q=>h pins s σ H D I (i D σ H q)
theorem ZN{X:Cx}{tg e:Expr}{t t':TI}(h:PI X tg e t)(i : ∀σ H R,t' σ H R->t σ H R):PI X tg e t':=λpins s σ H R I q=>h pins s σ H R I (i σ H R q)
theorem ke{n:Nat}(h:n<=lim):n<=sizeLine:=zhh h ⋯
section
variable{X:Cx}{e a b c:Expr}{pos:Pos}
theorem PV.q{f:CO D}(h:PV X e f):PQ X e (zz f):=jQ h λσ H Q S=>by
 obtain⟨H0,γ,k,ds,rc,I,q⟩:=S;unfold zz at I;cases e1:f γ with
 | none=>rw [e1]at I;cases I
 | some d=>
  rw [e1]at I;refine⟨H0,γ,d,rc,e1,λv H' H0' ext r=>?_⟩;cases d with
  | tup es=>
   obtain⟨J,O⟩:k = .T/\ds=es:=by simp [js]at I;exact⟨I.1.symm,I.2.symm⟩
   subst J O;obtain⟨a,xs,rfl,h1,h2⟩:=(show ∃a xs,v = .ref a/\SqT X.K H0' a xs/\Reps X.K H0' ds xs from r);exact q a xs H' H0' ext (sameT ext.sub h1) (λ_=>h1) h2
  | lst es=>
   obtain⟨J,O⟩:k = .L/\ds=es:=by simp [js]at I;exact⟨I.1.symm,I.2.symm⟩
   subst J O;obtain⟨a,xs,rfl,h1,h2⟩:=(show ∃a xs,v = .ref a/\SqL X.K H0' a xs/\Reps X.K H0' ds xs from r);exact q a xs H' H0' ext (ext.sub.seq h1) (λz=>nomatch z) h2
  | _=>simp [js]at I
theorem PO.v{f:CO (List D)}(h:PO X e f):PV X e (ja f):=jQ h λσ H Q J=>by
 obtain⟨H0,γ,d,rc,z,q⟩:=J;unfold ja at z;cases e1:f γ with
 | none=>rw [e1]at z;cases z
 | some ds=>
  rw [e1]at z;cases z;refine⟨H0,γ,ds,rc,e1,λa xs H' H0' ext h1 h2 O r=>?_⟩;exact q _ _ _ (ext.show h1 h2 O rc.sub) (show ∃a' I,V.ref a = .ref a'/\SqL X.K _ a' I/\Reps X.K _ ds I from⟨a,xs,rfl,SqL.of zH,r.mono (z5 h2 _)⟩)
theorem PO.q{f:CO (List D)}(h:PO X e f):PQ X e (jh f):=jQ h λσ H Q J=>by
 obtain⟨H0,γ,k,ds,rc,I,q⟩:=J;unfold jh at I;cases e1:f γ with
 | none=>rw [e1]at I;cases I
 | some es=>
  rw [e1]at I;cases I;exact⟨H0,γ,_,rc,e1,λa xs H' H0' ext h1 h2 O r=>q a xs H' H0' ext (SqL.of O) (λz=>nomatch z) r⟩
theorem ze(i:Nat)(h:PE X e (vY i)):PV X e (zc i):=jQ h λσ H Q I=>by
 obtain⟨H0,γ,d,rc,z,q⟩:=I;unfold zc at z;cases e1:γ[i]? with
 | none=>rw [e1]at z;cases z
 | some c=>
  rw [e1]at z;cases c with
  | val d'=>
   cases z;obtain⟨v,h1,h2⟩:=rc.val i d e1;exact⟨v,h1,q v H H0 (Ext.refl rc.sub) h2⟩
  | no=>cases z
  | own ds=>cases z
  | nest rows=>cases z
theorem zv(i:Nat)(h:PE X e (vY i)):PQ X e (zf i):=jQ h λσ H Q U=>by
 obtain⟨H0,γ,k,ds,rc,I,q⟩:=U;unfold zf at I;cases e1:γ[i]? with
 | none=>rw [e1]at I;cases I
 | some c=>
  rw [e1]at I;cases c with
  | no=>cases I
  | nest rows=>cases I
  | own es=>
   cases I;obtain⟨a,xs,h1,h2,Y,Z⟩:=rc.own i ds e1;exact⟨_,h1,q a xs H H0 (Ext.refl rc.sub) (SqL.of Y) (λz=>nomatch z) Z⟩
  | val d=>
   obtain⟨v,h1,h2⟩:=rc.val i d e1;refine⟨v,h1,?_⟩;cases d with
   | tup es=>
    obtain⟨O,S⟩:k = .T/\ds=es:=by simp [xy,js]at I;exact⟨I.1.symm,I.2.symm⟩
    subst O S;obtain⟨a,xs,rfl,J,g2⟩:=(show ∃a xs,v = .ref a/\SqT X.K H0 a xs/\Reps X.K H0 ds xs from h2);exact q a xs H H0 (Ext.refl rc.sub) (sameT rc.sub J) (λ_=>J) g2
   | lst es=>
    obtain⟨O,S⟩:k = .L/\ds=es:=by simp [xy,js]at I;exact⟨I.1.symm,I.2.symm⟩
    subst O S;obtain⟨a,xs,rfl,J,g2⟩:=(show ∃a xs,v = .ref a/\SqL X.K H0 a xs/\Reps X.K H0 ds xs from h2);exact q a xs H H0 (Ext.refl rc.sub) (rc.sub.seq J) (λz=>nomatch z) g2
   | _=>simp [xy,js]at I
theorem wP{d:D}{v:V}(h:PE X e (tC v))(r : ∀H,Rep X.K H d v):PV X e (zh d):=jQ h λσ H Q z=>by
 obtain⟨H0,γ,d',rc,I,q⟩:=z;cases I;exact q v H H0 (Ext.refl rc.sub) (r H0)
theorem zk{i:Int}{j:Nat}:PV X (.Constant (.int i) j pos) (zh (.int i)):=wP zcG λ_=>(show V.int i = .int i from rfl)
theorem Vt{x:Bool}{j:Nat}:PV X (.Constant (.bool x) j pos) (zh (.bl x)):=wP zeC λ_=>(show V.bl x = .bl x from rfl)
theorem Kq{x:Str}{j:Nat}:PV X (.Constant (.str x) j pos) (zh (.str x)):=wP WU λ_=>(show V.str x = .str x from rfl)
def Snd(K:PySem.W.Frag)(r:R2)(F:D->D->Option D):Prop:=∀H0 H x y dx z d Q,Same H0 H->Rep K H0 dx x->Rep K H0 z y->F dx z=some d->(∀v H' H0',Ext H0 H H0' H'->Rep K H0' d v->Q v H')->r x y H Q
theorem bind_some{α β:Type}{o:Option α}{f:α->Option β}{y:β}(h:o.bind f=some y) : ∃x,o=some x/\f x=some y:=by
 cases o with
 | none=>cases h
 | some x=>exact⟨x,rfl,h⟩
theorem JD{K:PySem.W.Frag}{r:R2}{F:D->D->Option D}{fa fb:CO D}(J:Snd K r F) : ∀σ H Q,tV K (zm F fa fb) σ H Q->tOp r (tV K fa) (tV K fb) σ H Q:=λσ H Q O=>by
 obtain⟨H0,γ,d,rc,z,q⟩:=O;obtain⟨x,e1,z⟩:=bind_some z;obtain⟨y,S,z⟩:=bind_some z;refine⟨H0,γ,x,rc,e1,λU H1 Y x1 Z=>⟨Y,γ,y,rc.ext x1,S,λv2 H2 a1 I r2=>?_⟩⟩;exact J a1 H2 U v2 x y d Q I.sub (Z.mono I.s0) r2 z λv H' H0' x3 r3=>q v H' H0' (x1.trans (I.trans x3)) r3
theorem v6{z:Operator}{r:R2}{F:D->D->Option D}{fa fb:CO D}(I:OpR X (binaryOp z) r)(J:Snd X.K r F)(ha:PV X a fa)(O:PV X b fb):PV X (.BinOp a z b pos) (zm F fa fb):=
 jQ (zaU I ha O) (JD J)
theorem Qk{z:CmpOp}{r:R2}{F:D->D->Option D}{fa fb:CO D}(I:OpR X (compareOp z) r)(J:Snd X.K r F)(ha:PV X a fa)(O:PV X b fb)(hm:behindInMarks z b=false):PV X (.Compare a [z] [b] pos) (zm F fa fb):=
 jQ (zaW I ha O hm) (JD J)
theorem yF{d:D}{b:Bool}(h:asB d=some b):d = .bl b:=by cases d<;>simp [asB]at h;rw [h]
theorem yR{z:CmpOp}{r:R2}{F:D->D->Option D}{fa fb:CO D}(J:OpR X (compareOp z) r)(O:Snd X.K r F)(ha:PV X a fa)(S:PV X b fb)(hm:behindInMarks z b=false):PTD X (.Compare a [z] [b] pos) (sB (zm F fa fb)):=
 Vx (Kv J ha S hm) λσ H Q U=>by
  obtain⟨H0,γ,k,rc,I,q⟩:=U;obtain⟨d,e1,I⟩:=bind_some I;refine JD O σ H _ ⟨H0,γ,d,rc,e1,λv H' H0' x r=>?_⟩;rw [yF I]at r;exact⟨k,r,q H' H0' x⟩
theorem Ku{f:CO D}(h:PV X e f)(J : ∀I,isTrue e X.env I=(do let v <- I;standAt e.pos;holding [v] (truthy v)):=by intro _;rfl):PTD X e (sB f):=
 Vx (zcr h J) λσ H Q O=>by
  obtain⟨H0,γ,k,rc,z,q⟩:=O;obtain⟨d,e1,z⟩:=bind_some z;refine⟨H0,γ,d,rc,e1,λv H' H0' x r=>?_⟩;rw [yF z]at r;exact⟨k,r,q H' H0' x⟩
theorem wN{f:CO Bool}(h:PTD X a f):PWD X (.BoolOp .And [a] pos) f:=zaG h
theorem zaF{f:CO Bool}(h:PTD X a f):PWD X (.BoolOp .Or [a] pos) f:=zch h
theorem Jv{f g:CO Bool}{rest:List Expr}(ha:PTD X a f)(I:PWD X (.BoolOp .And (b::rest) pos) g):PWD X (.BoolOp .And (a::b::rest) pos) (wL f g):=
 zcj (zci ha I) λσ H Q J=>by
  obtain⟨H0,γ,k,rc,z,q⟩:=J;obtain⟨c,e1,z⟩:=bind_some z;refine⟨H0,γ,c,rc,e1,λH' H0' x=>?_⟩;cases c with
  | true=>rw [if_pos rfl]at z ⊢;exact⟨H0',γ,k,rc.ext x,z,λH2 O S=>q H2 O (x.trans S)⟩
  | false=>rw [if_neg zgB]at z ⊢;cases z;exact q H' H0' x
theorem zcg{f g:CO Bool}{rest:List Expr}(ha:PTD X a f)(I:PWD X (.BoolOp .Or (b::rest) pos) g):PWD X (.BoolOp .Or (a::b::rest) pos) (zaA f g):=
 zcj (zet ha I) λσ H Q J=>by
  obtain⟨H0,γ,k,rc,z,q⟩:=J;obtain⟨c,e1,z⟩:=bind_some z;refine⟨H0,γ,c,rc,e1,λH' H0' x=>?_⟩;cases c with
  | true=>rw [if_pos rfl]at z ⊢;cases z;exact q H' H0' x
  | false=>rw [if_neg zgB]at z ⊢;exact⟨H0',γ,k,rc.ext x,z,λH2 O S=>q H2 O (x.trans S)⟩
theorem Jx{f:CO Bool}(ha:PTD X a f):PTD X (.UnaryOp .Not a pos) (qN f):=
 Vx (zcs ha) λσ H Q I=>by
  obtain⟨H0,γ,k,rc,z,q⟩:=I;unfold qN at z;cases e1:f γ with
  | none=>rw [e1]at z;cases z
  | some c=>rw [e1]at z;cases z;exact⟨H0,γ,c,rc,e1,λH' H0' x=>q H' H0' x⟩
theorem Vu{f:CO Bool}(h:PWD X e f):PTD X e f:=h.pt
theorem Ks{z:BoolOp}{f:CO D}(h:PV X a f):PV X (.BoolOp z [a] pos) f:=zcC h
theorem WO{f g:CO D}{rest:List Expr}(ha:PV X a f)(I:PV X (.BoolOp .And (b::rest) pos) g):PV X (.BoolOp .And (a::b::rest) pos) (Vm f g):=
 jQ (zcI ha I) λσ H Q J=>by
  obtain⟨H0,γ,d,rc,z,q⟩:=J;obtain⟨c,e1,z⟩:=bind_some z;obtain⟨O,S,e1⟩:=bind_some e1;refine⟨H0,γ,O,rc,S,λv H' H0' x r=>?_⟩;rw [yF e1]at r;refine⟨c,r,?_⟩;cases c with
  | true=>rw [if_pos rfl]at z ⊢;exact⟨H0',γ,d,rc.ext x,z,λU H2 Y Z r2=>q U H2 Y (x.trans Z) r2⟩
  | false=>rw [if_neg zgB]at z ⊢;cases z;exact q _ H' H0' x (show V.bl false = .bl false from rfl)
theorem zeu{f g:CO D}{rest:List Expr}(ha:PV X a f)(I:PV X (.BoolOp .Or (b::rest) pos) g):PV X (.BoolOp .Or (a::b::rest) pos) (sOr f g):=
 jQ (zeB ha I) λσ H Q J=>by
  obtain⟨H0,γ,d,rc,z,q⟩:=J;obtain⟨c,e1,z⟩:=bind_some z;obtain⟨O,S,e1⟩:=bind_some e1;refine⟨H0,γ,O,rc,S,λv H' H0' x r=>?_⟩;rw [yF e1]at r;refine⟨c,r,?_⟩;cases c with
  | true=>rw [if_pos rfl]at z ⊢;cases z;exact q _ H' H0' x (show V.bl true = .bl true from rfl)
  | false=>rw [if_neg zgB]at z ⊢;exact⟨H0',γ,d,rc.ext x,z,λU H2 Y Z r2=>q U H2 Y (x.trans Z) r2⟩
theorem zck{f:CO D}(ha:PV X a f):PV X (.UnaryOp .Not a pos) (zb9 f):=
 jQ (zcD ha) λσ H Q J=>by
  obtain⟨H0,γ,d,rc,z,q⟩:=J;unfold zb9 at z;cases e1:f γ with
  | none=>rw [e1]at z;cases z
  | some I=>
   rw [e1]at z;refine⟨H0,γ,I,rc,e1,λv H' H0' x r=>?_⟩;cases I with
   | bl c=>cases z;exact⟨c,r,q _ H' H0' x (show V.bl (!c) = .bl (!c)from rfl)⟩
   | _=>cases z
theorem Vs{k:CO Bool}{f g:CO D}(S:PTD X c k)(ha:PV X a f)(U:PV X b g):PV X (.IfExp c a b pos) (ZB k f g):=
 jQ (pe_ifExp S ha U) λσ H Q Y=>by
  obtain⟨H0,γ,d,rc,z,q⟩:=Y;obtain⟨t,e1,z⟩:=bind_some z;refine⟨H0,γ,t,rc,e1,λH' H0' x=>?_⟩;cases t with
  | true=>rw [if_pos rfl]at z ⊢;exact⟨H0',γ,d,rc.ext x,z,λI H2 J O r2=>q I H2 J (x.trans O) r2⟩
  | false=>rw [if_neg zgB]at z ⊢;exact⟨H0',γ,d,rc.ext x,z,λI H2 J O r2=>q I H2 J (x.trans O) r2⟩
theorem zaX:PAD X [] zu:=zcL jF λσ H Q z=>by
 obtain⟨H0,γ,ds,rc,I,q⟩:=z;cases I;exact q [] H H0 (Ext.refl rc.sub) Reps.nil
theorem VF{es:List Expr}{f:CO D}{g:CO (List D)}(ha:PV X e f)(O:PAD X es g)(S:starEach (e::es) X.env=(false,eval e X.env)::starEach es X.env:=by rfl):PAD X (e::es) (za f g):=
 zcL (zT ha O S) λσ H Q U=>by
  obtain⟨H0,γ,ds,rc,z,q⟩:=U;obtain⟨x,e1,z⟩:=bind_some z;cases I:g γ with
  | none=>rw [I]at z;cases z
  | some r=>
   rw [I]at z;cases z;exact⟨H0,γ,x,rc,e1,λv H1 Y x1 Z=>⟨Y,γ,r,rc.ext x1,I,λvs H2 a0 J r2=>q (v::vs) H2 a0 (x1.trans J) (Reps.cons (Z.mono J.s0) r2)⟩⟩
theorem jM{es:List Expr}{x1:Nat}{f:CO (List D)}(h:PAD X es f):PV X (.Tuple es x1 pos) (ju f):=
 jQ (zcB h) λσ H Q S=>by
  obtain⟨H0,γ,d,rc,z,q⟩:=S;obtain⟨ds,e1,z⟩:=bind_some z;by_cases I:ds.length<=lim
  ·rw [if_pos I]at z;cases z
   refine⟨H0,γ,ds,rc,e1,λvs H1 U x1 J=>⟨ke (by rw [J.length];exact I),λp O=>?_⟩⟩;exact q _ _ _ (x1.trans (Ext.alloc x1.sub O _)) (show ∃a xs,V.ref p = .ref a/\SqT X.K _ a xs/\Reps X.K _ ds xs from⟨p,vs,rfl,SqT.of zH,J.mono (z5 (jp x1.sub O) _)⟩)
  ·rw [if_neg I]at z;cases z
theorem ku{es:List Expr}{f:CO (List D)}(h:PAD X es f):PO X (.List es pos) (jX f):=
 jQ (zcE h) λσ H Q U=>by
  obtain⟨H0,γ,d,rc,I,q⟩:=U;obtain⟨ds,e1,I⟩:=bind_some I;by_cases O:ds.length<=lim
  ·rw [if_pos O]at I;cases I
   refine⟨H0,γ,_,rc,e1,λvs H1 Y x1 S=>⟨ke (by rw [S.length];exact O),λp J=>?_⟩⟩;exact q p vs _ Y (x1.trans (Ext.hide x1.sub J _)) (by
    cases z:H p with
    | none=>rfl
    | some o=>rw [x1.s1 p o z]at J;cases J) (jp x1.sub J) zH S
  ·rw [if_neg O]at I;cases I
end
theorem xu:entryFor table "dict.update.loop" = some Builtin.«dict.update.loop» :=entryFor_of_tree (by kernel_rfl)
theorem xn(args:Args):(Code.builtin "dict.update.loop" args).quiet=true:=Code.quiet_builtin _ ⋯
end DL
namespace L2
open PySem PySem.Spec PyProof.Rows
structure M2(X:Cx)(o:Expr)(m:Str)(apos:Pos)(e f:Expr)(cpos:Pos):Prop where
 base:attributeBase o m X.env (eval o X.env)=eval o X.env
 few:((backTo cpos (starEach [e,f] X.env)).all (λx=> !x.1) && (backToKw cpos (keywordEach [] X.env)).all (λx=>x.1.isSome)
  && decide (([e,f]:List Expr).length+([]:List Keyword).length+(if ([]:List Keyword).isEmpty then 0 else 1)<30))=true
 line:(apos.endLine==cpos.line)=true
 trees:backTo cpos (starEach [e,f] X.env)=[(false,eval e X.env),(false,eval f X.env)]
end L2
namespace DL
open PySem L2
def j9(ds:List D):List D:=(zgj ds.length).map λ(i:Nat)=>D.tup [.int i,ds[i]?.getD .non]
def wK(f:CO D):CO (List D):=λγ=>(f γ).bind λd=>match d with
 | .tup ds=>some (j9 ds)
 | _=>none
def K6:List D->Option (List Int)
 | []=>some []
 | .int i::r=>(K6 r).map λl=>i::l
 | _::_=>none
def zbH(i:Nat)(F:CO Fl):CO Fl:=λγ=>(qu γ[i]?).bind λds=>F (γ.set i (.val (.lst ds)))
def zam:List D->Option (List Str)
 | []=>some []
 | .str x::r=>(zam r).map λl=>x::l
 | _::_=>none
def jk(x:Str):Bool:=decide (x.length<=1000)
def Zz(f g:CO D):CO D:=λγ=>(f γ).bind λd=>((g γ).bind asI).bind λi=>match d with
 | .str z=>if jk z=true then (ixD z.cps.toList.length i).bind λk=>z.cps.toList[k]?.map λc=> .str ⟨#[c]⟩else none
 | _=>none
def Js(f:CO D):CO D:=λγ=>(f γ).bind λd=>match d with
 | .str z=>if jk z=true then some (.int z.length)else none
 | _=>none
def zaB(f g:CO D):CO D:=λγ=>((f γ).bind asI).bind λi=>((g γ).bind asI).map λj=> .int (if j<i then j else i)
abbrev Xn:=Str×Option Int
def xNo:CO Xn:=λ_=>none
def zec(c:Str):CO Xn:=λ_=>some (c,none)
def xIf(k:CO Bool)(G H:CO Xn):CO Xn:=λγ=>(k γ).bind λb=>if b=true then G γ else H γ
def zgc(c:Str):Str:=if c==("NoRoom" : Str)then "room" else "at"
def wJ(f:CO D)(g:CO (Sk×List D)):CO D:=λγ=>(f γ).bind λd=>(g γ).bind λa=>(asI d).bind λi=>(K6 a.2).map λl=> .bl (!decide (i∈l))
end DL
namespace DL
open PySem L2
open PySem.W (KasT kas_sort)
def qk(z:Str):List D:=z.cps.toList.map λc=>D.str ⟨#[c]⟩
def WH(f:CO D):CO (List D):=λγ=>(f γ).bind λd=>match d with
 | .str z=>if jk z=true then some (qk z)else none
 | _=>none
def ye(f:CO D):CO (List D):=λγ=>(f γ).bind λd=>match d with
 | .str z=>if jk z=true then some (j9 (qk z))else none
 | _=>none
def Qe(f:CO D):CO (List D):=λγ=>(f γ).bind λd=>match d with
 | .lst ds=>some (j9 ds)
 | _=>none
def zfw(f:CO D)(g:CO (Sk×List D)):CO D:=λγ=>(f γ).bind λd=>(g γ).bind λa=>match d with
 | .str x=>(zam a.2).map λl=> .bl (l.any λy=>y==x)
 | _=>none
def Vl(f g:CO D):CO D:=λγ=>(f γ).bind λd=>(g γ).bind λe=>match d,e with
 | .str x,.str y=>if jk x=true/\jk y=true then some (.str (x++y))else none
 | _,_=>none
def zeD:D->Option (Int×Int)
 | .tup [.int a,.int b]=>some (a,b)
 | _=>none
def WV:List D->Option (List (Int×Int))
 | []=>some []
 | d::r=>(zeD d).bind λp=>(WV r).map λl=>p::l
def zf7(x y:Int×Int):Bool:=if x.1=y.1 then decide (x.2<y.2)else decide (x.1<y.1)
def zeq{α:Type}(lt:Nat->Nat->Bool):KasT α->α
 | .ret a=>a
 | .ask i j k=>zeq lt (k (lt i j))
def JB(ps:List (Int×Int)):List Nat:=if ps.length<2 then zgj ps.length else (zeq (λi j=>zf7 (ps.getD i (0,0)) (ps.getD j (0,0))) (kas_sort ps.length)).toList
def zb5(ds:List D):Option (List D):=(WV ds).bind λps=>if ds.length<64 then some ((JB ps).map λi=>ds.getD i .non)else none
def WI(f:CO (Sk×List D)):CO (List D):=λγ=>(f γ).bind λa=>match a.1 with
 | .L=>zb5 a.2
 | _=>none
end DL
namespace DL
open PySem L2
def Jt(i:Nat)(f:CO (List D)):CO Fl:=λγ=>(qu γ[i]?).bind λds=>(f γ).bind λes=>if ds.length+es.length<=lim then some (.next (γ.set i (.own (ds++es))))else none
def Qg(F G:List D->Option Res)(g:CO (List D)):CO (List D):=λγ=>(g γ).bind λl=>match l with
 | [p,.str z,t,b]=>((if z=("r" : Str)then F else G) [p,t,b]).bind zbI
 | _=>none
def Xx:List D->Option (List Int)
 | []=>some []
 | .int i::r=>(Xx r).map λl=>i::l
 | _::_=>none
def We(ds es:List D):Option D:=match Xx ds with
 | some ns=>if ds.length=es.length/\ns.Nodup/\ds.length<=lim then some (.dic ds es)else none
 | none=>none
def zbK:List D->List D->Int->Option D
 | k::ks,v::vs,i=>match k with
  | .int j=>if j=i then some v else zbK ks vs i
  | _=>zbK ks vs i
 | _,_,_=>none
open PySem.Spec PyProof.Rows
structure RS(K:PySem.W.Frag)(E0 E H0 H:Hp)(σ:St)(γ:Ctx):Prop where
 rc:RC K H0 H σ γ
 ext:Ext E0 E H0 H
 fresh : ∀(i:Nat) ds a,γ[i]? = some (.own ds)->σ[i]? = some (some (.ref a))->E a=none
 fr2 : ∀(i:Nat) rows a xs,γ[i]? = some (.nest rows)->σ[i]? = some (some (.ref a))->H a=some (.lst xs)->E a=none/\∀b,V.ref b∈xs->E b=none
def Sat(K:PySem.W.Frag)(E0 E:Hp)(D:Ends):Fl->Prop
 | .next γ=>∀σ H H0,RS K E0 E H0 H σ γ->D.nx σ H
 | .brk γ=>∀σ H H0,RS K E0 E H0 H σ γ->D.bk σ H
 | .cont γ=>∀σ H H0,RS K E0 E H0 H σ γ->D.ct σ H
 | .ret (.val d)=>∀v H H0,Ext E0 E H0 H->Rep K H0 d v->D.rt v H
 | .ret (.own es)=>∀a xs H H0,Ext E0 E H0 H->E a=none->H0 a=none->H a=some (.lst xs)->Reps K H0 es xs->D.rt (.ref a) H
def tS(K:PySem.W.Frag)(F:CO Fl):TS:=λD σ H=>∃E0 E H0 γ z,RS K E0 E H0 H σ γ/\F γ=some z/\Sat K E0 E D z
abbrev PSD(X:Cx)(st:Stmt)(F:CO Fl):Prop:=PS X st (tS X.K F)
abbrev Y1(X:Cx)(sts:List Stmt)(F:CO Fl):Prop:=PSs X sts (tS X.K F)
section
variable{K:PySem.W.Frag}{E0 E H0 H H0' H':Hp}{σ:St}{γ:Ctx}
theorem RS.step(r:RS K E0 E H0 H σ γ)(e:Ext H0 H H0' H'):RS K E0 E H0' H' σ γ:=⟨r.rc.ext e,r.ext.trans e,r.fresh,λi rows a xs h1 h2 I=>by
 obtain⟨a',bs,z,g2,_⟩:=r.rc.nst.1 i rows h1;rw [h2]at z;cases z;have:=e.s1 a _ g2.ha;rw [I]at this;cases this;exact r.fr2 i rows a _ h1 h2 g2.ha⟩
theorem zK{α:Type}{l:List α}{i j:Nat}{x y:α}(h:(l.set i x)[j]? = some y):(j=i/\y=x/\i<l.length)\/(j≠i/\l[j]? = some y):=by
 by_cases e:i=j
 ·subst e
  by_cases z:i<l.length
  ·rw [zhp z]at h;cases h;exact .inl ⟨rfl,rfl,z⟩
  ·rw [List.set_eq_of_length_le ⋯]at h
   exact absurd (zgw.mp h).1 z
 ·rw [zgv e]at h;exact .inr ⟨zht e,h⟩
theorem NestOk.setVal{i:Nat}{d:D}{v:V}(n:NestOk K H0 H σ γ):NestOk K H0 H (σ.set i (some v)) (γ.set i (.val d)):=
 ⟨λj rows e=>by
  rcases zK e with⟨_,z,_⟩ | ⟨J,z⟩
  ·cases z
  ·obtain⟨a,bs,h1,h2,O⟩:=n.1 j rows z
   refine⟨a,bs,by rw [zgv (zht J)];exact h1,h2,λk ds c e1 I=>?_⟩;rcases zK e1 with⟨_,z,_⟩ | ⟨S,z1⟩
   ·cases z
   ·rw [zgv (zht S)]at I;exact O k ds c z1 I,
 λj k U r2 e1 I=>by
  rcases zK e1 with⟨_,z,_⟩ | ⟨_,z1⟩
  ·cases z
  ·rcases zK I with⟨_,z,_⟩ | ⟨_,z2⟩
   ·cases z
   ·exact n.2 j k U r2 z1 z2⟩
theorem RC.setVal{i:Nat}{d:D}{v:V}(r:RC K H0 H σ γ)(h:Rep K H0 d v):RC K H0 H (σ.set i (some v)) (γ.set i (.val d)):=by
 refine⟨r.sub,by simp [r.len],λj d' e=>?_,λj ds e=>?_,λj k a ds es e1 Y O S=>?_,r.nst.setVal⟩
 ·rcases zK e with⟨rfl,z,U⟩ | ⟨I,z⟩
  ·cases z;exact⟨v,zhp (by rw [r.len];exact U),h⟩
  ·obtain⟨Z,J,g2⟩:=r.val j d' z
   exact⟨Z,by rw [zgv (zht I)];exact J,g2⟩
 ·rcases zK e with⟨rfl,z,U⟩ | ⟨I,z⟩
  ·cases z
  ·obtain⟨a,xs,J,g2⟩:=r.own j ds z
   exact⟨a,xs,by rw [zgv (zht I)];exact J,g2⟩
 ·rcases zK e1 with⟨_,z,_⟩ | ⟨I,z1⟩
  ·cases z
  ·rcases zK Y with⟨_,z,_⟩ | ⟨hk,z2⟩
   ·cases z
   ·rw [zgv (zht I)]at O
    rw [zgv (zht hk)]at S;exact r.ne j k a ds es z1 z2 O S
theorem RS.setVal{i:Nat}{d:D}{v:V}(r:RS K E0 E H0 H σ γ)(h:Rep K H0 d v):RS K E0 E H0 H (σ.set i (some v)) (γ.set i (.val d)):=
 ⟨r.rc.setVal h,r.ext,λj ds a e1 I=>by
  rcases zK e1 with⟨_,z,_⟩ | ⟨J,z⟩
  ·cases z
  ·rw [zgv (zht J)]at I;exact r.fresh j ds a z I,
 λj rows a xs e1 I O=>by
  rcases zK e1 with⟨_,z,_⟩ | ⟨J,z⟩
  ·cases z
  ·rw [zgv (zht J)]at I;exact r.fr2 j rows a xs z I O⟩
theorem y6 : ∀{z bs:List Addr},z.map V.ref=bs.map V.ref->z=bs
 | [],[],_=>rfl
 | [],_::_,h=>by cases h
 | _::_,[],h=>by cases h
 | a::z,b::bs,h=>by
  rw [zgO,zgO]at h;injection h with h1 h2;injection h1 with h1;rw [h1,y6 h2]
theorem RS.setOwn{i:Nat}{es:List D}{a:Addr}{xs:List V}{G0 G:Hp}(r:RS K E0 E G0 G σ γ)(e:Ext G0 G H0 H)(h1:G a=none)(h2:H0 a=none)(h3:H a=some (.lst xs))(h4:Reps K H0 es xs) :
 RS K E0 E H0 H (σ.set i (some (.ref a))) (γ.set i (.own es)):=by
 have rc:=r.rc.ext e;have no : ∀(j:Nat) ds,γ[j]? = some (.own ds)->¬σ[j]? = some (some (.ref a)):=λj ds g z=>by
  obtain⟨b,ys,I,g2,Z,_⟩:=r.rc.own j ds g;rw [z]at I;cases I;rw [h1]at Z;cases Z
 refine⟨⟨rc.sub,by simp [rc.len],λj d' g=>?_,λj ds g=>?_,λj k b ds fs e1 S U Y=>?_,⟨λj rows g=>?_,λj k r1 r2 I g2=>?_⟩⟩,r.ext.trans e,λj ds b I g2=>?_,λj rows b xs I g2 Z=>?_⟩
 ·rcases zK g with⟨_,z,_⟩ | ⟨J,z⟩
  ·cases z
  ·obtain⟨v',I,g2⟩:=rc.val j d' z
   exact⟨v',by rw [zgv (zht J)];exact I,g2⟩
 ·rcases zK g with⟨rfl,z,O⟩ | ⟨J,z⟩
  ·cases z;exact⟨a,xs,zhp (by rw [rc.len];exact O),h2,h3,h4⟩
  ·obtain⟨b,ys,I,g2⟩:=rc.own j ds z
   exact⟨b,ys,by rw [zgv (zht J)];exact I,g2⟩
 ·rcases zK e1 with⟨rfl,z,O⟩ | ⟨J,z1⟩
  ·rcases zK S with⟨rfl,_,_⟩ | ⟨hk,z2⟩
   ·rfl
   ·rw [zhp (by rw [rc.len];exact O)]at U
    rw [zgv (zht hk)]at Y;cases U;exact absurd Y (no k fs z2)
  ·rcases zK S with⟨rfl,z,O⟩ | ⟨hk,z2⟩
   ·rw [zhp (by rw [rc.len];exact O)]at Y
    rw [zgv (zht J)]at U;cases Y;exact absurd U (no j ds z1)
   ·rw [zgv (zht J)]at U
    rw [zgv (zht hk)]at Y;exact rc.ne j k b ds fs z1 z2 U Y
 ·rcases zK g with⟨_,z,_⟩ | ⟨J,z⟩
  ·cases z
  ·obtain⟨b,bs,I,g2,Z⟩:=r.rc.nst.1 j rows z
   obtain⟨b',a1,f1,f2,f3⟩:=rc.nst.1 j rows z;rw [I]at f1;cases f1;have eb:a1.map V.ref=bs.map V.ref:=by
    have:=e.s1 b _ g2.ha;rw [f2.ha]at this;injection this with this;injection this
   have aa:a1=bs:=y6 eb;subst aa;refine⟨b,a1,by rw [zgv (zht J)];exact I,f2,λk ds c e1 S=>?_⟩;rcases zK e1 with⟨rfl,_,O⟩ | ⟨hk,z1⟩
   ·rw [zhp (by rw [rc.len];exact O)]at S;cases S
    intro hm;obtain⟨_,ab,q⟩:=g2.at hm;rw [h1]at q;cases q
   ·rw [zgv (zht hk)]at S;exact f3 k ds c z1 S
 ·rcases zK I with⟨_,z,_⟩ | ⟨_,z1⟩
  ·cases z
  ·rcases zK g2 with⟨_,z,_⟩ | ⟨_,z2⟩
   ·cases z
   ·exact rc.nst.2 j k r1 r2 z1 z2
 ·rcases zK I with⟨rfl,z,O⟩ | ⟨J,z⟩
  ·rw [zhp (by rw [rc.len];exact O)]at g2;cases g2
   cases q:E a with
   | none=>rfl
   | some o=>rw [r.ext.s1 a o q]at h1;cases h1
  ·rw [zgv (zht J)]at g2;exact r.fresh j ds b z g2
 ·rcases zK I with⟨_,z,_⟩ | ⟨J,z⟩
  ·cases z
  ·rw [zgv (zht J)]at g2;exact(r.step e).fr2 j rows b xs z g2 Z
theorem RS.rewrite{i:Nat}{ds es:List D}{a:Addr}{xs ys:List V}(r:RS K E0 E H0 H σ γ)(hi:γ[i]? = some (.own ds))(O:σ[i]? = some (some (.ref a)))(h4:Reps K H0 es ys) :
 RS K E0 E H0 (upd H a (.lst ys)) σ (γ.set i (.own es)):=by
 obtain⟨a',a9,g1,g2,g3,g4⟩:=r.rc.own i ds hi;rw [O]at g1;cases g1;have ac:i<γ.length:=(zgw.mp hi).1;refine⟨⟨λb o q=>?_,by simp [r.rc.len],λj d' g=>?_,λj fs g=>?_,λj k b fs gs e1 I Y e4=>?_,⟨λj rows g=>?_,λj k r1 r2 e1 I=>?_⟩⟩,⟨r.ext.s0,λb o q=>?_,λb o q=>?_,r.ext.new⟩,λj fs b e1 I=>?_,λj rows b zs e1 I Y=>?_⟩
 ·rw [zJ (λz=>by rw [z,g2]at q;cases q)];exact r.rc.sub b o q
 ·rcases zK g with⟨_,z,_⟩ | ⟨Z,z⟩
  ·cases z
  ·exact r.rc.val j d' z
 ·rcases zK g with⟨rfl,z,hl⟩ | ⟨Z,z⟩
  ·cases z;exact⟨a,ys,O,g2,zH,h4⟩
  ·obtain⟨b,zs,J,S,U,f4⟩:=r.rc.own j fs z
   refine⟨b,zs,J,S,?_,f4⟩;rw [zJ (λq=>Z (r.rc.ne j i a fs ds z hi (by rw [J,q]) O))];exact U
 ·have c1 : ∃fs',γ[j]? = some (.own fs'):=by
   rcases zK e1 with⟨q,_,_⟩ | ⟨_,z⟩
   ·exact⟨ds,by rw [q];exact hi⟩
   ·exact⟨fs,z⟩
  have c2 : ∃fs',γ[k]? = some (.own fs'):=by
   rcases zK I with⟨q,_,_⟩ | ⟨_,z⟩
   ·exact⟨ds,by rw [q];exact hi⟩
   ·exact⟨gs,z⟩
  obtain⟨J,z1⟩:=c1;obtain⟨S,z2⟩:=c2;exact r.rc.ne j k b J S z1 z2 Y e4
 ·rcases zK g with⟨_,z,_⟩ | ⟨Z,z⟩
  ·cases z
  ·obtain⟨b,bs,J,S,U⟩:=r.rc.nst.1 j rows z
   have a2:=U i ds a hi O;refine⟨b,bs,J,S.move (Same.refl _) (λc hc=>(S.at hc).1) (λc hc=>zJ λq=>a2 (q ▸ hc)),λk fs c e1 I=>?_⟩;rcases zK e1 with⟨q,_,_⟩ | ⟨_,z1⟩
   ·rw [q,O]at I;cases I;exact a2
   ·exact U k fs c z1 I
 ·rcases zK e1 with⟨_,z,_⟩ | ⟨_,z1⟩
  ·cases z
  ·rcases zK I with⟨_,z,_⟩ | ⟨_,z2⟩
   ·cases z
   ·exact r.rc.nst.2 j k r1 r2 z1 z2
 ·rw [zJ (λz=>by rw [z,r.fresh i ds a hi O]at q;cases q)];exact r.ext.s1 b o q
 ·rw [zJ (λz=>by rw [z,g2]at q;cases q)];exact r.ext.sub b o q
 ·rcases zK e1 with⟨q,_,_⟩ | ⟨_,z⟩
  ·rw [q]at I;exact r.fresh i ds b hi I
  ·exact r.fresh j fs b z I
 ·rcases zK e1 with⟨_,z,_⟩ | ⟨Z,z⟩
  ·cases z
  ·obtain⟨b',bs,J,S,U⟩:=r.rc.nst.1 j rows z
   rw [I]at J;cases J;rw [zJ (show b≠a from λq=>U i ds a hi O (by rw [q];exact zgI))]at Y;exact r.fr2 j rows b zs z I Y
end
section
variable{X:Cx}{e a b c:Expr}{pos:Pos}{st:Stmt}{rest:List Stmt}
theorem j1:Y1 X [] jP:=WP zaL λD σ H z=>by
 obtain⟨E0,E,H0,γ,S,I,J,O⟩:=z;cases J;exact O σ H H0 I
theorem zg{F G:CO Fl}(h1:PSD X st F)(h2:Y1 X rest G):Y1 X (st::rest) (zF F G):=WP (Ql h1 h2) λD σ H O=>by
 obtain⟨E0,E,H0,γ,S,U,z,I⟩:=O;obtain⟨J,e1,z⟩:=bind_some z;refine⟨E0,E,H0,γ,J,U,e1,?_⟩;cases J with
 | next γ'=>exact λZ H' H0' Y=>⟨E0,E,H0',γ',S,Y,z,I⟩
 | brk γ'=>cases z;exact I
 | cont γ'=>cases z;exact I
 | ret r=>cases z;cases r<;>exact I
theorem zx{F:CO Fl}(h1:PSD X st F):Y1 X [st] F:=yS h1
theorem zE{α β:Type}{o:Option α}{f:α->β}{y:β}(h:o.map f=some y) : ∃x,o=some x/\f x=y:=by
 cases o with
 | none=>cases h
 | some x=>exact⟨x,rfl,by simpa using h⟩
theorem ji{f:CO D}(h:PV X e f):PSD X (.Return (some e) pos) (jO f):=xR (wa h) λD σ H J=>by
 obtain⟨E0,E,H0,γ,S,I,z,O⟩:=J;obtain⟨d,e1,z⟩:=zE z;subst z;exact⟨H0,γ,d,I.rc,e1,λv H' H0' x r=>O v H' H0' (I.ext.trans x) r⟩
theorem kt{f:CO (List D)}(h:PO X e f):PSD X (.Return (some e) pos) (qy f):=xR (wa h) λD σ H J=>by
 obtain⟨E0,E,H0,γ,U,z,I,O⟩:=J;obtain⟨ds,e1,I⟩:=zE I;subst I;refine⟨H0,γ,ds,z.rc,e1,λa xs H' H0' x h1 h2 S r=>O a xs H' H0' (z.ext.trans x) ?_ h2 S r⟩;cases q:E a with
 | none=>rfl
 | some o=>rw [z.ext.s1 a o q]at h1;cases h1
theorem qU(i:Nat)(h:PE X e (vY i)):PSD X (.Return (some e) pos) (yo i):=xR (wa h) λD σ H O=>by
 obtain⟨E0,E,H0,γ,Y,I,z,J⟩:=O;unfold yo at z;cases e1:γ[i]? with
 | none=>rw [e1]at z;cases z
 | some c=>
  rw [e1]at z;cases c with
  | no=>cases z
  | val d=>
   cases z;obtain⟨v,h1,h2⟩:=I.rc.val i d e1;exact⟨v,h1,J v H H0 I.ext h2⟩
  | nest rows=>cases z
  | own ds=>
   cases z;obtain⟨a,xs,h1,h2,S,U⟩:=I.rc.own i ds e1;exact⟨_,h1,J a xs H H0 I.ext (I.fresh i ds a e1 h1) h2 S U⟩
theorem ZK:PSD X (.Continue pos) Vk:=xR Jz λD σ H ⟨E0,E,H0,γ,O,z,I,J⟩=>by cases I;exact J σ H H0 z
theorem Kw:PSD X st ZA:=xR Vy λD σ H ⟨E0,E,H0,γ,I,J,z,O⟩=>by cases z
theorem xp{k:CO Bool}{F G:CO Fl}{x y:List Stmt}(S:PTD X c k)(ha:Y1 X x F)(U:Y1 X y G):PSD X (.If c x y pos) (sIf k F G):=xR (zez S ha U) λD σ H Y=>by
 obtain⟨E0,E,H0,γ,J,I,z,O⟩:=Y;obtain⟨t,e1,z⟩:=bind_some z;refine⟨H0,γ,t,I.rc,e1,λH' H0' x=>?_⟩;cases t with
 | true=>rw [if_pos rfl]at z ⊢;exact⟨E0,E,H0',γ,J,I.step x,z,O⟩
 | false=>rw [if_neg zgB]at z ⊢;exact⟨E0,E,H0',γ,J,I.step x,z,O⟩
theorem z9(i:Nat){f:CO D}(h:PS X st (X8 (tV X.K f) (kF i))):PSD X st (zO i f):=xR h λD σ H J=>by
 obtain⟨E0,E,H0,γ,S,I,z,O⟩:=J;obtain⟨d,e1,z⟩:=zE z;subst z;exact⟨H0,γ,d,I.rc,e1,λv H' H0' x r=>O _ _ H0' ((I.step x).setVal r)⟩
theorem qC(i:Nat){f:CO (List D)}(h:PS X st (X8 (tO X.K f) (kF i))):PSD X st (qJ i f):=xR h λD σ H J=>by
 obtain⟨E0,E,H0,γ,U,I,z,O⟩:=J;obtain⟨ds,e1,z⟩:=zE z;subst z;exact⟨H0,γ,ds,I.rc,e1,λa xs H' H0' x h1 h2 S r=>O _ _ H0' (I.setOwn x h1 h2 S r)⟩
theorem xz{o:Option Cell}{ds:List D}(h:qu o=some ds):o=some (.own ds):=by
 cases o with
 | none=>cases h
 | some c=>cases c<;>simp [qu]at h;rw [h]
theorem Xf(i:Nat){f:CO D}(h:PE X e (tBM X.K "list" Kp (vY i) (yK (tV X.K f) zbG)))(U:swapsWith e none pos.line X.env=pure false:=by rfl):PSD X (.Expr e pos) (qp i f):=
 xR (Ky h U) λD σ H Y=>by
  obtain⟨E0,E,H0,γ,fl,I,z,Z⟩:=Y;obtain⟨ds,e1,z⟩:=bind_some z;obtain⟨d,e2,z⟩:=bind_some z;have e1:=xz e1;by_cases J:ds.length<lim
  ·rw [if_pos J]at z;cases z
   obtain⟨a,xs,h1,h2,O,S⟩:=I.rc.own i ds e1;refine⟨_,h1,.inl ⟨rfl,_,SqL.of O⟩,H0,γ,d,I.rc,e2,λv H' H0' x r=>?_⟩;have a1:=I.step x;have a2:=x.s1 _ _ O;refine⟨a,xs,v,rfl,rfl,a2,?_,?_⟩
   ·exact zgG (by rw [S.length];exact J) (ke (zgp _))
   ·exact Z _ _ H0' (a1.rewrite (xs:=xs) e1 h1 ((S.mono x.s0).append (Reps.cons r Reps.nil)))
  ·rw [if_neg J]at z;cases z
end
def zfR(K:PySem.W.Frag)(H0 H:Hp)(Q:VK):Res->Prop
 | .val d=>∀v H' H0',Ext H0 H H0' H'->Rep K H0' d v->Q v H'
 | .own es=>∀a xs H' H0',Ext H0 H H0' H'->H a=none->H0' a=none->H' a=some (.lst xs)->Reps K H0' es xs->Q (.ref a) H'
def spF(K:PySem.W.Frag)(n:Nat)(F:List D->Option Res):Sp:=λvs H Q _=>∃H0 ds r,Same H0 H/\Reps K H0 ds vs/\ds.length=n/\F ds=some r/\zfR K H0 H Q r
theorem spF.len{K:PySem.W.Frag}{n:Nat}{F:List D->Option Res}{ps:List Str}(hn:ps.length=n) : ∀vs H Q E,spF K n F vs H Q E->vs.length=ps.length:=λvs H Q E h=>by
 obtain⟨H0,ds,r,_,h1,h2,_⟩:=h;rw [h1.length,h2,hn]
section
variable{P:Program}{w:World}{K:PySem.W.Frag}{mg:Str->Option Value}{base:Heap}
theorem Vo{H0 H:Hp}{N:List Str}{ds:List D}{vs:List V}(s:Same H0 H)(h:Reps K H0 ds vs)(hn:ds.length<=N.length):RS K H0 H H0 H (start N vs) (zV N.length ds):=by
 have z:=h.length;refine⟨⟨s,by simp [L2.start,zV,z],λi d e=>?_,λi es e=>?_,λi j a es fs e _ _ _=>?_,NestOk.nil0 λi rows e=>?_⟩,Ext.refl s,λi es a e _=>?_,λi rows a xs e _ _=>?_⟩
 all_goals unfold zV at e
 ·by_cases hi:i<ds.length
  ·rw [zhl (by simpa using hi),zg6]at e
   cases e1:ds[i]? with
   | none=>rw [e1]at e;cases e
   | some d'=>
    rw [e1]at e;cases e;obtain⟨x,I,g2⟩:=h.get e1;refine⟨x,?_,g2⟩;unfold L2.start;rw [zhl (by simp;omega),zg6,I];rfl
  ·rw [zg5 (by simpa using hi),zir]at e
   split at e<;>cases e
 all_goals
  by_cases hi:i<ds.length
  ·rw [zhl (by simpa using hi),zg6]at e
   cases e1:ds[i]? with
   | none=>rw [e1]at e;cases e
   | some d'=>rw [e1]at e;cases e
  ·rw [zg5 (by simpa using hi),zir]at e
   split at e<;>cases e
theorem zdk{x qual:Str}{st:Stmt}{f:Addr}{fd:FuncData}{N ps:List Str}{k:Nat}{F:CO Fl}(O:L2.Fun K x qual st f fd)(S:FnScope N ps (defScope st))
 (U : ∀(cdv:Value) (A:Around) (outer:List Env) (s:Shared) (H:Hp) (E:XK),Room k (A.deeper (envOfC qual (defScope st) s.heap.objs.size f cdv))->Y1 (zbp CX0 P w K mg base N qual (defScope st) f cdv A outer s H E).nox (defBody st) F) :
 FnOk P w K mg base CX0 (k+1) f fd ps (spF K ps.length (jb N.length F)):=by
 refine O.ok S (spF.len rfl) (λcdv A outer s H vs Q E Y h=>⟨_,U cdv A outer s H E Y,?_⟩);obtain⟨H0,ds,r,s0,h1,h2,Z,I⟩:=h;obtain⟨J,e1,z⟩:=bind_some Z;have a1:ps.length<=N.length:=by have:=congrArg List.length S.pre;rw [zik]at this;omega
 refine⟨H0,H,H0,zV N.length ds,J,Vo s0 h1 ⋯,e1,?_⟩;cases J with
 | ret r'=>cases z;cases r<;>exact I
 | next γ=>cases z;exact λσ' H' H0' rs=>I .non H' H0' rs.ext (show V.non = .non from rfl)
 | brk γ=>cases z
 | cont γ=>cases z
end
section
variable{X:Cx}{es:List Expr}{pos p:Pos}{k:Nat}{f:Addr}{fd:FuncData}{ps:List Str}{x:Str}{F:List D->Option Res}{g:CO (List D)}
theorem zaK{A0:List Expr}(G:FnOk X.prog X.w X.K X.mg X.base CX0 k f fd ps (spF X.K ps.length F))(ha:PAD X es g)(O : ∀γ ds,g γ=some ds->ds.length=ps.length)
 (S : ∀{t:TA},PA X es t->PE X (.Call (.Name x p) es [] pos) (Vd (spF X.K ps.length F) [] E0 t)):PV X (.Call (.Name x p) es [] pos) (zw F g):=
 jQ (S ha) λσ H Q U=>by
  obtain⟨H0,γ,d,rc,z,q⟩:=U;obtain⟨ds,e1,z⟩:=bind_some z;obtain⟨r,Y,z⟩:=zE z;refine⟨H0,γ,ds,rc,e1,λvs H1 Z x1 r1=>⟨Z,ds,r,x1.sub,by simpa using r1,O γ ds e1,Y,?_⟩⟩;subst z;cases r with
  | val d=>exact λv H' H0' I r2=>q v H' H0' (x1.trans I) r2
  | own fs=>
   refine λa xs H' H0' I h1 h2 h3 r2=>q _ H' _ (x1.trans (I.show h1 h2 h3 x1.sub)) ?_;exact(show ∃a' J,V.ref a = .ref a'/\SqL X.K _ a' J/\Reps X.K _ fs J from⟨a,xs,rfl,SqL.of zH,r2.mono (z5 h2 _)⟩)
theorem zaQ(G:FnOk X.prog X.w X.K X.mg X.base CX0 k f fd ps (spF X.K ps.length F))(ha:PAD X es g)(J : ∀γ ds,g γ=some ds->ds.length=ps.length)
 (O : ∀{t:TA},PA X es t->PE X (.Call (.Name x p) es [] pos) (Vd (spF X.K ps.length F) [] E0 t)):PO X (.Call (.Name x p) es [] pos) (zQ F g):=
 jQ (O ha) λσ H Q S=>by
  obtain⟨H0,γ,fs,rc,I,q⟩:=S;obtain⟨ds,e1,I⟩:=bind_some I;obtain⟨r,U,I⟩:=bind_some I;refine⟨H0,γ,ds,rc,e1,λvs H1 Y x1 Z=>⟨Y,ds,r,x1.sub,by simpa using Z,J γ ds e1,U,?_⟩⟩;cases r with
  | val d=>cases I
  | own gs=>
   cases I;exact λa xs H' H0' x2 h1 h2 h3 r2=>q a xs H' H0' (x1.trans x2) (by
    cases z:H a with
    | none=>rfl
    | some o=>rw [x1.s1 a o z]at h1;cases h1) h2 h3 r2
end
structure Walk(K:PySem.W.Frag)(H0 Hs:Hp)(J:It)(ds:List D):Prop where
 go : ∀i H1,Same Hs H1->i<ds.length->J.go i H1
 stop : ∀H1,Same Hs H1->J.stop ds.length H1
 yld : ∀i H1 x H1',Same Hs H1->i<ds.length->J.yld i H1 x H1'->∃d,ds[i]? = some d/\∀G0,Same H0 G0->Same G0 H1->∃G0',Ext G0 H1 G0' H1'/\Rep K G0' d x
theorem Walk.weak{K:PySem.W.Frag}{H0 Hs z:Hp}{J:It}{ds:List D}(w:Walk K H0 Hs J ds)(s:Same Hs z):Walk K H0 z J ds:=
 ⟨λi H1 h=>w.go i H1 (s.trans h),λH1 h=>w.stop H1 (s.trans h),λi H1 x H1' h=>w.yld i H1 x H1' (s.trans h)⟩
theorem wA{k:Sk}{K:PySem.W.Frag}{H0 Hs:Hp}{a:Addr}{xs:List V}{ds:List D}(h:SqK k K Hs a xs)(r:Reps K H0 ds xs):Walk K H0 Hs (Itk k K a) ds:=by
 have J:=r.length;refine⟨λi H1 s hi=>?_,λH1 s=>?_,λi H1 x H1' s hi y=>?_⟩
 ·have hx:i<xs.length:=by omega
  cases k with
  | L=>exact⟨xs,xs[i],s.seq h,zgn hx⟩
  | T=>exact⟨xs,xs[i],sameT s h,zgn hx⟩
 ·cases k with
  | L=>exact⟨xs,s.seq h,by omega⟩
  | T=>exact⟨xs,sameT s h,by omega⟩
 ·have e:H1'=H1/\xs[i]? = some x:=by
   cases k with
   | L=>exact⟨y.1,y.2 xs (s.seq h)⟩
   | T=>exact⟨y.1,y.2 xs (sameT s h)⟩
  obtain⟨e1,z⟩:=e;subst e1;obtain⟨d,hd,I⟩:=r.getV z;exact⟨d,hd,λG0 s1 s2=>⟨G0,Ext.refl s2,I.mono s1⟩⟩
theorem k4(lo:Int)(n:Nat):(qB lo n).length=n:=by simp [qB]
theorem vU{K:PySem.W.Frag}{H0 Hs:Hp}(lo:Int)(n:Nat):Walk K H0 Hs (Itr lo n) (qB lo n):=by
 refine⟨λi H1 s hi=>?_,λH1 s=>?_,λi H1 x H1' s hi y=>?_⟩
 ·rw [k4]at hi;exact hi
 ·rw [k4];exact zgp _
 ·rw [k4]at hi
  obtain⟨e1,z⟩:=y;subst e1 z;exact⟨.int (lo+i),by simp [qB,hi],λG0 s1 s2=>⟨G0,Ext.refl s2,(show V.int (lo+i) = .int (lo+i)from rfl)⟩⟩
theorem Y5{I J:Sk}{K:PySem.W.Frag}{H0 Hs:Hp}{a b:Addr}{xs ys:List V}{ds es:List D}(h1:SqK I K Hs a xs)(O:Reps K H0 ds xs)(h2:SqK J K Hs b ys)(r2:Reps K H0 es ys) :
 Walk K H0 Hs (Itz I J K a b) (vH ds es):=by
 have l1:=O.length;have l2:=r2.length;have U:(vH ds es).length=min ds.length es.length:=by simp [vH]
 refine⟨λi H1 s hi=>?_,λH1 s=>?_,λi H1 x H1' s hi y=>?_⟩
 ·exact⟨xs,ys,Zy s h1,Zy s h2,by omega,by omega⟩
 ·refine⟨xs,ys,Zy s h1,Zy s h2,?_⟩
  rw [U];omega
 ·obtain⟨p,u,v,e1,z,Y,Z,g2⟩:=y
  obtain⟨d,hd,hr⟩:=O.getV (Z xs (Zy s h1));obtain⟨c,hc,a2⟩:=r2.getV (g2 ys (Zy s h2));refine⟨.tup [d,c],?_,λG0 s1 s2=>⟨upd G0 p (.tup [u,v]),?_,?_⟩⟩
  ·have a3:(ds.zip es)[i]? = some (d,c):=List.getElem?_zip_eq_some.mpr ⟨hd,hc⟩
   simp [vH,a3]
  ·rw [Y];exact Ext.alloc s2 z _
  ·rw [e1]
   exact(show ∃a' S,V.ref p = .ref a'/\SqT K _ a' S/\Reps K _ [d,c] S from⟨p,[u,v],rfl,SqT.of zH,Reps.cons ((hr.mono s1).mono (z5 (jp s2 z) _)) (Reps.cons ((a2.mono s1).mono (z5 (jp s2 z) _)) Reps.nil)⟩)
def tIc(K:PySem.W.Frag)(src:CO (List D)):TI:=λσ H R=>∃H0 γ ds,RC K H0 H σ γ/\src γ=some ds/\∀J H' H0',Ext H0 H H0' H'->Walk K H0' H' J ds->R J H'
def tIf(K:PySem.W.Frag)(src:CO (List D)):TI:=λσ H R=>∃H0 γ ds,RC K H0 H σ γ/\src γ=some ds/\∀J H' H0',Ext H0 H H0' H'->Walk K H0' H0' J ds->R J H'
abbrev PIC(X:Cx)(tg e:Expr)(src:CO (List D)):Prop:=PI X tg e (tIc X.K src)
abbrev PIF(X:Cx)(tg e:Expr)(src:CO (List D)):Prop:=PI X tg e (tIf X.K src)
section
variable{X:Cx}{tg e a b:Expr}{pos p:Pos}
theorem PIF.c{src:CO (List D)}(h:PIF X tg e src):PIC X tg e src:=ZN h λσ H R ⟨H0,γ,ds,rc,z,q⟩=>⟨H0,γ,ds,rc,z,λJ H' H0' x w=>q J H' H0' x (w.weak x.sub)⟩
theorem jj{f:CO (Sk×List D)}(h:PQ X e f):PIC X tg e (zB f):=ZN (WT h) λσ H R z=>by
 obtain⟨H0,γ,ds,rc,I,q⟩:=z;obtain⟨⟨k,es⟩,e1,J⟩:=zE I;subst J;exact⟨H0,γ,k,es,rc,e1,λa xs H' H0' x h1 _ r=>⟨a,k,rfl,⟨xs,h1⟩,q _ H' H0' x (wA h1 r)⟩⟩
theorem zaS{f:CO D}(h:PV X e f):PIF X tg e (zB (zz f)):=ZN (WT h) λσ H R J=>by
 obtain⟨H0,γ,ds,rc,O,q⟩:=J;obtain⟨⟨k,es⟩,e1,z⟩:=zE O;subst z;obtain⟨d,S,e1⟩:=bind_some e1;refine⟨H0,γ,d,rc,S,λv H' H0' x r=>?_⟩;cases d with
 | tup fs=>
  obtain⟨z,I⟩:k = .T/\es=fs:=by simp [js]at e1;exact⟨e1.1.symm,e1.2.symm⟩
  subst z I;obtain⟨a,xs,rfl,h1,h2⟩:=(show ∃a xs,v = .ref a/\SqT X.K H0' a xs/\Reps X.K H0' es xs from r);exact⟨a,.T,rfl,⟨xs,sameT x.sub h1⟩,q _ H' H0' x (wA (k:= .T) h1 h2)⟩
 | lst fs=>
  obtain⟨z,I⟩:k = .L/\es=fs:=by simp [js]at e1;exact⟨e1.1.symm,e1.2.symm⟩
  subst z I;obtain⟨a,xs,rfl,h1,h2⟩:=(show ∃a xs,v = .ref a/\SqL X.K H0' a xs/\Reps X.K H0' es xs from r);exact⟨a,.L,rfl,⟨xs,x.sub.seq h1⟩,q _ H' H0' x (wA (k:= .L) h1 h2)⟩
 | _=>simp [js]at e1
theorem qG{d:D}{i:Int}(h:asI d=some i):d = .int i:=by cases d<;>simp [asI]at h;rw [h]
theorem wZ{i:Int}(h:inR i=true) : -(2 ^ 62)<=i/\i<2 ^ 62:=by
 unfold inR at h;have h:=of_decide_eq_true h;omega
theorem Xj{f:CO D}(J:Gl X "range")(hm:X.mg "range" = none)(ha:PV X a f)(I:starEach [a] X.env=[(false,eval a X.env)]:=by rfl):PIF X tg (.Call (.Name "range" p) [a] [] pos) (zY f):=
 ZN (KC J hm (zT ha jF I) I) λσ H R O=>by
  obtain⟨H0,γ,ds,rc,z,q⟩:=O;obtain⟨n,e1,z⟩:=bind_some z;obtain⟨d,S,e1⟩:=bind_some e1;by_cases hn:inR n=true
  ·rw [if_pos hn]at z;cases z
   refine⟨H0,γ,d,rc,S,λv H' H0' x r=>?_⟩;rw [qG e1]at r;obtain⟨h1,h2⟩:=wZ hn;exact⟨n,by rw [show v = .int n from r],h1,h2,q _ H' H0' x (vU 0 n.toNat)⟩
  ·rw [if_neg hn]at z;cases z
theorem Xi{f g:CO D}(S:Gl X "range")(hm:X.mg "range" = none)(ha:PV X a f)(U:PV X b g)(O:starEach [a,b] X.env=[(false,eval a X.env),(false,eval b X.env)]:=by rfl)(I:starEach [b] X.env=[(false,eval b X.env)]:=by rfl) :
 PIF X tg (.Call (.Name "range" p) [a,b] [] pos) (x6 f g):=
 ZN (KB S hm (zT ha (zT U jF I) (by rw [O,I])) O I) λσ H R Y=>by
  obtain⟨H0,γ,ds,rc,z,q⟩:=Y;obtain⟨m,e1,z⟩:=bind_some z;obtain⟨d,Z,e1⟩:=bind_some e1;obtain⟨n,J,z⟩:=bind_some z;obtain⟨c,e2,J⟩:=bind_some J;by_cases hn:inR m=true/\inR n=true
  ·rw [if_pos hn]at z;cases z
   refine⟨H0,γ,d,rc,Z,λv H' H0' x r=>⟨H0',γ,c,rc.ext x,e2,λv2 H2 a2 x2 r2=>?_⟩⟩;rw [qG e1]at r;rw [qG J]at r2;obtain⟨h1,h2⟩:=wZ hn.1;obtain⟨h3,h4⟩:=wZ hn.2;exact⟨m,n,by rw [show v = .int m from r,show v2 = .int n from r2],⟨h1,h2,h3,h4⟩,q _ H2 a2 (x.trans x2) (vU m (n - m).toNat)⟩
  ·rw [if_neg hn]at z;cases z
theorem Ke{K:PySem.W.Frag}{H:Hp}{d:D}{v:V}{k:Sk}{ds:List D}(r:Rep K H d v)(e:js d=some (k,ds)) : ∃a xs,v = .ref a/\SqK k K H a xs/\Reps K H ds xs:=by
 cases d with
 | tup fs=>simp [js]at e;obtain⟨e1,z⟩:=e;subst e1 z;exact r
 | lst fs=>simp [js]at e;obtain⟨e1,z⟩:=e;subst e1 z;exact r
 | _=>simp [js]at e
theorem zaR{f g:CO D}{elts:List Expr}{x1:Nat}{tpos:Pos}(Z:Gl X "zip")(hm:X.mg "zip" = none)(ha:PV X a f)(hb:PV X b g)(S:starEach [a,b] X.env=[(false,eval a X.env),(false,eval b X.env)]:=by rfl)(J:starEach [b] X.env=[(false,eval b X.env)]:=by rfl) :
 PIF X (.Tuple elts x1 tpos) (.Call (.Name "zip" p) [a,b] [] pos) (Jq f g):=
 ZN (zcy Z hm (zT ha (zT hb jF J) (by rw [S,J])) PyProof.Rows.boot_zip S J) λσ H R hZ=>by
  obtain⟨H0,γ,ds,rc,z,q⟩:=hZ;obtain⟨⟨k1,m⟩,e1,z⟩:=bind_some z;obtain⟨d,e0,e1⟩:=bind_some e1;obtain⟨⟨k2,n⟩,O,z⟩:=zE z;obtain⟨c,e2,O⟩:=bind_some O;subst z;refine⟨H0,γ,d,rc,e0,λv H' H0' x r=>⟨H0',γ,c,rc.ext x,e2,λv2 H2 a8 I r2=>?_⟩⟩;obtain⟨a1,xs,rfl,U,g2⟩:=Ke (r.mono I.s0) e1;obtain⟨a2,ys,rfl,Y,g4⟩:=Ke r2 O;exact⟨k1,k2,a1,a2,rfl,⟨xs,Zy I.sub U⟩,⟨ys,Zy I.sub Y⟩,q _ H2 a8 (x.trans I) (Y5 U g2 Y g4)⟩
end
def setAll:List Nat->List V->St->St
 | i::is,v::vs,σ=>setAll is vs (σ.set i (some v))
 | _,_,σ=>σ
def gs:List Nat->TGs
 | []=>zfC
 | i::is=>zdj (kF i) (gs is)
def gOf(K:PySem.W.Frag):Tg->TG
 | .nm i=>kF i
 | .tp is=>zfB K is.length (gs is)
theorem Yc : ∀{is:List Nat} {vs:List V} {σ:St} {H:Hp} {Q:St->Hp->Prop},vs.length=is.length->Q (setAll is vs σ) H->gs is vs σ H Q
 | [],[],_,_,_,_,q=>⟨rfl,q⟩
 | i::is,v::vs,σ,H,Q,hl,q=>⟨v,vs,rfl,Yc (by simpa using hl) q⟩
 | [],_::_,_,_,_,hl,_=>by simp at hl
 | _::_,[],_,_,_,hl,_=>by simp at hl
theorem RS.setAll{K:PySem.W.Frag}{E0 E H0 H:Hp} : ∀{is:List Nat} {ds:List D} {vs:List V} {σ:St} {γ:Ctx},RS K E0 E H0 H σ γ->Reps K H0 ds vs->RS K E0 E H0 H (setAll is vs σ) (j6 is ds γ)
 | [],ds,vs,σ,γ,r,h=>by cases ds<;>cases vs<;>exact r
 | i::is,[],vs,σ,γ,r,h=>by rw [h.inv_nil];exact r
 | i::is,d::ds,vs,σ,γ,r,h=>by
  obtain⟨x,t,e,h1,h2⟩:=h.inv_cons;subst e;show RS K E0 E H0 H (DL.setAll is t (σ.set i (some x))) (j6 is ds (γ.set i (.val d)));exact RS.setAll (r.setVal h1) h2
theorem RC.setAll{K:PySem.W.Frag}{H0 H:Hp} : ∀{is:List Nat} {ds:List D} {vs:List V} {σ:St} {γ:Ctx},RC K H0 H σ γ->Reps K H0 ds vs->RC K H0 H (setAll is vs σ) (j6 is ds γ)
 | [],ds,vs,σ,γ,r,h=>by cases ds<;>cases vs<;>exact r
 | i::is,[],vs,σ,γ,r,h=>by rw [h.inv_nil];exact r
 | i::is,d::ds,vs,σ,γ,r,h=>by
  obtain⟨x,t,e,h1,h2⟩:=h.inv_cons;subst e;show RC K H0 H (DL.setAll is t (σ.set i (some x))) (j6 is ds (γ.set i (.val d)));exact RC.setAll (r.setVal h1) h2
theorem vn{K:PySem.W.Frag}{H0 H:Hp}{T:Tg}{d:D}{v:V}{σ:St}{γ γ1:Ctx}{Q:St->Hp->Prop}(s:Same H0 H)(h:Rep K H0 d v)(e:qv T d γ=some γ1)
 (q : ∀z,(RC K H0 H σ γ->RC K H0 H z γ1)->(∀E0 E,RS K E0 E H0 H σ γ->RS K E0 E H0 H z γ1)->Q z H):gOf K T v σ H Q:=by
 cases T with
 | nm i=>cases e;exact q _ (λr=>r.setVal h) λE0 E r=>r.setVal h
 | tp is=>
  cases d with
  | tup ds=>
   simp only [qv]at e;by_cases I:ds.length=is.length
   ·rw [if_pos I]at e;cases e
    obtain⟨a,xs,rfl,h1,h2⟩:=(show ∃a xs,v = .ref a/\SqT K H0 a xs/\Reps K H0 ds xs from h);have hx:xs.length=is.length:=by rw [h2.length,I]
    exact⟨a,xs,rfl,sameT s h1,hx,Yc hx (q _ (λr=>r.setAll h2) λE0 E r=>r.setAll h2)⟩
   ·rw [if_neg I]at e;cases e
  | _=>simp [qv]at e
theorem Ext.rebase{E0 E z H0 H B:Hp}(e:Ext E0 E z B)(x:Ext z E H0 H):Ext E0 E H0 H:=
 ⟨e.s0.trans x.s0,x.s1,x.sub,λa h1 h2=>x.new a (e.new a h1 h2) h2⟩
theorem Ext.base{E0 E z B:Hp}(e:Ext E0 E z B):Ext z E z B:=⟨Same.refl _,e.s1,e.sub,λa h _=>h⟩
theorem Sat.rebase{K:PySem.W.Frag}{E0 E I B:Hp}{D:Ends}{z:Fl}(e:Ext E0 E I B)(h:Sat K E0 E D z):Sat K I E D z:=by
 cases z with
 | next γ=>exact λσ H H0 r=>h σ H H0 ⟨r.rc,e.rebase r.ext,r.fresh,r.fr2⟩
 | brk γ=>exact λσ H H0 r=>h σ H H0 ⟨r.rc,e.rebase r.ext,r.fresh,r.fr2⟩
 | cont γ=>exact λσ H H0 r=>h σ H H0 ⟨r.rc,e.rebase r.ext,r.fresh,r.fr2⟩
 | ret r=>
  cases r with
  | val d=>exact λv H H0 x q=>h v H H0 (e.rebase x) q
  | own es=>exact λa xs H H0 x h1 h2 J q=>h a xs H H0 (e.rebase x) h1 h2 J q
section
variable{X:Cx}{tg iter:Expr}{body:List Stmt}{pos:Pos}
theorem qj{src:CO (List D)}{T:Tg}{F:CO Fl}(hp:PassesOwn (model X.prog X.w) X.A X.env X.xe)(hc:X.calm=true)(hi:PIF X tg iter src)(hg:PG X tg (gOf X.K T))(hb:Y1 X body F)
 (hs : ∀x,foldedSetIterable iter X.env x=pure x:=by intro _;rfl):PSD X (.For tg iter body [] pos) (xK src T F):=
 xR (zcv hp hc hi hg hb hs) λD σ H hZ=>by
  obtain⟨E0,E,H0,γ,I,O,z,U⟩:=hZ;obtain⟨ds,e1,z⟩:=bind_some z;refine⟨H0,γ,ds,O.rc,e1,λJ H1 S x1 wk=>?_⟩;have Z:=O.step x1;have ex:=Z.ext;refine⟨λi m σ H=>m=ds.length - i/\i<=ds.length/\∃H0 γ I,RS X.K S E H0 H σ γ/\qh T F (ds.drop i) γ=some I/\Sat X.K S E D I,⟨_,rfl,zh5 _,S,γ,I,⟨Z.rc,ex.base,Z.fresh,Z.fr2⟩,z,U.rebase ex⟩,?_⟩;rintro i m σ H ⟨rfl,hi,H0,γ,I,O,z,U⟩;have a2:Same S H:=O.ext.s0.trans O.ext.sub;by_cases Y:i<ds.length
  ·refine .inr ⟨wk.go i H a2 Y,λσ H=>i+1<=ds.length/\∃H0 γ I,RS X.K S E H0 H σ γ/\qh T F (ds.drop (i+1)) γ=some I/\Sat X.K S E D I,λσ' H' n=>⟨ds.length - (i+1),by omega,rfl,n.1,n.2⟩,λx H' y=>?_⟩
   obtain⟨d,hd,hx⟩:=wk.yld i H x H' a2 Y y;obtain⟨G0,xg,rg⟩:=hx H0 O.ext.s0 O.rc.sub;have ad:ds.drop i=d::ds.drop (i+1):=by
    have ae:d=ds[i]:=by rw [zgn Y]at hd;exact(zhy hd).symm
    rw [ae];exact List.drop_eq_getElem_cons Y
   rw [ad]at z;simp only [qh]at z;obtain⟨γ1,eb,z⟩:=bind_some z;obtain⟨f1,eF,z⟩:=bind_some z;refine vn xg.sub rg eb λσ1 _ ah=>⟨S,E,G0,γ1,f1,ah S E (O.step xg),eF,?_⟩;cases f1 with
   | next γ2=>exact λσ2 H2 a3 r2=>⟨Y,a3,γ2,I,r2,z,U⟩
   | cont γ2=>exact λσ2 H2 a3 r2=>⟨Y,a3,γ2,I,r2,z,U⟩
   | brk γ2=>cases z;exact U
   | ret r=>cases z;cases r<;>exact U
  ·have e:i=ds.length:=by omega
   subst e;rw [List.drop_length]at z;cases z;exact .inl ⟨wk.stop H a2,U σ H H0 O⟩
end
theorem qq{n:Nat}{fr:List Nat}{γ:Ctx}{i:Nat}{c:Cell}(h:(z4 n fr γ)[i]? = some c):c = .no\/(∃d j,c = .val d/\n<=i/\fr[i - n]? = some j/\γ[j]? = some (.val d)):=by
 unfold z4 at h;by_cases hi:i<n
 ·rw [zhl (by simpa using hi),zir,if_pos hi]at h
  exact .inl (zhy h).symm
 ·rw [zg5 (by simpa using hi),zg6,List.length_replicate]at h
  cases e:fr[i - n]? with
  | none=>rw [e]at h;cases h
  | some j=>
   rw [e]at h;have h':j3 (γ[j]?.getD .no)=c:=by simpa using h
   cases e2:γ[j]? with
   | none=>rw [e2]at h';exact .inl h'.symm
   | some z=>
    rw [e2]at h';cases z with
    | no=>exact .inl h'.symm
    | own ds=>exact .inl h'.symm
    | nest rows=>exact .inl h'.symm
    | val d=>exact .inr ⟨d,j,h'.symm,by omega,rfl,e2⟩
theorem RC.pull{K:PySem.W.Frag}{H0 H:Hp}{σ:St}{γ:Ctx}{own:List Str}{fr:List (Str×Nat)}(r:RC K H0 H σ γ):RC K H0 H (L2.pull own fr σ) (z4 own.length (fr.map (·.2)) γ):=by
 refine⟨r.sub,by simp [L2.pull,z4],λi d h=>?_,λi ds h=>?_,λi j a ds es h _ _ _=>?_,NestOk.nil0 λi rows h=>?_⟩
 ·rcases qq h with z | ⟨d',j,z,hi,I,J⟩
  ·cases z
  ·cases z
   obtain⟨v,h1,h2⟩:=r.val j d J;refine⟨v,?_,h2⟩;rw [zg6]at I;cases q:fr[i - own.length]? with
   | none=>rw [q]at I;cases I
   | some p=>
    rw [q]at I;have O:p.2=j:=by simpa using I
    unfold L2.pull;rw [zg5 (by simpa using hi),zg6,zgH,q];simp [O,h1]
 ·rcases qq h with z | ⟨d',j,z,_⟩<;>cases z
 ·rcases qq h with z | ⟨d',j,z,_⟩<;>cases z
 ·rcases qq h with z | ⟨d',j,z,_⟩<;>cases z
theorem RC.weak{K:PySem.W.Frag}{H0 H:Hp}{σ:St}{γ γ':Ctx}(r:RC K H0 H σ γ)(I:γ'.length=γ.length)(J : ∀(i:Nat) d,γ'[i]? = some (.val d)->γ[i]? = some (.val d))(z : ∀(i:Nat) ds,γ'[i]? ≠ some (.own ds))(O : ∀(i:Nat) rows,γ'[i]? ≠ some (.nest rows)):RC K H0 H σ γ':=
 ⟨r.sub,by rw [I];exact r.len,λi d h=>r.val i d (J i d h),λi ds h=>absurd h (z i ds),λi j a ds es h _ _ _=>absurd h (z i ds),NestOk.nil0 O⟩
theorem RC.upd{K:PySem.W.Frag}{H0 H:Hp}{σ:St}{γ:Ctx}{D:Addr}{o:HO}(r:RC K H0 H σ γ)(J:H0 D=none)(I : ∀(i:Nat) ds,γ[i]? ≠ some (.own ds))(O : ∀(i:Nat) rows,γ[i]? ≠ some (.nest rows)):RC K H0 (upd H D o) σ γ:=
 ⟨λb u q=>by rw [zJ (λz=>by rw [z,J]at q;cases q)];exact r.sub b u q,r.len,r.val,λi ds h=>absurd h (I i ds),λi j a ds es h _ _ _=>absurd h (I i ds),NestOk.nil0 O⟩
theorem yO : ∀{is:List Nat} {ds:List D} {γ:Ctx},(j6 is ds γ).length=γ.length
 | [],ds,γ=>by cases ds<;>rfl
 | i::is,[],γ=>rfl
 | i::is,d::ds,γ=>by show(j6 is ds (γ.set i (.val d))).length=_;rw [yO];simp
theorem yP : ∀{is:List Nat} {ds:List D} {γ:Ctx} {i:Nat},i∉is->(j6 is ds γ)[i]? = γ[i]?
 | [],ds,γ,i,_=>by cases ds<;>rfl
 | j::is,[],γ,i,_=>rfl
 | j::is,d::ds,γ,i,h=>by
  show(j6 is ds (γ.set j (.val d)))[i]? = _;rw [yP (λz=>h (zgJ _ z)),zgv (λz=>h (by rw [<- z];exact zgI))]
theorem YK{T:Tg}{d:D}{γ γ1:Ctx}(h:qv T d γ=some γ1):γ1.length=γ.length/\∀i,i∉T.idx->γ1[i]? = γ[i]? :=by
 cases T with
 | nm j=>cases h;exact⟨by simp,λi hi=>zgv (λz=>hi (by simp [Tg.idx,z]))⟩
 | tp is=>
  cases d with
  | tup ds=>
   simp only [qv]at h;by_cases I:ds.length=is.length
   ·rw [if_pos I]at h;cases h;exact⟨yO,λi hi=>yP hi⟩
   ·rw [if_neg I]at h;cases h
  | _=>simp [qv]at h
section
variable{K:PySem.W.Frag}{own:List Str}{fr:List (Str×Nat)}{src:CO (List D)}{T:Tg}{k:CO Bool}{f:CO D}
theorem kK(hT : ∀i∈T.idx,i<own.length){tt:TT}(av : ∀σ H Q,tT K k σ H Q->tt σ H Q) : ∀σ H Q,tO K (zC src T own.length (fr.map (·.2)) k f) σ H Q->Vb (tIc K src) own fr (gOf K T) tt (tV K f) σ H Q:=λσ H Q hZ=>by
 obtain⟨H0,γ,ds,rc,S,q⟩:=hZ;obtain⟨items,e1,S⟩:=bind_some S;by_cases hl:items.length<=lim
 ·rw [if_pos hl]at S
  refine⟨H0,γ,items,rc,e1,λJ H1 a5 x1 wk D Z=>?_⟩;have a7 : ∀(i:Nat) es,(z4 own.length (fr.map (·.2)) γ)[i]? ≠ some (.own es):=λi es h=>by rcases qq h with z | ⟨d',j,z,_⟩<;>cases z
  have a8 : ∀(i:Nat) rows,(z4 own.length (fr.map (·.2)) γ)[i]? ≠ some (.nest rows):=λi es h=>by rcases qq h with z | ⟨d',j,z,_⟩<;>cases z
  have ag:a5 D=none:=jp x1.sub Z;have ax:H D=none:=by
   cases z:H D with
   | none=>rfl
   | some o=>rw [x1.s1 D o z]at Z;cases Z
  refine⟨λi m ys σ' H'=>m=items.length - i/\i<=items.length/\ys.length<=i/\H' D=some (.lst ys)/\∃H0' a0 a2,RC K H0' H' σ' (z4 own.length (fr.map (·.2)) γ)/\H0' D=none/\Ext a5 H1 H0' H'/\Reps K H0' a0 ys/\zG T k f (z4 own.length (fr.map (·.2)) γ) (items.drop i)=some a2/\ds=a0++a2,
   ⟨_,rfl,zh5 _,zgp _,zH,a5,[],ds,((rc.ext x1).pull).upd ag a7 a8,ag,Ext.hide x1.sub Z _,Reps.nil,S,rfl⟩,?_⟩
  rintro i m ys σ' H' ⟨rfl,hi,hy,a3,H0',a0,a2,a9,ai,U,r',I,rfl⟩;refine⟨a3,?_⟩;by_cases Y:i<items.length
  ·refine .inr ⟨wk.go i H' U.s1 Y,?_,λx aa y=>?_⟩
   ·have:=ke (zgp lim);omega
   obtain⟨d,hd,hx⟩:=wk.yld i H' x aa U.s1 Y y;obtain⟨G0,O,rg⟩:=hx H0' U.s0 a9.sub;have az:items.drop i=d::items.drop (i+1):=by
    have b0:d=items[i]:=by rw [zgn Y]at hd;exact(zhy hd).symm
    rw [b0];exact List.drop_eq_getElem_cons Y
   rw [az]at I;simp only [zG]at I;obtain⟨γ1,eb,I⟩:=bind_some I;obtain⟨b,ek,I⟩:=bind_some I;have ba:G0 D=none:=O.new D ai (by rw [a3];simp);have ak:aa D=some (.lst ys):=O.s1 _ _ a3;obtain⟨bl,bg⟩:=YK eb;have al : ∀{σ2:St} {G2 H2:Hp},RC K G2 H2 σ2 γ1->RC K G2 H2 σ2 (z4 own.length (fr.map (·.2)) γ):=λr=>r.weak bl.symm (λj d' hj=>by
    by_cases hm:j∈T.idx
    ·rcases qq hj with z | ⟨d2,j2,_,hn,_⟩
     ·cases z
     ·exact absurd (hT j hm) ⋯
    ·rw [bg j hm];exact hj) a7 a8
   refine vn O.sub rg eb λσ1 ap _=>av σ1 aa _ ⟨G0,γ1,b,ap (a9.ext O),ek,λH3 ab x3=>?_⟩;have ac:=(ap (a9.ext O)).ext x3;have xa:=U.trans (O.trans x3);have ar:ab D=none:=x3.new D ba (by rw [ak];simp);have ad:H3 D=some (.lst ys):=x3.s1 _ _ ak;cases b with
   | true=>
    dsimp only;rw [if_pos rfl]at I ⊢;obtain⟨e,ee,I⟩:=bind_some I;obtain⟨rest,er,I⟩:=zE I;refine⟨ab,γ1,e,ac,ee,λv H4 as x4 r4=>?_⟩;have ae:as D=none:=x4.new D ar (by rw [ad];simp);have bj:H4 D=some (.lst ys):=x4.s1 _ _ ad;have xb:=xa.trans x4;refine⟨bj,items.length - (i+1),by omega,rfl,Y,by rw [zhq,ziB];omega,zH,as,a0++[e],rest,(al (ac.ext x4)).upd ae a7 a8,ae,?_,(r'.mono ((O.trans (x3.trans x4)).s0)).append (Reps.cons r4 Reps.nil),er,?_⟩
    ·exact⟨xb.s0,λc o z=>by rw [zJ (λw=>by rw [w,Z]at z;cases z)];exact xb.s1 c o z,λc o z=>by rw [zJ (λw=>by rw [w,ae]at z;cases z)];exact xb.sub c o z,xb.new⟩
    ·rw [<- I];simp
   | false=>
    dsimp only;rw [if_neg zgB]at I ⊢;exact⟨items.length - (i+1),by omega,rfl,Y,by omega,ad,ab,a0,a2,al ac,ar,xa,r'.mono ((O.trans x3).s0),I,rfl⟩
  ·have e:i=items.length:=by omega
   subst e;rw [List.drop_length]at I;cases I;rw [zjb]at q;exact .inl ⟨wk.stop H' U.s1,q D ys H' H0' (x1.trans U) ax ai a3 r'⟩
 ·rw [if_neg hl]at S;cases S
end
section
variable{X:Cx}{scope:Scope}{own:List Str}{fr:List (Str×Nat)}{elt tg iter c:Expr}{pos:Pos}{src:CO (List D)}{T:Tg}{k:CO Bool}{f:CO D}
theorem jx(z:X.calm=true)(ok:CompOk X scope fr)(I : ∀i∈T.idx,i<own.length)(hi:PIC X tg iter src)(J : ∀fp s2 H2,PG (jg X scope (own++fr.map (·.1)) fp s2 H2) tg (gOf X.K T))
 (O : ∀fp s2 H2,PV (jg X scope (own++fr.map (·.1)) fp s2 H2) elt f) (S : ∀x,foldedSetIterable iter X.env x=pure x:=by intro _;rfl) :
 PO X (.ListComp elt [⟨tg,iter,[],0⟩] scope pos) (zC src T own.length (fr.map (·.2)) z6 f):=
 jQ (JC z ok hi J (λ_ _ _=>Qo) O S) (kK I λσ H Q ⟨H0,γ,b,rc,U,q⟩=>by cases U;exact q H H0 (Ext.refl rc.sub))
theorem yU(z:X.calm=true)(ok:CompOk X scope fr)(I : ∀i∈T.idx,i<own.length)(hi:PIC X tg iter src)(J : ∀fp s2 H2,PG (jg X scope (own++fr.map (·.1)) fp s2 H2) tg (gOf X.K T))
 (O : ∀fp s2 H2,PTD (jg X scope (own++fr.map (·.1)) fp s2 H2) c k) (S : ∀fp s2 H2,PV (jg X scope (own++fr.map (·.1)) fp s2 H2) elt f) (U : ∀x,foldedSetIterable iter X.env x=pure x:=by intro _;rfl) :
 PO X (.ListComp elt [⟨tg,iter,[c],0⟩] scope pos) (zC src T own.length (fr.map (·.2)) k f):=
 jQ (JC z ok hi J (λfp s2 H2=>Qn (O fp s2 H2)) S U) (kK I λσ H Q h=>h)
theorem Vz{y:Str}{z I:Pos}{i:Nat}(J:X.N.Nodup)(O:X.N[i]? = some y)(S:Loc X.env.scope y)(U:X.fn y=true\/X.env.scope.names.lookup y=some .local)
 (Y:X.calm=true) (ok:CompOk X scope fr) (Z : ∀i∈T.idx,i<own.length) (hi:PIC X tg iter src) (hg : ∀fp s2 H2,PG (jg X scope (own++fr.map (·.1)) fp s2 H2) tg (gOf X.K T))
 (he : ∀fp s2 H2,PV (jg X scope (own++fr.map (·.1)) fp s2 H2) elt f) (hs : ∀x,foldedSetIterable iter X.env x=pure x:=by intro _;rfl) :
 PS X (.Assign [.Name y z] (.ListComp elt [⟨tg,iter,[],0⟩] scope pos) I) (X8 (tO X.K (zC src T own.length (fr.map (·.2)) z6 f)) (kF i)):=
 xR (v9 J O S U Y ok hi hg (λ_ _ _=>Qo) he hs) λD σ H h=>kK Z (λσ H Q hZ=>by obtain⟨H0,γ,b,rc,ef,q⟩:=hZ;cases ef;exact q H H0 (Ext.refl rc.sub)) σ H _ h
theorem Xg{y:Str}{z I:Pos}{i:Nat}(J:X.N.Nodup)(O:X.N[i]? = some y)(S:Loc X.env.scope y)(U:X.fn y=true\/X.env.scope.names.lookup y=some .local)
 (Y:X.calm=true) (ok:CompOk X scope fr) (Z : ∀i∈T.idx,i<own.length) (hi:PIC X tg iter src) (hg : ∀fp s2 H2,PG (jg X scope (own++fr.map (·.1)) fp s2 H2) tg (gOf X.K T))
 (hk : ∀fp s2 H2,PTD (jg X scope (own++fr.map (·.1)) fp s2 H2) c k) (he : ∀fp s2 H2,PV (jg X scope (own++fr.map (·.1)) fp s2 H2) elt f) (hs : ∀x,foldedSetIterable iter X.env x=pure x:=by intro _;rfl) :
 PS X (.Assign [.Name y z] (.ListComp elt [⟨tg,iter,[c],0⟩] scope pos) I) (X8 (tO X.K (zC src T own.length (fr.map (·.2)) k f)) (kF i)):=
 xR (v9 J O S U Y ok hi hg (λfp s2 H2=>Qn (hk fp s2 H2)) he hs) λD σ H h=>kK Z (λσ H Q h=>h) σ H _ h
end
theorem jD{K:PySem.W.Frag}{H:Hp}{i:Int}{v:V}(h:Rep K H (.int i) v):v = .int i:=h
theorem Vh{K:PySem.W.Frag}{g:Int->Int->D}{z:Int->Int->V}(J : ∀H i j,Rep K H (g i j) (z i j)):Snd K (rI0 z) (dI g):=λH0 H x y dx O d Q s S U I q=>by
 cases dx<;>cases O<;>simp [dI]at I;subst I;exact⟨_,_,jD S,jD U,q _ H H0 (Ext.refl s) (J H0 _ _)⟩
theorem Kc{K:PySem.W.Frag}{C:Int->Int->Prop}{c:Int->Int->Bool}{g:Int->Int->D}{z:Int->Int->V}(J : ∀i j,c i j=true->C i j)(O : ∀H i j,Rep K H (g i j) (z i j)):Snd K (rI C z) (dIc c g):=λH0 H x y dx S d Q s U Y I q=>by
 cases dx<;>cases S<;>simp [dIc]at I;obtain⟨e1,Z⟩:=I;subst Z;exact⟨_,_,jD U,jD Y,J _ _ e1,q _ H H0 (Ext.refl s) (O H0 _ _)⟩
theorem zap{K:PySem.W.Frag}:Snd K (rI0 λi j=> .int (i - j)) kf:=Vh λ_ _ _=>rfl
theorem Wn{i j:Int}(h:vF i j=true):CMul i j:=by
 unfold vF at h;rw [zhv,decide_eq_true_eq,decide_eq_true_eq]at h;unfold CMul;omega
theorem zau{K:PySem.W.Frag}:Snd K (rI zfU λi j=> .int (i/j)) Z5:=Kc (λi j h=>by
 unfold zds at h;rw [Bool.and_eq_true,decide_eq_true_eq,decide_eq_true_eq]at h;exact⟨h.1,by omega⟩) λ_ _ _=>rfl
theorem zat{K:PySem.W.Frag}:Snd K (rI (λ_ j=>0<j) λi j=> .int (i%j)) qa:=Kc (λi j h=>by
 unfold zd1 at h;exact of_decide_eq_true h) λ_ _ _=>rfl
theorem zaq{K:PySem.W.Frag}:Snd K (rI zfT λi j=> .int (i ^ j.toNat)) zbo:=Kc (λi j h=>by
 unfold zdr at h;rw [Bool.and_eq_true,Bool.and_eq_true,decide_eq_true_eq,decide_eq_true_eq,decide_eq_true_eq]at h;exact⟨h.1.1,by omega,h.2⟩) λ_ _ _=>rfl
theorem WE{K:PySem.W.Frag}:Snd K (rI0 λi j=> .bl (decide (i<=j))) dLe:=Vh λ_ _ _=>rfl
theorem WF{K:PySem.W.Frag}:Snd K (rI0 λi j=> .bl (decide (j<i))) dGt:=Vh λ_ _ _=>rfl
theorem WG{K:PySem.W.Frag}:Snd K (rI0 λi j=> .bl (decide (j<=i))) dGe:=Vh λ_ _ _=>rfl
section
variable{X:Cx}
def WM(K:PySem.W.Frag):R2:=λx y H Q=>∃a b xs ys,x = .ref a/\y = .ref b/\SqT K H a xs/\SqT K H b ys/\xs.length+ys.length<=sizeLine/\
 (xs=[]->Q (.ref b) H)/\(ys=[]->Q (.ref a) H)/\∀p,H p=none->Q (.ref p) (upd H p (.tup (xs++ys)))
theorem VG:OpR X (binaryOp .Add) (WM X.K):=by
 intro pins s σ H x y v u Q I rx ry h;obtain⟨a,b,xs,ys,rfl,rfl,ha,hb,S,q0,q1,q2⟩:=h;cases rx;cases ry;obtain⟨J,r,U,z1⟩:=I.tuple ha;obtain⟨aa,r2,Y,z2⟩:=I.tuple hb;by_cases O:xs=[]
 ·have e1:J=[]:=(r.nil_iff).mpr O
  obtain⟨⟨cls,dd,data,sl⟩,Z,hc,n,hd⟩:=id U;obtain⟨⟨af,ac,data2,ad⟩,a1,a2,n2,a3⟩:=id Y;simp only at hc hd a2 a3;subst hc hd a2 a3;exact zjV ⟨_,Z,rfl⟩ ⟨_,a1,rfl⟩ zjX seq_tuple_add ziY ziV (ziO _ _)
   (tuple_addW0 a b J.toArray aa.toArray n n2 dd ac sl ad (by simp [e1])) ⟨Z,a1,⟨.ref b,H,I,rfl,q0 O⟩⟩
 ·have e1:J ≠ []:=λz=>O ((r.nil_iff).mp z)
  refine HT.cat_tup U Y e1 (λz=>⟨.ref a,H,I,rfl,q1 ((r2.nil_iff).mp z)⟩) (λ_=>?_) (by rw [<- r.length,<- r2.length];exact S);refine⟨.ref s.heap.objs.size,_,I.laid (t':=s.toks) (o:= .tup (xs++ys)) (λc ob q=>zgk _ q) (zgp _) ?_,rfl,q2 _ (I.hok.fresh (zgp _))⟩;exact⟨by rw [zhq];exact S,_,r.append r2,IsTupD.new _ _⟩
def zcf(K:PySem.W.Frag):R2:=λx y H Q=>∃l b xs zs,x = .ref l/\y = .ref b/\SqL K H l xs/\SqL K H b zs/\xs.length+zs.length<=sizeLine/\∀p,H p=none->Q (.ref p) (upd H p (.lst (xs++zs)))
theorem VH:OpR X (binaryOp .Add) (zcf X.K):=by
 intro pins s σ H x y v u Q I rx ry h;obtain⟨l,b,xs,zs,rfl,rfl,hH,hB,hz,q⟩:=h;cases rx;cases ry;obtain⟨z,r,⟨o,n,e,O,S,U⟩,z1⟩:=I.list hH;obtain⟨J,r2,⟨o2,n2,Y,Z,d2,d3⟩,z2⟩:=I.list hB;have l1:=r.length;have l2:=r2.length;obtain⟨cls,dct,dt,sl⟩:=o;obtain⟨ae,af,ag,a8⟩:=o2;simp only at O S U Z d2 d3;subst O S U Z d2 d3;have a9:EP X pins σ Q (.ref s.heap.objs.size) {s with heap:=s.heap.push {cls:= .type "list",data:= .seq (z++J).toArray}}:=
  ⟨.ref _,_,I.lnew (t':=s.toks) (r.append r2) (by rw [zhq];omega),rfl,q _ I.fresh⟩
 have ea:z.toArray++J.toArray=(z++J).toArray:=by simp
 refine zjV ⟨_,e,rfl⟩ ⟨_,Y,rfl⟩ noFill_list_add seq_list_add PySem.F.slot_list_add PySem.F.entry_list_add (PySem.F.args_list_add_2 _ _)
  (list_addW l b z.toArray J.toArray n n2 none none sl a8 (by rw [zgs,zgs];omega)) ⟨e,Y,?_⟩
 rw [ea];exact a9
end
def kr(scope sc:Scope):Scope:={scope with names:=scope.names.map λp=>if p.2==NameKind.free && sc.kind == .function && sc.names.lookup p.1==some .cell then (p.1,zhV)else (p.1,p.2)}
theorem Xd(scope:Scope)(env:Env):relabel scope env=kr scope env.scope:=by
 unfold relabel kr;rfl
structure SX(X:Cx)(sc:Scope)(N T:List Str)(k:Nat):Prop where
 esc:X.env.scope=sc
 eN:X.N=N
 nd:N.Nodup
 calm:X.calm=true
 room:Room k X.A
 fn : ∀x∈T,X.fn x=true\/sc.names.lookup x=some .local
def Y6(sc:Scope)(N:List Str)(i:Nat)(x:Str):Bool:=
 decide (N[i]? = some x) && (decide (sc.names.lookup x=some .local) || decide (sc.names.lookup x=some .cell) || decide (sc.names.lookup x=some .free)) && !(x==("__debug__" : Str)) && !(x==("__classdict__" : Str))
def Q2(sc:Scope)(N T:List Str)(i:Nat)(x:Str):Bool:=decide (x∈T) && decide (N[i]? = some x) && (decide (sc.names.lookup x=some .local) || decide (sc.names.lookup x=some .cell))
def yf(sc:Scope)(x:Str):Bool:=decide (sc.names.lookup x=some .globalImplicit) && !(x==("__name__" : Str)) && !(x==("__debug__" : Str))
section
variable{X:Cx}{sc:Scope}{N T:List Str}{k:Nat}{i:Nat}{x:Str}{pos:Pos}
theorem SX.var(h:SX X sc N T k)(c:Y6 sc N i x=true):PE X (.Name x pos) (vY i):=by
 unfold Y6 at c;simp only [Bool.and_eq_true,zhv,decide_eq_true_eq,zhY]at c;obtain⟨⟨⟨h1,h2⟩,z⟩,I⟩:=c;refine zcA (by rw [h.eN];exact h1) ?_ z I;unfold Vis;rw [h.esc];rcases h2 with(h2 | h2) | h2
 ·exact .inl h2
 ·exact .inr (.inl h2)
 ·exact .inr (.inr h2)
theorem SX.loc(h:SX X sc N T k)(c:Q2 sc N T i x=true):X.N[i]? = some x/\L2.Loc X.env.scope x/\(X.fn x=true\/X.env.scope.names.lookup x=some .local):=by
 unfold Q2 at c;simp only [Bool.and_eq_true,zhv,decide_eq_true_eq]at c;refine⟨by rw [h.eN];exact c.1.2,?_,?_⟩
 ·unfold L2.Loc;rw [h.esc];exact c.2
 ·rw [h.esc];exact h.fn x c.1.1
theorem SX.ndX(h:SX X sc N T k):X.N.Nodup:=by rw [h.eN];exact h.nd
theorem SX.tgt(h:SX X sc N T k)(i:Nat)(c:Q2 sc N T i x=true):PG X (.Name x pos) (kF i):=by
 obtain⟨h1,h2,z⟩:=h.loc c;exact KD h.ndX h1 h2 z
theorem SX.tgts(h:SX X sc N T k){es:List Expr}{is:List Nat}{j:Nat}(g:PGs X es (gs is))(hn:(assignEach es X.env).length=is.length:=by rfl)(z:(assignEach es X.env).findIdx? (·.1)=none:=by rfl):PG X (.Tuple es j pos) (gOf X.K (.tp is)):=
 zcz h.calm g hn z
theorem SX.set(h:SX X sc N T k)(i:Nat){e:Expr}{te:TE}{pos':Pos}(c:Q2 sc N T i x=true)(z:PE X e te)(I:swapsWith e (some (.Name x pos')) pos.line X.env=pure false:=by rfl):PS X (.Assign [.Name x pos'] e pos) (X8 te (kF i)):=by
 obtain⟨h1,h2,J⟩:=h.loc c;exact zcu h.ndX h1 h2 z I J
theorem SX.gl(h:SX X sc N T k)(c:yf sc x=true):Gl X x/\x ≠ "__name__"/\(x==("__debug__" : Str))=false:=by
 unfold yf at c;simp only [Bool.and_eq_true,decide_eq_true_eq,zhY]at c;refine⟨?_,?_,c.2⟩
 ·show X.env.scope.names.lookup x=_
  rw [h.esc];exact c.1.1
 ·intro e;rw [e]at c;simp at c
def Yz(sc scope:Scope)(N:List Str)(fr:List (Str×Nat)):Bool:=
 decide (scope.kind = .function) && decide ((scope.names.map (·.1)).Nodup) && scope.names.all (λp=> !(p.2==NameKind.free) || decide (sc.names.lookup p.1=some .cell) || decide (sc.names.lookup p.1=some .free)) &&
 fr.all λp=>decide (scope.names.lookup p.1=some .free) && decide (N[p.2]? = some p.1)
def zfv(own:List Str)(scope:Scope)(fr:List (Str×Nat)):Bool:=decide ((own++fr.map (·.1)).Nodup) && own.all (λx=>decide (scope.names.lookup x=some .local) || decide (scope.names.lookup x=some .cell))
theorem SX.compOk(h:SX X sc N T k){scope:Scope}{fr:List (Str×Nat)}(c:Yz sc scope N fr=true):CompOk X scope fr:=by
 unfold Yz at c;simp only [Bool.and_eq_true,decide_eq_true_eq,zil,zhv,zhY]at c;obtain⟨⟨⟨J,O⟩,S⟩,I⟩:=c;refine⟨J,O,λp z U=>?_,λp z=>⟨(I p z).1,by rw [h.eN];exact(I p z).2⟩⟩;have e:X.env.kindOf p.1=sc.names.lookup p.1:=by show X.env.scope.names.lookup p.1=_;rw [h.esc]
 rw [e];rcases S p z with(q | q) | q
 ·rw [U]at q;exact absurd q ⋯
 ·exact .inl q
 ·exact .inr q
theorem y8(scope sc:Scope)(x:Str):(kr scope sc).names.lookup x=(scope.names.lookup x).map λk=>if (k==NameKind.free && sc.kind == .function && sc.names.lookup x==some .cell)then zhV else k:=by
 unfold kr;dsimp only;generalize scope.names=l
 induction l with
 | nil=>rfl
 | cons p r I=>
  obtain⟨n,J⟩:=p;rw [zgO];cases hx:x==n with
  | true=>
   have e:x=n:=by simpa using hx
   subst e;dsimp only;split
   ·rename_i z;rw [zhb,zhb,beq_self_eq_true];dsimp only [zjt];rw [if_pos z]
   ·rename_i z;rw [zhb,zhb,beq_self_eq_true];dsimp only [zjt];rw [if_neg z]
  | false=>
   dsimp only;split
   ·rw [zhb,zhb,hx];exact I
   ·rw [zhb,zhb,hx];exact I
theorem SX.comp(h:SX X sc N T k){scope:Scope}{own:List Str}{fr:List (Str×Nat)}{fp:List Addr}{s2:Shared}{H2:Hp}(c:zfv own scope fr=true) :
 SX (jg X scope (own++fr.map (·.1)) fp s2 H2) (kr scope sc) (own++fr.map (·.1)) own k:=by
 unfold zfv at c;simp only [Bool.and_eq_true,decide_eq_true_eq,zil,zhv]at c;refine⟨?_,rfl,c.1,h.calm,h.room,λx hx=>?_⟩
 ·show relabel scope X.env=_
  rw [Xd,h.esc]
 ·rcases c.2 x hx with q | q
  ·right;rw [y8,q];rfl
  ·left
   show(scope.names.lookup x==some .cell)=true;rw [q];rfl
theorem SX.cq(h:SX X sc N T k){scope:Scope}(own:List Str)(fr:List (Str×Nat))(fp:List Addr)(s2:Shared)(H2:Hp)(c:zfv own scope fr=true) :
 SX (jg X scope (own++fr.map (·.1)) fp s2 H2) (kr scope sc) (own++fr.map (·.1)) own k:=h.comp c
end
mutual
def toP:D->PyData
 | .non=> .none
 | .bl b=> .bool b
 | .int i=> .int i
 | .str x=> .str x
 | .tup ds=> .tuple (toPs ds)
 | .lst ds=> .list (toPs ds)
 | .exc _ _=> .none
 | .dic _ _=> .none
 | .dct _ _=> .none
def toPs:List D->List PyData
 | []=>[]
 | d::ds=>toP d::toPs ds
end
theorem okS_exc{c:Str}{n:Option Int}(h:okS (.exc c n)=true):False:=by simp [okS]at h
theorem okS_dic{ks vs:List D}(h:okS (.dic ks vs)=true):False:=by simp [okS]at h
theorem okS_dct{ks:List (List Int)}{vs:List D}(h:okS (.dct ks vs)=true):False:=by simp [okS]at h
mutual
theorem eqv_toP : ∀x y:D,okS x=true->okS y=true->PyData.eqv (toP x) (toP y)=eqD x y
 | .non,y,_,h=>by cases y<;>first | exact(okS_exc h).elim | exact(okS_dic h).elim | exact(okS_dct h).elim | simp [toP,PyData.eqv,eqD]
 | .bl a,y,_,h=>by cases y<;>first | exact(okS_exc h).elim | exact(okS_dic h).elim | exact(okS_dct h).elim | simp [toP,PyData.eqv,eqD]
 | .int a,y,_,h=>by cases y<;>first | exact(okS_exc h).elim | exact(okS_dic h).elim | exact(okS_dct h).elim | simp [toP,PyData.eqv,eqD]
 | .str a,y,_,h=>by cases y<;>first | exact(okS_exc h).elim | exact(okS_dic h).elim | exact(okS_dct h).elim | simp [toP,PyData.eqv,eqD]
 | .exc c n,y,h,_=>(okS_exc h).elim
 | .dic c n,y,h,_=>(okS_dic h).elim
 | .dct c n,y,h,_=>(okS_dct h).elim
 | .tup xs,y,h1,h2=>by
  cases y with
  | tup ys=>simp only [okS]at h1 h2;simp only [toP,PyData.eqv,eqD];exact eqvs_toP xs ys h1 h2
  | exc c n=>exact(okS_exc h2).elim
  | dic c n=>exact(okS_dic h2).elim
  | dct c n=>exact(okS_dct h2).elim
  | _=>simp [toP,PyData.eqv,eqD]
 | .lst xs,y,h1,h2=>by
  cases y with
  | lst ys=>simp only [okS]at h1 h2;simp only [toP,PyData.eqv,eqD];exact eqvs_toP xs ys h1 h2
  | exc c n=>exact(okS_exc h2).elim
  | dic c n=>exact(okS_dic h2).elim
  | dct c n=>exact(okS_dct h2).elim
  | _=>simp [toP,PyData.eqv,eqD]
theorem eqvs_toP : ∀xs ys:List D,okSs xs=true->okSs ys=true->PyData.eqvAll (toPs xs) (toPs ys)=eqDs xs ys
 | [],ys,_,_=>by cases ys<;>simp [toPs,PyData.eqvAll,eqDs]
 | x::xs,ys,h1,h2=>by
  cases ys with
  | nil=>simp [toPs,PyData.eqvAll,eqDs]
  | cons y ys=>
   simp only [okSs,Bool.and_eq_true]at h1 h2;simp only [toPs,PyData.eqvAll,eqDs];rw [eqv_toP x y h1.1 h2.1,eqvs_toP xs ys h1.2 h2.2]
end
mutual
theorem lay_toP : ∀x:D,okS x=true->(toP x).canLay0=true
 | .non,_=>by simp [toP,PyData.canLay0]
 | .bl a,_=>by simp [toP,PyData.canLay0]
 | .int a,_=>by simp [toP,PyData.canLay0]
 | .str a,h=>by simpa [toP,PyData.canLay0,okS,PyData.strOk]using h
 | .tup xs,h=>by simp only [okS]at h;simp only [toP,PyData.canLay0];exact lays_toP xs h
 | .lst xs,h=>by simp only [okS]at h;simp only [toP,PyData.canLay0];exact lays_toP xs h
 | .exc c n,h=>(okS_exc h).elim
 | .dic c n,h=>(okS_dic h).elim
 | .dct c n,h=>(okS_dct h).elim
theorem lays_toP : ∀xs:List D,okSs xs=true->PyData.canLayAll0 (toPs xs)=true
 | [],_=>by simp [toPs,PyData.canLayAll0]
 | x::xs,h=>by
  simp only [okSs,Bool.and_eq_true]at h;simp only [toPs,PyData.canLayAll0];rw [lay_toP x h.1,lays_toP xs h.2];rfl
end
mutual
theorem depth_toP : ∀x:D,(toP x).depth=deep x
 | .non=>by simp [toP,PyData.depth,deep]
 | .bl a=>by simp [toP,PyData.depth,deep]
 | .int a=>by simp [toP,PyData.depth,deep]
 | .str a=>by simp [toP,PyData.depth,deep]
 | .exc c n=>by simp [toP,PyData.depth,deep]
 | .dic c n=>by simp [toP,PyData.depth,deep]
 | .dct c n=>by simp [toP,PyData.depth,deep]
 | .tup xs=>by simp only [toP,PyData.depth,deep];rw [depths_toP xs]
 | .lst xs=>by simp only [toP,PyData.depth,deep];rw [depths_toP xs]
theorem depths_toP : ∀xs:List D,PyData.depthAll (toPs xs)=deeps xs
 | []=>by simp [toPs,PyData.depthAll,deeps]
 | x::xs=>by simp only [toPs,PyData.depthAll,deeps];rw [depth_toP x,depths_toP xs]
end
theorem xq{d:D}(h:okD d=true):okS d=true:=by
 unfold okD at h;rw [Bool.and_eq_true]at h;exact h.2
theorem km{d:D}(h:okD d=true):SeqAt.shaped (toP d)=true:=by
 unfold okD at h;rw [Bool.and_eq_true,decide_eq_true_eq]at h;unfold SeqAt.shaped;rw [lay_toP d h.2,Bool.true_and,depth_toP];exact decide_eq_true ⋯
section
variable{X:Cx}{pins:List (Addr×Obj)}{σ:St}{H0 H:Hp}{s:Shared}
mutual
theorem reads_of(I:Inv X pins σ H s)(sub:Same H0 H) : ∀{d:D} {v:V} {u:Value},okS d=true->Rep X.K H0 d v->RelV v u->∃z,Reads s.heap u (toP d) z
 | .non,v,u,_,h,r=>by cases (show v = .non from h);cases r;exact⟨_,.none⟩
 | .bl b,v,u,_,h,r=>by cases (show v = .bl b from h);cases r;exact⟨_,.bool b⟩
 | .int i,v,u,_,h,r=>by cases (show v = .int i from h);obtain⟨t,rfl⟩:=r;exact⟨_,.int i t⟩
 | .str x,v,u,_,h,r=>by cases (show v = .str x from h);obtain⟨t,rfl⟩:=r;exact⟨_,.str x t⟩
 | .exc c n,v,u,o,_,_=>(okS_exc o).elim
 | .dic c n,v,u,o,_,_=>(okS_dic o).elim
 | .dct c n,v,u,o,_,_=>(okS_dct o).elim
 | .tup ds,v,u,o,h,r=>by
  obtain⟨a,xs,rfl,h1,h2⟩:=(show ∃a xs,v = .ref a/\SqT X.K H0 a xs/\Reps X.K H0 ds xs from h);cases r;simp only [okS]at o;obtain⟨Y,J,⟨Z,O,S,n,hd⟩,hz⟩:=I.tuple (sameT sub h1);obtain⟨z,U⟩:=readsAll_of I sub o h2 J;exact⟨z,.tuple O S hd (by simpa using U)⟩
 | .lst ds,v,u,o,h,r=>by
  obtain⟨a,xs,rfl,h1,h2⟩:=(show ∃a xs,v = .ref a/\SqL X.K H0 a xs/\Reps X.K H0 ds xs from h);cases r;simp only [okS]at o;obtain⟨Y,J,p,hz⟩:=I.list (sub.seq h1);obtain⟨Z,O,S,n,hd⟩:=p.isList;obtain⟨z,U⟩:=readsAll_of I sub o h2 J;exact⟨_,.list O S hd (by simpa using U)⟩
theorem readsAll_of(I:Inv X pins σ H s)(sub:Same H0 H) : ∀{ds:List D} {xs:List V} {us:List Value},okSs ds=true->Reps X.K H0 ds xs->Vals xs us->∃z,ReadsAll s.heap us (toPs ds) z
 | [],xs,us,_,h,r=>by rw [h.inv_nil]at r;cases r;exact⟨_,.nil⟩
 | d::ds,xs,us,o,h,r=>by
  obtain⟨x,t,e,h1,h2⟩:=h.inv_cons;subst e;simp only [okSs,Bool.and_eq_true]at o;cases r with
  | cons J r2=>
   obtain⟨z,O⟩:=reads_of I sub o.1 h1 J;obtain⟨bs,S⟩:=readsAll_of I sub o.2 h2 r2;exact⟨_,.cons O S⟩
end
end
def zfy(K:PySem.W.Frag):R2:=λx y H Q=>∃H0 dx z,Same H0 H/\Rep K H0 dx x/\Rep K H0 z y/\okD dx=true/\okD z=true/\Q (.bl (eqD dx z)) H
def zfx(K:PySem.W.Frag):R2:=λx y H Q=>∃H0 dx z,Same H0 H/\Rep K H0 dx x/\Rep K H0 z y/\okD dx=true/\okD z=true/\Q (.bl (!eqD dx z)) H
theorem WW{X:Cx}(O:X.A.units+64<cLine):OpR X (compareOp .Eq) (zfy X.K):=by
 intro pins s σ H x y v u Q I S U h;obtain⟨H0,dx,dy,sub,Y,r2,z,J,q⟩:=h;obtain⟨as,Z⟩:=reads_of I sub (xq z) Y S;obtain⟨bs,rb⟩:=reads_of I sub (xq J) r2 U;exact eq_dataH Z rb (km z) (km J) O ⟨.bl _,H,I,by rw [eqv_toP _ _ (xq z) (xq J)];rfl,q⟩
theorem zcO{X:Cx}(O:X.A.units+64<cLine):OpR X (compareOp .NotEq) (zfx X.K):=by
 intro pins s σ H x y v u Q I S U h;obtain⟨H0,dx,dy,sub,Y,r2,z,J,q⟩:=h;obtain⟨as,Z⟩:=reads_of I sub (xq z) Y S;obtain⟨bs,rb⟩:=reads_of I sub (xq J) r2 U;exact ne_dataH Z rb (km z) (km J) O ⟨.bl _,H,I,by rw [eqv_toP _ _ (xq z) (xq J)];rfl,q⟩
theorem Kd{K:PySem.W.Frag}:Snd K (zfy K) dEq:=λH0 H x y dx I d Q s J O z q=>by
 unfold dEq at z;split at z
 ·rename_i h;cases z;exact⟨H0,dx,I,s,J,O,h.1,h.2,q _ H H0 (Ext.refl s) rfl⟩
 ·cases z
theorem zar{K:PySem.W.Frag}:Snd K (zfx K) dNe:=λH0 H x y dx I d Q s J O z q=>by
 unfold dNe at z;split at z
 ·rename_i h;cases z;exact⟨H0,dx,I,s,J,O,h.1,h.2,q _ H H0 (Ext.refl s) rfl⟩
 ·cases z
theorem SX.u64{X:Cx}{sc:Scope}{N T:List Str}{k:Nat}(h:SX X sc N T k):X.A.units+64<cLine:=by have:=h.room.un;omega
section
variable{X:Cx}{sc:Scope}{N T:List Str}{k:Nat}{a b c:Expr}{pos p:Pos}{fa fb fc:CO D}
theorem xh(ha:PV X a fa)(z:PV X b fb):PV X (.BinOp a .Sub b pos) (zm kf fa fb):=v6 zcM zap ha z
theorem yQ(ha:PV X a fa)(z:PV X b fb):PV X (.BinOp a .FloorDiv b pos) (zm Z5 fa fb):=v6 zaZ zau ha z
theorem jU(ha:PV X a fa)(z:PV X b fb):PV X (.BinOp a .Mod b pos) (zm qa fa fb):=v6 zcP zat ha z
theorem Kr(ha:PV X a fa)(z:PV X b fb):PV X (.BinOp a .Pow b pos) (zm zbo fa fb):=v6 zcN zaq ha z
theorem zev(ha:PV X a fa)(z:PV X b fb):PV X (.Compare a [.LtE] [b] pos) (zm dLe fa fb):=Qk zcQ WE ha z (kx b)
theorem zew(ha:PV X a fa)(z:PV X b fb):PV X (.Compare a [.Gt] [b] pos) (zm dGt fa fb):=Qk zcR WF ha z (kx b)
theorem zex(ha:PV X a fa)(z:PV X b fb):PV X (.Compare a [.GtE] [b] pos) (zm dGe fa fb):=Qk zcS WG ha z (kx b)
theorem zey(h:SX X sc N T k)(ha:PV X a fa)(z:PV X b fb):PV X (.Compare a [.Eq] [b] pos) (zm dEq fa fb):=Qk (WW h.u64) Kd ha z (kx b)
theorem zcp(ha:PV X a fa)(z:PV X b fb):PTD X (.Compare a [.LtE] [b] pos) (sB (zm dLe fa fb)):=yR zcQ WE ha z (kx b)
theorem ZJ(ha:PV X a fa)(z:PV X b fb):PTD X (.Compare a [.Gt] [b] pos) (sB (zm dGt fa fb)):=yR zcR WF ha z (kx b)
theorem zcq(ha:PV X a fa)(z:PV X b fb):PTD X (.Compare a [.GtE] [b] pos) (sB (zm dGe fa fb)):=yR zcS WG ha z (kx b)
theorem v7(h:SX X sc N T k)(ha:PV X a fa)(z:PV X b fb):PTD X (.Compare a [.Eq] [b] pos) (sB (zm dEq fa fb)):=yR (WW h.u64) Kd ha z (kx b)
theorem ZI(h:SX X sc N T k)(ha:PV X a fa)(z:PV X b fb):PTD X (.Compare a [.NotEq] [b] pos) (sB (zm dNe fa fb)):=yR (zcO h.u64) zar ha z (kx b)
theorem xk{K:PySem.W.Frag}{H:Hp}{ds:List D}{v:V}(h:Rep K H (.tup ds) v) : ∃a xs,v = .ref a/\SqT K H a xs/\Reps K H ds xs:=h
theorem za5{K:PySem.W.Frag}{H:Hp}{ds:List D}{v:V}(h:Rep K H (.lst ds) v) : ∃a xs,v = .ref a/\SqL K H a xs/\Reps K H ds xs:=h
theorem j7{K:PySem.W.Frag}{H:Hp}{ds:List D}{a:Addr}{xs:List V}(h1:SqT K H a xs)(h2:Reps K H ds xs):Rep K H (.tup ds) (.ref a):=⟨a,xs,rfl,h1,h2⟩
theorem Ju{K:PySem.W.Frag}{H:Hp}{ds:List D}{a:Addr}{xs:List V}(h1:SqL K H a xs)(h2:Reps K H ds xs):Rep K H (.lst ds) (.ref a):=⟨a,xs,rfl,h1,h2⟩
theorem zav{K:PySem.W.Frag}:Snd K (λx y H Q=>rI0 (λi j=> .int (i+j)) x y H Q\/WM K x y H Q) jo:=λH0 H x y dx Z d Q s O S I q=>by
 cases dx<;>cases Z<;>simp [jo]at I
 ·subst I;exact .inl ⟨_,_,jD O,jD S,q _ H H0 (Ext.refl s) rfl⟩
 ·rename_i ds es
  obtain⟨hl,rfl⟩:=I;obtain⟨a,xs,rfl,h1,h2⟩:=xk O;obtain⟨b,ys,rfl,U,z⟩:=xk S;refine .inr ⟨a,b,xs,ys,rfl,rfl,sameT s h1,sameT s U,ke (by rw [h2.length,z.length];exact hl),λe=>?_,λe=>?_,λp Y=>?_⟩
  ·have J:ds=[]:=by
    have:=h2.length;rw [e]at this;exact zgX this.symm
   subst J;exact q _ H H0 (Ext.refl s) (j7 U z)
  ·have J:es=[]:=by
    have:=z.length;rw [e]at this;exact zgX this.symm
   subst J;exact q _ H H0 (Ext.refl s) (by rw [zjb];exact j7 h1 h2)
  ·exact q _ _ _ (Ext.alloc s Y _) (j7 (SqT.of zH) ((h2.append z).mono (z5 (jp s Y) _)))
theorem jm(ha:PV X a fa)(z:PV X b fb):PV X (.BinOp a .Add b pos) (zm jo fa fb):=v6 (op_add.or VG) zav ha z
end
theorem wz{P:Program}{w:World}{A:Around}(J:A.handled=none)(k:Sk)(I z:Addr)(O:z≠I)(items:Array Value) :
 Walks P w A I [I,z] [I] items.size (λi v=>items[i]? = some v) (λi h=>ItAt k h I z i/\SqAt k h z items):=by
 cases k
 ·exact Walks.list J I z O items
 ·exact Walks.tuple J I z O items
theorem yT(zs:List Int) : ∀n,preSum (λi=>zs.getD i 0) n=(zs.take n).sum
 | 0=>by simp [preSum]
 | n+1=>by
  have z:=yT zs n;simp only [preSum,z];by_cases h:n<zs.length
  ·rw [List.take_succ_eq_append_getElem h,List.sum_append]
   simp [h]
  ·rw [zhR ⋯,zhR ⋯]
   simp [h]
section
variable{X:Cx}{pins:List (Addr×Obj)}{σ:St}{H:Hp}{s:Shared}
theorem YE(Z:X.calm=true):vD X (.builtin "sum") (λxs H Q=>∃p k ys zs,xs=[.ref p]/\SqK k X.K H p ys/\ys=(zs:List Int).map V.int/\Q (.int zs.sum) H):=by
 intro pins s σ H vs us Q I rv h;obtain⟨p,k,ys,zs,rfl,hq,rfl,q⟩:=h;obtain⟨u,rfl,J⟩:=ym rv;cases J;obtain⟨z,r,O,hz⟩:=I.sq hq;have lt:=O.lt;have S:=r.length;rw [zgH]at S;refine call_sum_walkG (ZV O ⟨_,[_,p],[_],z.toArray.size,_,_,λi=>zs.getD i 0,rfl,wz (A:=X.A.in1) (I.ok.hd Z) k _ p (zgU lt) z.toArray,⟨wj k _ p,O.at λo e=>zgk _ e⟩,?_,?_,?_⟩)
 ·intro b U
  rw [zgW];simp only [zgz,zgP,or_false]at U;rcases U with rfl | rfl
  ·exact zhx _
  ·exact zhm lt
 ·intro i v hv
  have Y:z[i]? = some v:=by simpa using hv
  have hi:i<zs.length:=by rw [S];exact(zgw.mp Y).1
  obtain⟨u,e1,J⟩:=r.get (i:=i) (x:= .int zs[i]) (by simp [hi]);rw [Y]at e1;cases e1;obtain⟨t,rfl⟩:=J;exact⟨t,by simp [hi]⟩
 ·intro h' tk t' hk
  have e:preSum (λi=>zs.getD i 0) z.toArray.size=zs.sum:=by
   rw [yT,zhR (by rw [zgs,S];exact zgp _)]
  refine⟨.int zs.sum,H,I.kept (t':=tk) (λb u e=>hk b u ?_ (zgk _ e)),⟨t',by rw [e]⟩,q⟩;simp only [zgz,zgP,or_false];exact zgU (zgy e)
def zbY:V->Option Bool
 | .non=>some false
 | .bl b=>some b
 | .int i=>some (i != 0)
 | _=>none
theorem J9{P:Program}{w:World}{A:Around}{E:Value->Shared->Prop}{s:Shared}{Q:Bool->Shared->Prop}{x:V}{u:Value}{b:Bool}(r:RelV x u)(e:zbY x=some b)(q:Q b s):wpAny (model P w) A (truthy u) Q E s:=by
 cases x with
 | non=>cases r;cases e;exact λ_ _ _=>q
 | bl c=>cases r;cases e;exact zh4 q
 | int i=>obtain⟨t,rfl⟩:=r;cases e;exact PyProof.Rows.truthy_int q
 | _=>cases e
def Q1:List V->Option (List Bool)
 | []=>some []
 | x::r=>(zbY x).bind λb=>(Q1 r).map λl=>b::l
theorem yJ : ∀{xs:List V} {bs:List Bool},Q1 xs=some bs->bs.length=xs.length/\∀(i:Nat) x,xs[i]? = some x->zbY x=some (bs.getD i false)
 | [],bs,h=>by cases h;exact⟨rfl,λi x e=>by simp at e⟩
 | y::xs,bs,h=>by
  obtain⟨b,e1,h⟩:=bind_some h;obtain⟨l,z,h⟩:=zE h;subst h;obtain⟨h1,h2⟩:=yJ z;refine⟨by simp [h1],λi x e=>?_⟩;cases i with
  | zero=>simp at e;subst e;simpa using e1
  | succ i=>simpa using h2 i x (by simpa using e)
theorem YU(bs:List Bool):(zgj bs.length).all (λi=>bs.getD i false)=bs.all id:=by
 rw [zhZ];simp only [zil,zgl,id_eq];constructor
 ·intro h b z
  obtain⟨i,hi,e⟩:=List.mem_iff_getElem.mp z;have:=h i hi;rw [zgr,zgn hi]at this;rw [<- e];exact this
 ·intro h i hi
  rw [zgr,zgn hi];exact h _ (zh6 hi)
theorem YT(bs:List Bool):(zgj bs.length).any (λi=>bs.getD i false)=bs.any id:=by
 rw [zhZ];simp only [List.any_eq_true,zgl,id_eq];constructor
 ·rintro⟨i,hi,h⟩
  rw [zgr,zgn hi]at h;exact⟨_,zh6 hi,h⟩
 ·rintro⟨b,z,h⟩
  obtain⟨i,hi,e⟩:=List.mem_iff_getElem.mp z;refine⟨i,hi,?_⟩;rw [zgr,zgn hi,zjB,e];exact h
theorem YI(Y:X.calm=true):vD X (.builtin "all") (λxs H Q=>∃p k ys bs,xs=[.ref p]/\SqK k X.K H p ys/\Q1 ys=some bs/\Q (.bl (bs.all id)) H):=by
 intro pins s σ H vs us Q I Z h;obtain⟨p,k,ys,bs,rfl,hq,ht,q⟩:=h;obtain⟨u,rfl,J⟩:=ym Z;cases J;obtain⟨z,r,O,hz⟩:=I.sq hq;have lt:=O.lt;have S:=r.length;obtain⟨a2,a3⟩:=yJ ht;refine call_all_walk (ZV O ⟨_,[_,p],[_],z.toArray.size,_,_,λi=>bs.getD i false,rfl,wz (A:=X.A.in1) (I.ok.hd Y) k _ p (zgU lt) z.toArray,⟨wj k _ p,O.at λo e=>zgk _ e⟩,?_,?_⟩)
 ·intro i v s' Q' E' hv hQ
  have U:z[i]? = some v:=by simpa using hv
  have hi:i<ys.length:=by rw [S];exact(zgw.mp U).1
  obtain⟨u,e1,J⟩:=r.get (i:=i) (x:=ys[i]) (by simp [hi]);rw [U]at e1;cases e1;exact J9 J (a3 i ys[i] (by simp [hi])) hQ
 ·intro h' tk hk
  have e:(zgj z.toArray.size).all (λi=>bs.getD i false)=bs.all id:=by
   rw [zgs,<- S,<- a2];exact YU bs
  refine⟨.bl (bs.all id),H,I.kept (t':=tk) (λb u e=>hk b u ?_ (zgk _ e)),by rw [e];rfl,q⟩;simp only [zgz,zgP,or_false];exact zgU (zgy e)
theorem YH(Y:X.calm=true):vD X (.builtin "any") (λxs H Q=>∃p k ys bs,xs=[.ref p]/\SqK k X.K H p ys/\Q1 ys=some bs/\Q (.bl (bs.any id)) H):=by
 intro pins s σ H vs us Q I Z h;obtain⟨p,k,ys,bs,rfl,hq,ht,q⟩:=h;obtain⟨u,rfl,J⟩:=ym Z;cases J;obtain⟨z,r,O,hz⟩:=I.sq hq;have lt:=O.lt;have S:=r.length;obtain⟨a2,a3⟩:=yJ ht;refine call_any_walk (ZV O ⟨_,[_,p],[_],z.toArray.size,_,_,λi=>bs.getD i false,rfl,wz (A:=X.A.in1) (I.ok.hd Y) k _ p (zgU lt) z.toArray,⟨wj k _ p,O.at λo e=>zgk _ e⟩,?_,?_⟩)
 ·intro i v s' Q' E' hv hQ
  have U:z[i]? = some v:=by simpa using hv
  have hi:i<ys.length:=by rw [S];exact(zgw.mp U).1
  obtain⟨u,e1,J⟩:=r.get (i:=i) (x:=ys[i]) (by simp [hi]);rw [U]at e1;cases e1;exact J9 J (a3 i ys[i] (by simp [hi])) hQ
 ·intro h' tk hk
  have e:(zgj z.toArray.size).any (λi=>bs.getD i false)=bs.any id:=by
   rw [zgs,<- S,<- a2];exact YT bs
  refine⟨.bl (bs.any id),H,I.kept (t':=tk) (λb u e=>hk b u ?_ (zgk _ e)),by rw [e];rfl,q⟩;simp only [zgz,zgP,or_false];exact zgU (zgy e)
end
section
variable{X:Cx}{sc:Scope}{N T:List Str}{k:Nat}{e a b c:Expr}{pos p p2:Pos}{f g:CO D}{fq:CO (Sk×List D)}
theorem zb4{K:PySem.W.Frag}{H:Hp}{k:Sk}{a:Addr}{xs:List V}(h:SqK k K H a xs):SqL K H a xs\/SqT K H a xs:=by
 cases k
 ·exact .inl h
 ·exact .inr h
theorem xo(h:SX X sc N T k)(c:yf sc "len" = true)(z:X.mg "len" = none)(J:PQ X e fq)(I:starEach [e] X.env=[(false,eval e X.env)]:=by rfl):PV X (.Call (.Name "len" p) [e] [] pos) (xV fq):=
 jQ (xL Z8 (h.gl c).1 z PySem.boot_len (zT J jF I) ⋯ ⋯ I rfl) λσ H Q O=>by
  obtain⟨H0,γ,d,rc,S,q⟩:=O;obtain⟨⟨kk,ds⟩,e1,U⟩:=zE S;subst U;refine⟨H0,γ,kk,ds,rc,e1,λa xs H' H0' ext h1 h2 r=>⟨a,xs,rfl,zb4 h1,?_⟩⟩;exact q _ H' H0' ext (show V.int xs.length = .int ds.length by rw [r.length])
theorem jY(h:SX X sc N T k)(c:yf sc "tuple" = true)(z:X.mg "tuple" = none)(O:PQ X e fq)(I:starEach [e] X.env=[(false,eval e X.env)]:=by rfl):PV X (.Call (.Name "tuple" p) [e] [] pos) (zM fq):=
 jQ (yV Zg (h.gl c).1 z PyProof.Rows.boot_tuple (zT O jF I) ⋯ ⋯ I rfl) λσ H Q S=>by
  obtain⟨H0,γ,d,rc,U,q⟩:=S;obtain⟨⟨kk,ds⟩,e1,Y⟩:=zE U;subst Y;refine⟨H0,γ,kk,ds,rc,e1,λa xs H' H0' ext h1 h2 r=>⟨a,xs,rfl,?_⟩⟩;cases kk with
  | L=>exact .inl ⟨h1,λl J=>q _ _ _ (ext.trans (Ext.alloc ext.sub J _)) (j7 (SqT.of zH) (r.mono (z5 (jp ext.sub J) _)))⟩
  | T=>exact .inr ⟨h1,q _ H' H0' ext (j7 (h2 rfl) r)⟩
theorem kv{H H':Hp}(s:Same H H'){a:Addr}(h:H' a=none):H a=none:=by
 cases z:H a with
 | none=>rfl
 | some o=>rw [s a o z]at h;cases h
theorem zaP(h:SX X sc N T k)(c:yf sc "list" = true)(z:X.mg "list" = none)(O:PQ X e fq)(J:starEach [e] X.env=[(false,eval e X.env)]:=by rfl):PO X (.Call (.Name "list" p) [e] [] pos) (x9 fq):=
 jQ (yV Z6 (h.gl c).1 z PyProof.Rows.boot_list (zT O jF J) ⋯ ⋯ J rfl) λσ H Q S=>by
  obtain⟨H0,γ,d,rc,U,q⟩:=S;obtain⟨⟨kk,ds⟩,e1,Y⟩:=zE U;subst Y;refine⟨H0,γ,kk,ds,rc,e1,λa xs H' H0' ext h1 h2 r=>⟨a,xs,rfl,zb4 h1,λl I=>?_⟩⟩;exact q l xs _ H0' (ext.trans (Ext.hide ext.sub I _)) (kv ext.s1 I) (jp ext.sub I) zH r
theorem Zu : ∀{ds:List D} {n:Int},XS ds=some n->∃zs:List Int,ds=zs.map D.int/\n=zs.sum
 | [],n,h=>by cases h;exact⟨[],rfl,rfl⟩
 | d::ds,n,h=>by
  cases d with
  | int i=>
   obtain⟨s,e,h⟩:=zE h;obtain⟨zs,rfl,rfl⟩:=Zu e;exact⟨i::zs,rfl,by rw [<- h];simp⟩
  | _=>cases h
theorem ZF{K:PySem.W.Frag}{H:Hp} : ∀{zs:List Int} {xs:List V},Reps K H (zs.map D.int) xs->xs=zs.map V.int
 | [],xs,h=>h.inv_nil
 | z::zs,xs,h=>by
  obtain⟨x,r,e,h1,h2⟩:=Reps.inv_cons h;rw [e,jD h1,ZF h2];rfl
theorem WN(h:SX X sc N T k)(c:yf sc "sum" = true)(z:X.mg "sum" = none)(S:PQ X e fq)(O:starEach [e] X.env=[(false,eval e X.env)]:=by rfl):PV X (.Call (.Name "sum" p) [e] [] pos) (zay fq):=
 jQ (xL (YE h.calm) (h.gl c).1 z PyProof.Rows.boot_sum (zT S jF O) ⋯ ⋯ O rfl) λσ H Q U=>by
  obtain⟨H0,γ,d,rc,I,q⟩:=U;obtain⟨⟨kk,ds⟩,e1,I⟩:=bind_some I;obtain⟨n,Y,Z⟩:=zE I;subst Z;obtain⟨zs,J,rfl⟩:=Zu Y;have J:ds=zs.map D.int:=J;subst J;exact⟨H0,γ,kk,_,rc,e1,λa xs H' H0' ext h1 h2 r=>⟨a,kk,xs,zs,rfl,h1,ZF r,q _ H' H0' ext rfl⟩⟩
theorem zai{K:PySem.W.Frag}{H:Hp}{d:D}{x:V}{b:Bool}(h:Rep K H d x)(e:zdF d=some b):zbY x=some b:=by
 cases d with
 | non=>cases (show x = .non from h);exact e
 | bl c=>cases (show x = .bl c from h);exact e
 | int i=>cases (show x = .int i from h);exact e
 | _=>cases e
theorem wE{K:PySem.W.Frag}{H:Hp} : ∀{ds:List D} {xs:List V} {bs:List Bool},Reps K H ds xs->kY ds=some bs->Q1 xs=some bs
 | [],xs,bs,h,e=>by rw [h.inv_nil];exact e
 | d::ds,xs,bs,h,e=>by
  obtain⟨x,r,z,h1,h2⟩:=h.inv_cons;obtain⟨b,e1,e⟩:=bind_some e;obtain⟨l,I,e⟩:=zE e;subst z e;show(zbY x).bind _=_;rw [zai h1 e1];show((Q1 r).map λl=>b::l)=_;rw [wE h2 I];rfl
theorem zco(h:SX X sc N T k)(c:yf sc "all" = true)(z:X.mg "all" = none)(O:PQ X e fq)(J:starEach [e] X.env=[(false,eval e X.env)]:=by rfl):PV X (.Call (.Name "all" p) [e] [] pos) (zaC fq):=
 jQ (xL (YI h.calm) (h.gl c).1 z PyProof.Rows.boot_all (zT O jF J) ⋯ ⋯ J rfl) λσ H Q S=>by
  obtain⟨H0,γ,d,rc,I,q⟩:=S;obtain⟨⟨kk,ds⟩,e1,I⟩:=bind_some I;obtain⟨bs,U,Y⟩:=zE I;subst Y;exact⟨H0,γ,kk,_,rc,e1,λa xs H' H0' ext h1 h2 r=>⟨a,kk,xs,bs,rfl,h1,wE r U,q _ H' H0' ext rfl⟩⟩
theorem zcn(h:SX X sc N T k)(c:yf sc "any" = true)(z:X.mg "any" = none)(O:PQ X e fq)(J:starEach [e] X.env=[(false,eval e X.env)]:=by rfl):PV X (.Call (.Name "any" p) [e] [] pos) (WJ fq):=
 jQ (xL (YH h.calm) (h.gl c).1 z PyProof.Rows.boot_any (zT O jF J) ⋯ ⋯ J rfl) λσ H Q S=>by
  obtain⟨H0,γ,d,rc,I,q⟩:=S;obtain⟨⟨kk,ds⟩,e1,I⟩:=bind_some I;obtain⟨bs,U,Y⟩:=zE I;subst Y;exact⟨H0,γ,kk,_,rc,e1,λa xs H' H0' ext h1 h2 r=>⟨a,kk,xs,bs,rfl,h1,wE r U,q _ H' H0' ext rfl⟩⟩
theorem zaI(h:SX X sc N T k)(c:yf sc "int" = true)(z:X.mg "int" = none)(S:PV X e f)(J:starEach [e] X.env=[(false,eval e X.env)]:=by rfl):PV X (.Call (.Name "int" p) [e] [] pos) (Kk f):=
 jQ (yV YG (h.gl c).1 z PyProof.Rows.boot_int (zT S jF J) ⋯ ⋯ J rfl) λσ H Q U=>by
  obtain⟨H0,γ,d,rc,I,q⟩:=U;obtain⟨O,e1,I⟩:=bind_some I;refine⟨H0,γ,O,rc,e1,λv H' H0' ext r=>?_⟩;cases O with
  | int i=>cases I;exact .inl ⟨i,by rw [jD r],q _ H' H0' ext rfl⟩
  | bl b=>cases I;exact .inr ⟨b,by rw [show v = .bl b from r],q _ H' H0' ext rfl⟩
  | _=>cases I
end
end DL
namespace DL
open PySem PySem.Spec PySem.Calls PyProof.Rows PySem.W PySem.Builtin PySem.Builtin.ObjectAttr PySem.Builtin.Getset_descriptor
section
variable{prog:Program}{w:World}{A:Around}{E:Value->Shared->Prop}{s:Shared}{K:Frag}{x C:Addr}
theorem yx{M:Model}{h:Heap}{a C:Addr}(x:XObj h a C):Looks M h (typeOf (.ref a)) (.ref C):=by
 obtain⟨o,vs,z,I,hd⟩:=x;exact I ▸ (Looks.ld z).andThen .now
structure XGet(K:Frag)(C:Addr):Prop where
 ga:findIn K (.ref C) "__getattribute__" = some (some (.builtin "BaseException.__getattribute__"))
 gn:findIn K (.ref C) "__getattr__" = some none
 ca:findIn K (.ref C) "__class__" = some (some (.builtin "object.__class__"))
 gt:specialIn K (.builtin "object.__class__") "__get__" = some (some (.builtin "getset_descriptor.__get__"))
 tk:takesIn K (.builtin "object.__class__")=some true
 mo:mroIn K C (.type "object")=some true
 mb:mroIn K C (.type "BaseException")=some true
theorem V8{M:Model}{h:Heap}(X:K.In h)(G:XGet K C):Looks M h (find (.ref x) (.ref C) "__class__") (.bind (.builtin "getset_descriptor.__get__") (.builtin "object.__class__")):=by
 have z:=looks_findIn (M:=M) X G.ca;have I:Looks M h (getOf (some (.builtin "object.__class__"))) (some (.builtin "getset_descriptor.__get__")):=looks_specialIn X G.gt;have J:=looks_takesIn (M:=M) X G.tk;have O:Looks M h (dataDescriptor? (some (.builtin "object.__class__")) (some (.builtin "getset_descriptor.__get__"))) (some (.builtin "getset_descriptor.__get__",.builtin "object.__class__")):=J.andThen .now;exact z.andThen (I.andThen (O.andThen (Looks.tag .now)))
theorem V9{tp:Value}{R:Result->Shared->Prop}(X:K.In s.heap)(I:XObj s.heap x C)(G:XGet K C)(h:R (.ok (.ret (.ref C))) s) :
 codeAny (model prog w) A (.call (.builtin "getset_descriptor.__get__") ⟨[.builtin "object.__class__",.ref x,tp],[]⟩) R s:=by
 obtain⟨z,g0,J,O,S⟩:=s;have U:=yx (M:=model prog w) I;have Y:=looks_mroIn (M:=model prog w) X G.mo;refine zjw KF.slot_gs.plain KF.entry_gs (KF.slot_gs.check _ _ _ _ _ _ _ _ KF.type_class (KF.args_gs _ _ _) ?_);unfold Builtin.«getset_descriptor.__get__» descrGet;rw [dga_obj];refine zgi (zgo ?_);unfold descrGetter descrCheckInstance descrNameAndClass isInstance;simp only [KF.owner_class]
 repeat lk
 refine And.intro (Code.quiet_builtin _ ⋯) (codeAny_builtin KF.entry_class ?_);unfold Builtin.«object.__class__» shownTypeOf
 repeat lk
 exact h
theorem Yi{z:Value}{Q:Unit->Shared->Prop}{M:Model}(X:K.In s.heap)(I:XObj s.heap x C)(G:XGet K C)(J:Q () s):wpAny M A (checkBuiltinCall "BaseException.__getattribute__" ⟨[.ref x,z],[]⟩) Q E s:=by
 obtain⟨Z,g0,d0,t0,o0⟩:=s;have O:=yx (M:=M) I;have S:=looks_mroIn (M:=M) X G.mb;have U:builtinKind "BaseException.__getattribute__" = some .slot:=by decide +kernel
 have Y:splitId "BaseException.__getattribute__" = some ("BaseException","__getattribute__"):=by decide +kernel
 have ha:=PySem.F.args_bexc_ga (.ref x) z;simp only [checkBuiltinCall,U,Y];refine zgi (show wpAny _ _ (isInstance (.ref x) (.type "BaseException")) _ _ _ from ?_);refine(O.andThen S).at ?_;rw [if_neg ⋯];unfold argsOk at ha;cases hs:Manifest.signature? "BaseException.__getattribute__" with
 | none=>exact zgo J
 | some a3=>
  rw [hs]at ha;exact zjE ha J
theorem Yh{Q:Option Value->Shared->Prop}(X:K.In s.heap)(I:XObj s.heap x C)(G:XGet K C)(h:Q (some (.ref C)) {s with toks:=s.toks+1}):wpAny (model prog w) A (getAttr? (.ref x) "__class__") Q E s:=by
 obtain⟨z,g0,J,O,S⟩:=s;have U:=yx (M:=model prog w) I;have Y:=looks_findIn (M:=model prog w) X G.ga;have L2:=looks_findIn (M:=model prog w) X G.gn;have Z:=V8 (M:=model prog w) (x:=x) X G;have B:=PySem.F.attr_ValueError.ga.bind (.ref x);unfold getAttr? getAttrBy? getAttrBy;refine zgi (wpAny_mkText (zgi (zii (zih (zgi (U.at (zgi (Y.at ?_))))))));show wpAny _ _ (getAttrByItsOwn _ _ _ _ _ _) _ _ _;unfold getAttrByItsOwn;refine zgi (L2.at ?_);refine zgi (zii (zih ?_));show wpAny _ _ (boundAndCalled (.builtin "BaseException.__getattribute__") (.ref x) _) _ _ _;unfold boundAndCalled;refine zgi (zjE B ?_);refine wpAny_call (zjw PySem.F.attr_ValueError.ga.plain PySem.F.entry_bexc_ga (Yi (s:=⟨z,g0,J,O+1,S⟩) X I G ?_));refine zgi (zgo ?_);refine zgi (zgo ?_);refine zgi (U.at (zgi (Z.at ?_)));show wpAny _ _ (bindTo _ _ _ _) _ _ _;unfold bindTo;refine zgi (zih (wpAny_call (V9 (s:=⟨z,g0,J,O+1,S⟩) X I G ?_)));refine zgo ?_;exact zgo (zgo h)
theorem zab(h:zae K C=true):XGet K C:=by
 unfold zae at h;simp only [Bool.and_eq_true,beq_iff_eq]at h;exact⟨h.1.1.1.1.1.1.1.1.2,h.1.1.1.1.1.1.1.2,h.1.1.1.1.1.1.2,h.1.1.1.2,h.1.1.2,h.1.1.1.1.1.2,h.1.1.1.1.2⟩
theorem VV(G:XGet K C)(S:(clsIn K C).isSome=true):KitX K (.ref x) (.ref C) (λh=>XObj h x C) where
 ty:=λ_ _ _ I=>yx I
 it:=λ_ _ X _=>by
  obtain⟨U,J⟩:=zhr.mp S;unfold clsIn at J;split at J
  ·rename_i Y d' Z a0 O
   intro A' Q' E' s' k q;unfold isType loadHead;exact zgi (wpAny_loadPart (k _ _ (X _ _ O)) (zgo q))
  ·cases J
 ne:=λh tp dd a5 n sl X a1=>by
  obtain⟨U,J⟩:=zhr.mp S;refine Bool.eq_false_iff.mpr λq=>?_;have e:C=tp:=zgK.inj (beq_iff_eq.mp q);subst e;unfold clsIn at J;split at J
  ·rename_i Y d' Z a0 O
   have z:=(X _ _ O).symm.trans a1;cases z
  ·cases J
 ca:=λX I k=>Yh X I G k
theorem zac(h:zae K C=true):(clsIn K C).isSome=true:=by
 unfold zae at h;simp only [Bool.and_eq_true]at h;have:=h.1.2;cases q:clsIn K C with
 | none=>rw [q]at this;cases this
 | some z=>rfl
end
end DL
namespace DL
open PySem PySem.Spec PyProof.Rows L2
section
variable{X:Cx}{sc:Scope}{N T:List Str}{k:Nat}{e a b c:Expr}{pos p p2:Pos}{f g:CO D}{fq:CO (Sk×List D)}
theorem W2{n:Nat}{i:Int}{j:Nat}(h:ixD n i=some j):ixN n i=some j:=by
 unfold ixD at h;unfold ixN;split at h
 ·rename_i h1;rw [if_pos h1.1,if_pos h1.2];exact h
 ·split at h
  ·rename_i h1 h2;rw [if_neg ⋯,if_pos ⋯];exact h
  ·cases h
theorem zX(ha:PQ X a fq)(U:PV X b g)(Y:JZ b:=by intro _ _;rfl):PV X (.Subscript a b pos) (sIx fq g):=
 jQ (zcF (ix_list.or zc9) ha U Y) λσ H Q Z=>by
  obtain⟨H0,γ,d,rc,z,q⟩:=Z;obtain⟨⟨kk,ds⟩,e1,z⟩:=bind_some z;obtain⟨i,J,z⟩:=bind_some z;obtain⟨di,e3,J⟩:=bind_some J;obtain⟨j,e4,z⟩:=bind_some z;refine⟨H0,γ,kk,ds,rc,e1,λp xs H' H0' ext h1 h2 r=>⟨H0',γ,di,rc.ext ext,e3,λv2 H2 a3 I r2=>?_⟩⟩;rw [qG J]at r2;obtain⟨x,hx,rx⟩:=r.get z;have O:atI xs i=some x:=by
   unfold atI;rw [r.length,W2 e4];exact hx
  have S:=q x H2 a3 (ext.trans I) (rx.mono I.s0);cases kk with
  | L=>exact .inl ⟨p,xs,i,x,rfl,jD r2,I.s1.seq h1,O,S⟩
  | T=>exact .inr ⟨p,xs,i,x,rfl,jD r2,sameT I.s1 h1,O,S⟩
theorem k9{P:Program}{w:World}{A:Around}{E:Value->Shared->Prop}{s:Shared}{t sl:Addr}{items:Array Value}{I J:Value}{lo hi:Option Int}{Q:Value->Shared->Prop}(z:IsTup s.heap t items)(O:s.heap.IsSliceOf sl I J .none)(pl:IsPart I lo)(S:IsPart J hi)
 (hw:HT.sIx items.size 0 lo=0/\HT.sIx items.size items.size hi=items.size) (h:Q (.ref t) s):wpAny (model P w) A (getItem (.ref t) (.ref sl)) Q E s:=by
 obtain⟨os,U,Y,a1⟩:=id O;have Z:s.TypeIs (.ref sl) "slice":=⟨os,U,Y⟩;unfold getItem
 try with_reducible refine zih ?_
 first | refine zgi (zgo ?_) | skip
 refine zgi (wpAny_sequenceKey z.typeIs ⋯ ?_);refine zgi (zg9 (name:=zhg "__getitem__") z.typeIs zhs
  (zhu zhs z.typeIs entry_tuple_getitem ?_ (args_tuple_getitem _ _)))
 show wpAny _ _ (Builtin.Tuple.tupleItemsOf (.ref t) >>= _) _ _ s;refine zgi (zjd z ?_);refine zgi (zi0 Z ?_);rw [if_pos ⋯];refine zgi (HT.sliceApplied_gen O pl S ?_);have a0:(((HT.sIx items.size 0 lo:Nat):Int)==0 && (1:Int)==1 && (HT.sIx items.size items.size hi - HT.sIx items.size 0 lo)==items.size)=true:=by
  rw [hw.1,hw.2];simp
 show wpAny _ _ (if (((HT.sIx items.size 0 lo:Nat):Int)==0 && (1:Int)==1 && (HT.sIx items.size items.size hi - HT.sIx items.size 0 lo)==items.size)=true then _ else _) _ _ s;rw [if_pos a0];refine zgi (m:=zh7 _) ?_;unfold zh7;refine zgi (zi0 z.typeIs (zgo ?_));rw [if_pos ⋯];exact zgi (zi6 (zgo ⟨_,rfl,zgo h⟩))
def zes(K:PySem.W.Frag):V->Option Int->Option Int->Hp->VK->Prop:=λx lo hi H Q=>∃a xs,x = .ref a/\SqT K H a xs/\(HT.sIx xs.length 0 lo=0/\HT.sIx xs.length xs.length hi=xs.length->Q (.ref a) H)/\∀p,H p=none->Q (.ref p) (upd H p (.tup (zbr xs lo hi)))
theorem zaw:SlR X (zes X.K):=by
 intro pins s σ H x v U Y lo hi sl Q I z J pl O h;obtain⟨a,xs,rfl,hx,Z,q2⟩:=h;by_cases hw:HT.sIx xs.length 0 lo=0/\HT.sIx xs.length xs.length hi=xs.length
 ·cases z
  obtain⟨a1,r,S,hz⟩:=I.tuple hx;have a2:a1.toArray.size=xs.length:=by rw [zgs];exact r.length.symm
  refine⟨"tuple",_,zhs.lookup,S.typeIs,?_⟩;exact k9 S J pl O (by rw [a2];exact hw) ⟨.ref a,H,I,rfl,Z hw⟩
 ·exact zb6 pins s σ H (.ref a) v U Y lo hi sl Q I z J pl O ⟨a,xs,rfl,hx,hw,q2⟩
theorem yA(n d:Nat)(o:Option Int):JT n d o=HT.sIx n d o:=by cases o<;>rfl
theorem Vp{K:PySem.W.Frag}{H:Hp}{ds:List D}{xs:List V}(r:Reps K H ds xs)(lo hi:Option Int):Reps K H (QM ds lo hi) (zbr xs lo hi):=by
 unfold QM zbr;rw [<- yA,<- yA,r.length];exact(r.drop _).take _
theorem Yw{ds:List D}{lo hi:Option Int}(h:HT.sIx ds.length 0 lo=0/\HT.sIx ds.length ds.length hi=ds.length):QM ds lo hi=ds:=by
 unfold QM;rw [yA,yA,h.1,h.2];simp
def tB(K:PySem.W.Frag)(f:CO (Option Int)):TO:=λσ H Q=>∃H0 γ o,RC K H0 H σ γ/\f γ=some o/\∀H' H0',Ext H0 H H0' H'->Q o H'
theorem wS:L2.PO X none (tB X.K XT):=λpins s σ H Q I ⟨H0,γ,o,rc,z,q⟩=>zaO pins s σ H Q I (by cases z;exact q H H0 (Ext.refl rc.sub))
theorem k5(h:PV X e f):L2.PO X (some e) (tB X.K (sBd f)):=λpins s σ H Q I ⟨H0,γ,o,rc,z,q⟩=>zaN h pins s σ H Q I (by
 obtain⟨i,e1,J⟩:=zE z;obtain⟨d,O,e1⟩:=bind_some e1;subst J;refine⟨H0,γ,d,rc,O,λv H' H0' x r=>?_⟩;rw [qG e1]at r;exact⟨i,jD r,q H' H0' x⟩)
theorem ZH{lo hi:Option Expr}{J O:CO (Option Int)}(ha:PV X a f)(Z:L2.PO X lo (tB X.K J))(hh:L2.PO X hi (tB X.K O)):PV X (.Subscript a (.Slice lo hi none p2) pos) (Qd f J O):=
 jQ (VD zaw ha Z hh) λσ H Q hZ=>by
  obtain⟨H0,γ,d,rc,z,q⟩:=hZ;obtain⟨S,e1,z⟩:=bind_some z;obtain⟨l,e2,z⟩:=bind_some z;obtain⟨u,e3,z⟩:=bind_some z;refine⟨H0,γ,S,rc,e1,λv H' H0' x r=>⟨H0',γ,l,rc.ext x,e2,λH2 a5 I=>⟨a5,γ,u,(rc.ext x).ext I,e3,λH3 a7 x3=>?_⟩⟩⟩;have U:=x.trans (I.trans x3);cases S with
  | tup ds=>
   cases z;obtain⟨a1,xs,rfl,h1,h2⟩:=xk (r.mono (I.trans x3).s0);have a9:=h2.length;refine⟨a1,xs,rfl,sameT x3.sub h1,λhw=>?_,λp Y=>?_⟩
   ·rw [a9]at hw
    exact q _ H3 a7 U (by rw [Yw hw];exact j7 h1 h2)
   ·exact q _ _ _ (U.trans (Ext.alloc x3.sub Y _)) (j7 (SqT.of zH) ((Vp h2 _ _).mono (z5 (jp x3.sub Y) _)))
  | _=>cases z
theorem Qh{K:PySem.W.Frag}{H:Hp}{ds:List D}{xs:List V}(r:Reps K H ds xs) : ∀n:Nat,Reps K H (zgm n ds).flatten (zgm n xs).flatten
 | 0=>Reps.nil
 | n+1=>by rw [zhF,zhF,zhX,zhX];exact r.append (Qh r n)
theorem Qm{S:CO (Sk×List D)}(ha:PQ X a fq)(hb:PQ X b S):PO X (.BinOp a .Add b pos) (xQ fq S):=
 jQ (zaU VH ha hb) λσ H Q hZ=>by
  obtain⟨H0,γ,ds,rc,z,q⟩:=hZ;obtain⟨⟨k1,U⟩,e1,z⟩:=bind_some z;obtain⟨⟨k2,Y⟩,e2,z⟩:=bind_some z;cases k1<;>cases k2<;>try (simp at z;done)
  dsimp only at z;by_cases J:U.length+Y.length<=lim
  ·rw [if_pos J]at z;cases z
   refine⟨H0,γ,.L,U,rc,e1,λa1 xs H1 a8 x1 h1 h2 Z=>⟨a8,γ,.L,Y,rc.ext x1,e2,λa2 ys H2 aa I h3 h4 r2=>⟨a1,a2,xs,ys,rfl,rfl,I.s1.seq h1,h3,ke (by rw [Z.length,r2.length];exact J),λp O=>?_⟩⟩⟩;exact q p (xs++ys) _ aa (x1.trans (I.trans (Ext.hide I.sub O _))) (kv (x1.trans I).s1 O) (jp I.sub O) zH ((Z.mono I.s0).append r2)
  ·rw [if_neg J]at z;cases z
theorem z7{K:PySem.W.Frag}{t c:String}{b:Bool}(h:(if ((ziF t) == .type c)=true then some true else if PySem.W.kitMeta c=true then (fastBuiltinMro t).map (·.contains (.type c))else none)=some b):zhK K (.type t) (.type c)=some b:=h
def tyN:Ty->String
 | .int=>"int"
 | .bool=>"bool"
 | .str=>"str"
 | .tuple=>"tuple"
 | .list=>"list"
def zeM:D->String
 | .non=>"NoneType"
 | .bl _=>"bool"
 | .int _=>"int"
 | .str _=>"str"
 | .tup _=>"tuple"
 | .lst _=>"list"
 | .exc _ _=>""
 | .dic _ _=>"dict"
 | .dct _ _=>"dict"
theorem ZU{K:PySem.W.Frag}(T:Ty)(d:D)(hx : ∀c n,d ≠ .exc c n):zhK K (.type (zeM d)) (.type (tyN T))=some (W3 T d):=by
 cases d with
 | non=>
  cases T with
  | int=>exact z7 (t:="NoneType") (c:="int") (b:=false) ⋯
  | bool=>exact z7 (t:="NoneType") (c:="bool") (b:=false) ⋯
  | str=>exact z7 (t:="NoneType") (c:="str") (b:=false) ⋯
  | tuple=>exact z7 (t:="NoneType") (c:="tuple") (b:=false) ⋯
  | list=>exact z7 (t:="NoneType") (c:="list") (b:=false) ⋯
 | bl y=>
  cases T with
  | int=>exact z7 (t:="bool") (c:="int") (b:=true) ⋯
  | bool=>exact z7 (t:="bool") (c:="bool") (b:=true) ⋯
  | str=>exact z7 (t:="bool") (c:="str") (b:=false) ⋯
  | tuple=>exact z7 (t:="bool") (c:="tuple") (b:=false) ⋯
  | list=>exact z7 (t:="bool") (c:="list") (b:=false) ⋯
 | int y=>
  cases T with
  | int=>exact z7 (t:="int") (c:="int") (b:=true) ⋯
  | bool=>exact z7 (t:="int") (c:="bool") (b:=false) ⋯
  | str=>exact z7 (t:="int") (c:="str") (b:=false) ⋯
  | tuple=>exact z7 (t:="int") (c:="tuple") (b:=false) ⋯
  | list=>exact z7 (t:="int") (c:="list") (b:=false) ⋯
 | str y=>
  cases T with
  | int=>exact z7 (t:="str") (c:="int") (b:=false) ⋯
  | bool=>exact z7 (t:="str") (c:="bool") (b:=false) ⋯
  | str=>exact z7 (t:="str") (c:="str") (b:=true) ⋯
  | tuple=>exact z7 (t:="str") (c:="tuple") (b:=false) ⋯
  | list=>exact z7 (t:="str") (c:="list") (b:=false) ⋯
 | tup y=>
  cases T with
  | int=>exact z7 (t:="tuple") (c:="int") (b:=false) ⋯
  | bool=>exact z7 (t:="tuple") (c:="bool") (b:=false) ⋯
  | str=>exact z7 (t:="tuple") (c:="str") (b:=false) ⋯
  | tuple=>exact z7 (t:="tuple") (c:="tuple") (b:=true) ⋯
  | list=>exact z7 (t:="tuple") (c:="list") (b:=false) ⋯
 | lst y=>
  cases T with
  | int=>exact z7 (t:="list") (c:="int") (b:=false) ⋯
  | bool=>exact z7 (t:="list") (c:="bool") (b:=false) ⋯
  | str=>exact z7 (t:="list") (c:="str") (b:=false) ⋯
  | tuple=>exact z7 (t:="list") (c:="tuple") (b:=false) ⋯
  | list=>exact z7 (t:="list") (c:="list") (b:=true) ⋯
 | exc c n=>exact absurd rfl (hx c n)
 | dic c n=>
  cases T with
  | int=>exact z7 (t:="dict") (c:="int") (b:=false) ⋯
  | bool=>exact z7 (t:="dict") (c:="bool") (b:=false) ⋯
  | str=>exact z7 (t:="dict") (c:="str") (b:=false) ⋯
  | tuple=>exact z7 (t:="dict") (c:="tuple") (b:=false) ⋯
  | list=>exact z7 (t:="dict") (c:="list") (b:=false) ⋯
 | dct c n=>
  cases T with
  | int=>exact z7 (t:="dict") (c:="int") (b:=false) ⋯
  | bool=>exact z7 (t:="dict") (c:="bool") (b:=false) ⋯
  | str=>exact z7 (t:="dict") (c:="str") (b:=false) ⋯
  | tuple=>exact z7 (t:="dict") (c:="tuple") (b:=false) ⋯
  | list=>exact z7 (t:="dict") (c:="list") (b:=false) ⋯
theorem VZ{pins:List (Addr×Obj)}{σ:St}{H0 H:Hp}{s:Shared}{A:Around}{E:Value->Shared->Prop}{Q:Value->Shared->Prop}{d:D}{x:V}{u:Value}(I:Inv X pins σ H s)(sub:Same H0 H)(J:RelV x u)(r:Rep X.K H0 d x)(T:Ty)
 (h : ∀tk,Q (.bool (W3 T d)) {s with toks:=tk}):wpAny (model X.prog X.w) A (call (.builtin "isinstance") [u,.type (tyN T)]) Q E s:=by
 cases d with
 | non=>have e:=ZU (K:=X.K) T .non (λ_ _ z=>nomatch z);cases (show x = .non from r);cases (show u=zhI from J);exact zgR PySem.W.kitx_none I.kIn zh8 e (λz=>nomatch z) h
 | bl y=>have e:=ZU (K:=X.K) T (.bl y) (λ_ _ z=>nomatch z);cases (show x = .bl y from r);cases (show u=zjx y from J);exact zgR PySem.W.kitx_bool I.kIn zh8 e (λz=>nomatch z) h
 | int i=>have e:=ZU (K:=X.K) T (.int i) (λ_ _ z=>nomatch z);cases (show x = .int i from r);obtain⟨t,q⟩:=(show ∃t,u=Value.int i t from J);cases q;exact zgR PySem.W.kitx_int I.kIn zh8 e (λz=>nomatch z) h
 | str y=>have e:=ZU (K:=X.K) T (.str y) (λ_ _ z=>nomatch z);cases (show x = .str y from r);obtain⟨t,q⟩:=(show ∃t,u=Value.str y t from J);cases q;exact zgR PySem.W.kitx_str I.kIn zh8 e (λz=>nomatch z) h
 | tup ds=>
  have e:=ZU (K:=X.K) T (.tup ds) (λ_ _ z=>nomatch z);obtain⟨a,xs,rfl,h1,h2⟩:=xk r;cases (show u=zgK a from J);obtain⟨Z,rv,⟨o,O,U,_⟩,hz⟩:=I.tuple (sameT sub h1);exact zgR PySem.W.kitx_tuple I.kIn ⟨o,O,U⟩ e (λz=>nomatch z) h
 | lst ds=>
  have e:=ZU (K:=X.K) T (.lst ds) (λ_ _ z=>nomatch z);obtain⟨a,xs,rfl,h1,h2⟩:=za5 r;cases (show u=zgK a from J);obtain⟨Z,rv,p,hz⟩:=I.list (sub.seq h1);obtain⟨o,O,U,_⟩:=p.isList;exact zgR zjr I.kIn ⟨o,O,U⟩ e (λz=>nomatch z) h
 | exc c n=>
  obtain⟨a,rfl,Y⟩:=(show ∃a,x = .ref a/\XRep X.K H0 c n a from r);cases (show u=zgK a from J);obtain⟨C,φ,g1,g2,g3,_⟩:=Y.ex;obtain⟨S,_,x1,_,_⟩:=zad Y.all Y.mem g1;obtain⟨p,_,_⟩:=(show ObjOk X.prog X.w H s.heap a (.ext φ)from I.hok a _ (sub _ _ g2));have e:zhK X.K (.ref C) (.type (tyN T))=some (W3 T (.exc c n)):=by
   unfold zae at x1;simp only [Bool.and_eq_true,List.all_cons,List.all_nil,beq_iff_eq]at x1;have t:=x1.1.1.1.1.1.1.1.1.1.1;cases T
   ·exact t.1
   ·exact t.2.1
   ·exact t.2.2.1
   ·exact t.2.2.2.1
   ·exact t.2.2.2.2.1
  exact zgR (VV (zab x1) (zac x1)) I.kIn (g3 _ p) e (λz=>nomatch z) h
 | dic ks vs=>
  have e:=ZU (K:=X.K) T (.dic ks vs) (λ_ _ z=>nomatch z);obtain⟨a,xs,rfl,⟨kk,_,_,h1⟩,_⟩:=(show ∃a xs,x = .ref a/\DRp H0 a ks xs/\Reps X.K H0 vs xs from r);exact K4 I J (.dK (sub _ _ h1)) e h
 | dct ks vs=>
  have e:=ZU (K:=X.K) T (.dct ks vs) (λ_ _ z=>nomatch z);obtain⟨a,xs,rfl,⟨_,o,zs,h1,h2,_⟩,_⟩:=(show ∃a xs,x = .ref a/\DRt X.K H0 a ks xs/\Reps X.K H0 vs xs from r);cases (show u=zgK a from J);obtain⟨O,_⟩:=(show ObjOk X.prog X.w H s.heap a (atO a o)from I.hok a _ (sub _ _ h1));exact zgR zjs I.kIn ⟨o,O,h2.1.1⟩ e (λz=>nomatch z) h
theorem zcm{ty:Str}(T:Ty)(h:SX X sc N L k)(c:yf sc "isinstance" = true)(z:X.mg "isinstance" = none)(J:yf sc ty=true)(z2:X.mg ty=none)(Y:bootBuiltins ty=some (.type (tyN T)))(ha:PV X a f)
 (S:starEach [a,.Name ty p2] X.env=[(false,eval a X.env),(false,eval (.Name ty p2) X.env)]:=by rfl):PV X (.Call (.Name "isinstance" p) [a,.Name ty p2] [] pos) (sIs T f):=by
 intro pins s σ H Q I ⟨H0,γ,d,rc,Z,q⟩;obtain⟨U,e1,e2⟩:=zE Z;subst e2;refine ziy (xX I (h.gl c).1 z PyProof.Rows.boot_isinstance ?_ ⋯ ⋯);refine zjf ?_ (by rw [S];rfl) rfl;rw [S];show wpAny _ _ (spliced ((false,eval a X.env)::backTo pos [(false,eval (.Name ty p2) X.env)])) _ _ s;refine zh9 (thn (ha pins s σ H _ I ⟨H0,γ,U,rc,e1,λv H' H0' x r=>(show(λv H'=>∃H0',Ext H0 H H0' H'/\Rep X.K H0' U v) v H' from⟨H0',x,r⟩)⟩) λu s1 hZ=>?_);obtain⟨x,H1,O,r1,a3,x1,rr⟩:=hZ;show wpAny _ _ (spliced ((false,eval (.Name ty p2) X.env)::[])) _ _ s1;refine zh9 (xX O (h.gl J).1 z2 Y ?_ (h.gl J).2.1 (h.gl J).2.2);refine ziX ?_;exact VZ O x1.sub r1 rr T λtk=>⟨.bl _,H1,O.tok tk,rfl,q _ H1 a3 x1 rfl⟩
end
section
variable{X:Cx}{sc:Scope}{N L:List Str}{k:Nat}{e a b c:Expr}{pos p p2:Pos}{f g:CO D}{fq:CO (Sk×List D)}
theorem jL{tg:Expr}(h:SX X sc N L k)(c:yf sc "range" = true)(z:X.mg "range" = none)(ha:PV X a f)(I:starEach [a] X.env=[(false,eval a X.env)]:=by rfl):PIF X tg (.Call (.Name "range" p) [a] [] pos) (zY f):=Xj (h.gl c).1 z ha I
theorem Qp{tg:Expr}(h:SX X sc N L k)(c:yf sc "range" = true)(z:X.mg "range" = none)(ha:PV X a f)(I:PV X b g)(J:starEach [a,b] X.env=[(false,eval a X.env),(false,eval b X.env)]:=by rfl)(O:starEach [b] X.env=[(false,eval b X.env)]:=by rfl) :
 PIF X tg (.Call (.Name "range" p) [a,b] [] pos) (x6 f g):=Xi (h.gl c).1 z ha I J O
theorem ZM{elts:List Expr}{x1:Nat}{tpos:Pos}(h:SX X sc N L k)(c:yf sc "zip" = true)(z:X.mg "zip" = none)(ha:PV X a f)(I:PV X b g)(J:starEach [a,b] X.env=[(false,eval a X.env),(false,eval b X.env)]:=by rfl)(O:starEach [b] X.env=[(false,eval b X.env)]:=by rfl) :
 PIF X (.Tuple elts x1 tpos) (.Call (.Name "zip" p) [a,b] [] pos) (Jq f g):=zaR (h.gl c).1 z ha I J O
theorem Kt(h:SX X sc N L k)(c:yf sc "isinstance" = true)(z:X.mg "isinstance" = none)(I:yf sc "int" = true)(z2:X.mg "int" = none)(ha:PV X a f)
 (J:starEach [a,.Name "int" p2] X.env=[(false,eval a X.env),(false,eval (.Name "int" p2) X.env)]:=by rfl):PV X (.Call (.Name "isinstance" p) [a,.Name "int" p2] [] pos) (sIs .int f):=zcm .int h c z I z2 PyProof.Rows.boot_int ha J
theorem Xe(h:SX X sc N L k)(c:yf sc "isinstance" = true)(z:X.mg "isinstance" = none)(I:yf sc "bool" = true)(z2:X.mg "bool" = none)(ha:PV X a f)
 (J:starEach [a,.Name "bool" p2] X.env=[(false,eval a X.env),(false,eval (.Name "bool" p2) X.env)]:=by rfl):PV X (.Call (.Name "isinstance" p) [a,.Name "bool" p2] [] pos) (sIs .bool f):=zcm .bool h c z I z2 PyProof.Rows.boot_bool ha J
theorem Vv(ha:PQ X a fq)(I : ∀z,isTrue a X.env z=(do let v <- z;standAt a.pos;holding [v] (truthy v)):=by intro _;rfl):PTD X a (Vj fq):=
 Vx (Vw ha I) λσ H Q J=>by
  obtain⟨H0,γ,t,rc,O,q⟩:=J;obtain⟨⟨kk,ds⟩,e1,S⟩:=zE O;subst S;refine⟨H0,γ,kk,ds,rc,e1,λp xs H' H0' ext h1 h2 r=>⟨!ds.isEmpty,?_,q H' H0' ext⟩⟩;have e:xs.isEmpty=ds.isEmpty:=by
   have:=r.length;cases xs<;>cases ds<;>simp_all
  rw [<- e];cases kk with
  | L=>exact .inl ⟨xs,h1,rfl⟩
  | T=>exact .inr (.inl ⟨xs,h1,rfl⟩)
theorem Jy(i:Nat){x:Str}{apos cpos np:Pos}(h:SX X sc N L k)(c:Y6 sc N i x=true)(ha:PV X a f)(z:starEach [a] X.env=[(false,eval a X.env)]:=by rfl)
 (I:attributeBase (.Name x np) "append" X.env (eval (.Name x np) X.env)=eval (.Name x np) X.env:=by rfl)
 (J:((backTo cpos (starEach [a] X.env)).all (λx=> !x.1) && (backToKw cpos (keywordEach [] X.env)).all (λx=>x.1.isSome)
   && decide ([a].length+([]:List Keyword).length+(if ([]:List Keyword).isEmpty then 0 else 1)<30))=true:=by rfl)
 (O:(apos.endLine==cpos.line)=true:=by rfl) (S:swapsWith (.Call (.Attribute (.Name x np) "append" apos) [a] [] cpos) none pos.line X.env=pure false:=by rfl) :
 PSD X (.Expr (.Call (.Attribute (.Name x np) "append" apos) [a] [] cpos) pos) (qp i f):=
 Xf i (zcH PySem.F.plainAttrs_list PySem.F.slot_list_append PySem.F.type_list_append KL (h.var c) (zT ha jF z) I J O z rfl) S
theorem jw(i:Nat){st:Stmt}{f:CO (List D)}(h:PS X st (X8 (tO X.K f) (kF i))):PSD X st (zO i (ja f)):=xR h λD σ H J=>by
 obtain⟨E0,E,H0,γ,Y,z,I,O⟩:=J;obtain⟨d,e1,I⟩:=zE I;obtain⟨ds,S,e1⟩:=zE e1;subst I e1;exact⟨H0,γ,ds,z.rc,S,λa xs H' H0' x h1 h2 U r=>O _ _ _ ((z.step (x.show h1 h2 U z.rc.sub)).setVal (Ju (SqL.of zH) (r.mono (z5 h2 _))))⟩
theorem psc{scope:Scope}{own:List Str}{fr:List (Str×Nat)}{elt tg iter:Expr}{cpos z I:Pos}{src:CO (List D)}{T:Tg}{y:Str}(i:Nat)(h:SX X sc N L k)(c:Q2 sc N L i y=true)
 (J:X.calm=true) (ok:CompOk X scope fr) (O : ∀i∈T.idx,i<own.length) (hi:PIC X tg iter src) (S : ∀fp s2 H2,PG (jg X scope (own++fr.map (·.1)) fp s2 H2) tg (gOf X.K T))
 (U : ∀fp s2 H2,PV (jg X scope (own++fr.map (·.1)) fp s2 H2) elt f) (Y : ∀x,foldedSetIterable iter X.env x=pure x:=by intro _;rfl) :
 PS X (.Assign [.Name y I] (.ListComp elt [⟨tg,iter,[],0⟩] scope cpos) z) (X8 (tO X.K (zC src T own.length (fr.map (·.2)) z6 f)) (kF i)):=by
 obtain⟨h1,h2,Z⟩:=h.loc c;exact Vz h.ndX h1 h2 Z J ok O hi S U Y
theorem zct{scope:Scope}{own:List Str}{fr:List (Str×Nat)}{elt tg iter z:Expr}{cpos I J:Pos}{src:CO (List D)}{T:Tg}{y:Str}{kk:CO Bool}(i:Nat)(h:SX X sc N L k)(c:Q2 sc N L i y=true)
 (O:X.calm=true) (ok:CompOk X scope fr) (S : ∀i∈T.idx,i<own.length) (hi:PIC X tg iter src) (U : ∀fp s2 H2,PG (jg X scope (own++fr.map (·.1)) fp s2 H2) tg (gOf X.K T))
 (Y : ∀fp s2 H2,PTD (jg X scope (own++fr.map (·.1)) fp s2 H2) z kk) (Z : ∀fp s2 H2,PV (jg X scope (own++fr.map (·.1)) fp s2 H2) elt f) (hs : ∀x,foldedSetIterable iter X.env x=pure x:=by intro _;rfl) :
 PS X (.Assign [.Name y J] (.ListComp elt [⟨tg,iter,[z],0⟩] scope cpos) I) (X8 (tO X.K (zC src T own.length (fr.map (·.2)) kk f)) (kF i)):=by
 obtain⟨h1,h2,h3⟩:=h.loc c;exact Xg h.ndX h1 h2 h3 O ok S hi U Y Z hs
theorem wR{tg:Expr}{T:Tg}(J:PG X tg (gOf X.K T))(O:PV X e f)(S:swapsWithSole [tg] e pos.line X.env=pure false:=by rfl)(hw:swappedStores [tg] e X.env=pure none:=by rfl)
 (h1:(assignEach [tg] X.env).map (·.2)=[assign tg X.env]:=by rfl):PSD X (.Assign [tg] e pos) (wI T f):=
 xR (WR O J S hw h1) λD σ H U=>by
  obtain⟨E0,E,H0,γ,fl,I,z,Y⟩:=U;obtain⟨d,e1,z⟩:=bind_some z;obtain⟨γ1,Z,z⟩:=zE z;subst z;refine⟨H0,γ,d,I.rc,e1,λv H' H0' x r=>?_⟩;exact vn x.sub r Z λσ1 _ a1=>Y σ1 H' H0' (a1 E0 E (I.step x))
end
structure FnD(P:Program)(w:World)(K:PySem.W.Frag)(mg:Str->Option Value)(base:Heap)(k:Nat)(x:Str)(n:Nat)(F:List D->Option Res):Prop where
 ex : ∃(f:Addr) (fd:FuncData) (ps:List Str),ps.length=n/\FnOk P w K mg base CX0 k f fd ps (spF K ps.length F)/\mg x=some (.ref f)/\PySem.W.keepIn K (.ref f)=true/\Binds K fd ps []
structure DefAt(K:PySem.W.Frag)(mg:Str->Option Value)(x:Str)(st:Stmt)(ps:List Str):Prop where
 ex : ∃(f:Addr) (fd:FuncData),L2.Fun K x x st f fd/\(∀us:List Value,us.length=ps.length->bindArgs fd ⟨us,[]⟩=pure (ps.zip us))/\mg x=some (.ref f)
def PAn(X:Cx)(es:List Expr)(n:Nat)(g:CO (List D)):Prop:=PAD X es g/\∀γ ds,g γ=some ds->ds.length=n
section
variable{X:Cx}{sc:Scope}{N L:List Str}{k:Nat}{e:Expr}{es:List Expr}{f:CO D}{g:CO (List D)}{n:Nat}{pos p:Pos}{x:Str}
theorem zn:PAn X [] 0 zu:=⟨zaX,λγ ds h=>by cases h;rfl⟩
theorem zb(ha:PV X e f)(z:PAn X es n g)(I:starEach (e::es) X.env=(false,eval e X.env)::starEach es X.env:=by rfl):PAn X (e::es) (n+1) (za f g):=
 ⟨VF ha z.1 I,λγ ds h=>by
  obtain⟨y,e1,h⟩:=bind_some h;obtain⟨r,J,h⟩:=zE h;subst h;rw [zg2,z.2 γ r J]⟩
variable{j:Nat}{F:List D->Option Res}
theorem jE(z:FnD X.prog X.w X.K X.mg X.base j x n F)(I:j<=k)(h:SX X sc N L k)(c:yf sc x=true)(ha:PAn X (e::es) n g)
 (J:starEach (e::es) X.env=(false,eval e X.env)::starEach es X.env:=by rfl) (O:(backTo pos (starEach es X.env)).any (·.1)=false:=by rfl):PV X (.Call (.Name x p) (e::es) [] pos) (zw F g):=by
 obtain⟨fa,fd,ps,hn,G,hm,S,U⟩:=z.ex;subst hn;exact zaK (A0:=[]) G ha.1 ha.2 λ{t} Y=>yW G (h.room.mono I) (h.gl c).1 hm S U .nil ZO Y (h.gl c).2.2 J O
theorem yp(z:FnD X.prog X.w X.K X.mg X.base j x n F)(I:j<=k)(h:SX X sc N L k)(c:yf sc x=true)(ha:PAn X (e::es) n g)
 (J:starEach (e::es) X.env=(false,eval e X.env)::starEach es X.env:=by rfl) (O:(backTo pos (starEach es X.env)).any (·.1)=false:=by rfl):PO X (.Call (.Name x p) (e::es) [] pos) (zQ F g):=by
 obtain⟨fa,fd,ps,hn,G,hm,S,U⟩:=z.ex;subst hn;exact zaQ G ha.1 ha.2 λ{t} Y=>yW G (h.room.mono I) (h.gl c).1 hm S U .nil ZO Y (h.gl c).2.2 J O
end
section
variable{P:Program}{w:World}{K:PySem.W.Frag}{mg:Str->Option Value}{base:Heap}
def JR(N ps:List Str)(st:Stmt):Bool:=
 decide ((defScope st).kind = .function) && decide ((defScope st).isCoroutine=false) && decide ((defScope st).isGenerator=false) && decide N.Nodup && decide (N.take ps.length=ps) &&
 ps.all (λx=>decide ((defScope st).names.lookup x=some .local) || decide ((defScope st).names.lookup x=some .cell)) && (defScope st).names.all (λy=> !(y.2==NameKind.free))
theorem ko{N ps:List Str}{st:Stmt}(h:JR N ps st=true):FnScope N ps (defScope st):=by
 unfold JR at h;simp only [Bool.and_eq_true,decide_eq_true_eq,zil,zhv,zhY]at h;obtain⟨⟨⟨⟨⟨⟨h1,h2⟩,z⟩,I⟩,J⟩,O⟩,S⟩:=h;exact⟨h1,h2,z,I,J,O,λy U e=>by have:=S y U;rw [e]at this;exact absurd this ⋯⟩
theorem xi{X:Cx}(hx:X.xe=λ_ _=>False):PassesOwn (model X.prog X.w) X.A X.env X.xe:=by rw [hx];exact PassesOwn.never
theorem kG{x:Str}{st:Stmt}{N ps:List Str}{k:Nat}{F:CO Fl}(A:DefAt K mg x st ps)(hd:JR N ps st=true)
 (I : ∀X:Cx,X.prog=P->X.w=w->X.K=K->X.mg=mg->X.base=base->SX X (defScope st) N N k->X.xe=(λ_ _=>False)->Y1 X (defBody st) F) :
 FnD P w K mg base (k+1) x ps.length (jb N.length F):=by
 obtain⟨f,fd,z,J,hm⟩:=A.ex;have S:=ko hd;refine⟨f,fd,ps,rfl,zdk z S λcdv A outer s H E O=>?_,hm,z.kp,.all J⟩;exact I _ rfl rfl rfl rfl rfl ⟨rfl,rfl,S.nd,rfl,O,λ_ _=> .inl rfl⟩ rfl
theorem def_mk{h:Heap}{x:Str}{st:Stmt}{ps:List Str}{f:Addr}{oc:Value}{od an:Option Addr}{osl:Array (Option Value)}{kV doc pm cdv ct:Value}(z:K.In h)(G:h.Ns mainGlobals mg)
 (a:ziI K mainGlobals x=some (some (.ref f))) (l:K.lookup f=some ⟨oc,od,.func (PySem.W.fnOf x x (defArgs st) (defBody st) (defScope st) .none kV doc pm an cdv ct),osl⟩)
 (c:PySem.W.codeIn K cdv x=true) (kp:PySem.W.keepIn K (.ref f)=true)
 (b : ∀(kV doc pm:Value) (an:Option Addr) (cdv ct:Value) (us:List Value),us.length=ps.length->bindArgs (PySem.W.fnOf x x (defArgs st) (defBody st) (defScope st) .none kV doc pm an cdv ct) ⟨us,[]⟩=pure (ps.zip us)):DefAt K mg x st ps:=
 ⟨f,_,QG l c kp,b kV doc pm an cdv ct,zji z G a⟩
theorem zeZ{x:Str}{st:Stmt}{f:Addr}{fd:FuncData}{N ps:List Str}{k:Nat}{F:CO Fl}(z:L2.Fun K x x st f fd)(hd:JR N ps st=true)
 (I : ∀X:Cx,X.prog=P->X.w=w->X.K=K->X.mg=mg->X.base=base->SX X (defScope st) N N k->X.xe=(λ_ _=>False)->Y1 X (defBody st) F) :
 FnOk P w K mg base CX0 (k+1) f fd ps (spF K ps.length (jb N.length F)):=by
 have S:=ko hd;exact zdk z S λcdv A outer s H E J=>I _ rfl rfl rfl rfl rfl ⟨rfl,rfl,S.nd,rfl,J,λ_ _=> .inl rfl⟩ rfl
theorem law_true{F:List D->Option Res}{H:Hp}{a:Addr}{ns:List Int}(z:SqL K H a (ns.map V.int))(I:F [.lst (ns.map D.int)]=some (.val (.bl true))) :
 spF K 1 F [.ref a] H (λv _=>v = .bl true) λ_ _ _=>False:=by
 refine⟨H,[.lst (ns.map D.int)],.val (.bl true),Same.refl _,Reps.cons (Ju z ?_) Reps.nil,rfl,I,λv H' H0' _ r=>r⟩;clear I z
 induction ns with
 | nil=>exact Reps.nil
 | cons n ns J=>exact Reps.cons rfl J
end
end DL
namespace DL
open PySem PySem.Spec PyProof.Rows L2
open AutoSeq1 (wpAny_loadPart')
theorem yq:fillsNumberSlot (.type "tuple") "mul" = pure false:=
 PySem.fillsNumberSlot_seq (id:="tuple.__mul__") (r:=some (.builtin "tuple.__rmul__")) ziH.lookup ⋯ F.slot_tuple_rmul.lookup ⋯
theorem ZG:seqRepeat? (.type "tuple")=pure (some (.builtin "tuple.__mul__")):=by
 unfold seqRepeat?;rw [PySem.seqSlot_of (T:="tuple") (name:="__mul__") (id:="tuple.__mul__") ziH.lookup ⋯,PySem.seqSlot_of (T:="tuple") (name:="__rmul__") (id:="tuple.__rmul__") F.slot_tuple_rmul.lookup ⋯];rfl
theorem vP(a:Int)(t:Tok)(l:Addr)(items:Array Value)(n:Nat)(z:Option Addr)(sl:Array (Option Value)) :
 Meets (Builtin.«int.__rmul__» ⟨[.int a t,.ref l],[]⟩) (λ_ R s=>s.heap.get? l=some {cls:= .type "tuple",dict:=z,data:= .seq items n,slots:=sl}/\R (.ok (.ret Value.notImplemented)) s):=
 .of_wp λprog w A R s h=>by obtain⟨I,g,d,tk,os⟩:=s;obtain⟨J,h⟩:=h;wp_walk;exact⟨_,rfl,h⟩
theorem wD(a:Int)(t:Tok)(l:Addr)(items:Array Value)(n:Nat)(I:Option Addr)(sl:Array (Option Value))(h1 : ¬(decide (a < -(2 ^ 63)) || decide (a>=2 ^ 63))=true)(h2 : ¬(items.isEmpty || a==1)=true)
 (J : ¬(decide (a<=0) || items.isEmpty)=true) (O : ¬((items.size:Int)*a>(2 ^ 63 - 1)/8)) (S : ¬Builtin.Tuple.tupleTooMany ((items.size:Int)*a)=true) (U:((zgm a.toNat items).foldl (· ++ ·) #[]).size<=sizeLine) :
 Meets (Builtin.«tuple.__mul__» ⟨[.ref l,.int a t],[]⟩) (λ_ R s=>s.heap.get? l=some {cls:= .type "tuple",dict:=I,data:= .seq items n,slots:=sl}/\
  R (.ok (.ret (.ref s.heap.objs.size))) {s with heap:=s.heap.push {cls:= .type "tuple",data:= .seq ((zgm a.toNat items).foldl (· ++ ·) #[])}}):=
 .of_wp λprog w A R s h=>by
  obtain⟨Y,g,d,tk,os⟩:=s;obtain⟨z,h⟩:=h
  wp_walk using zhS z
  rw [if_neg h1];refine zgi (zjd (s:=⟨Y,g,d,tk,os⟩) ⟨_,z,rfl,n,rfl⟩ ?_);dsimp only;rw [if_neg h2,if_neg J,if_neg O,if_neg S];refine zgi (m:=zhD _) (zg8 ?_ U);exact zgo ⟨_,rfl,h⟩
theorem vK(a:Int)(t:Tok)(l:Addr)(items:Array Value)(n:Nat)(I:Option Addr)(sl:Array (Option Value))(h1 : ¬(decide (a < -(2 ^ 63)) || decide (a>=2 ^ 63))=true)(h2 : ¬(items.isEmpty || a==1)=true)
 (J:(decide (a<=0) || items.isEmpty)=true) :
 Meets (Builtin.«tuple.__mul__» ⟨[.ref l,.int a t],[]⟩) (λ_ R s=>s.heap.get? l=some {cls:= .type "tuple",dict:=I,data:= .seq items n,slots:=sl}/\
  R (.ok (.ret (.ref s.heap.objs.size))) {s with heap:=s.heap.push {cls:= .type "tuple",data:= .seq #[]}}):=
 .of_wp λprog w A R s h=>by
  obtain⟨O,g,d,tk,os⟩:=s;obtain⟨z,h⟩:=h
  wp_walk using zhS z
  rw [if_neg h1];refine zgi (zjd (s:=⟨O,g,d,tk,os⟩) ⟨_,z,rfl,n,rfl⟩ ?_);dsimp only;rw [if_neg h2,if_pos J];refine zgi (m:=zhD _) (zg8 ?_ (zh5 _));exact zgo ⟨_,rfl,h⟩
theorem vJ(a:Int)(t:Tok)(l:Addr)(items:Array Value)(n:Nat)(I:Option Addr)(sl:Array (Option Value))(h1 : ¬(decide (a < -(2 ^ 63)) || decide (a>=2 ^ 63))=true)(h2:(items.isEmpty || a==1)=true) :
 Meets (Builtin.«tuple.__mul__» ⟨[.ref l,.int a t],[]⟩) (λ_ R s=>s.heap.get? l=some {cls:= .type "tuple",dict:=I,data:= .seq items n,slots:=sl}/\R (.ok (.ret (.ref l))) s):=
 .of_wp λprog w A R s h=>by
  obtain⟨J,g,d,tk,os⟩:=s;obtain⟨z,h⟩:=h
  wp_walk using zhS z
  rw [if_neg h1];refine zgi (zjd (s:=⟨J,g,d,tk,os⟩) ⟨_,z,rfl,n,rfl⟩ ?_);dsimp only;rw [if_pos h2];refine zgi (m:=zh7 _) ?_;unfold zh7;refine zgi (zi0 (T:="tuple") ⟨_,z,rfl⟩ (zgo ?_));rw [if_pos ⋯];exact zgi (zi6 (zgo ⟨_,rfl,h⟩))
section
variable{X:Cx}
def zce(K:PySem.W.Frag):R2:=λx y H Q=>∃l k xs,x = .ref l/\y = .int k/\SqT K H l xs/\ -(2 ^ 62)<=k/\k<2 ^ 62/\xs.length*k.toNat<=sizeLine/\(xs=[]\/k=1->Q (.ref l) H)/\
 ∀p,H p=none->Q (.ref p) (upd H p (.tup (zgm k.toNat xs).flatten))
theorem zaY:OpR X (binaryOp .Mult) (zce X.K):=by
 intro pins s σ H x y v u Q I rx ry h;obtain⟨l,k,xs,rfl,rfl,hq,h1,h2,hz,q1,q2⟩:=h;cases rx;obtain⟨t,rfl⟩:=ry;obtain⟨z,r,ht,z1⟩:=I.tuple hq;obtain⟨⟨cls,S,data,sl⟩,J,hc,n,hd⟩:=id ht;simp only at hc hd;subst hc hd;have ab:=r.length;have Y : ¬(decide (k < -(2 ^ 63)) || decide (k>=2 ^ 63))=true:=by simp;omega
 refine wpAny_binaryOp_repeat_ref (T:="tuple") (U:="int") ⋯ ⟨_,J,rfl⟩ (λs'=>typeIs_int s' k t) yq F.fills_int_mul F.slot_int_rmul ZG F.slot_int_index.lookup
  (zi7 F.slot_int_rmul (typeIs_int s k t) F.entry_int_rmul (F.args_int_rmul_2 _ _) (vP k t l z.toArray n S sl) ⟨J,rfl,⟨_,J,rfl⟩,?_⟩)
 have f0 : ∀m:Nat,List.foldl (λx1 Z=>x1++Z) #[] (zgm m z.toArray)=(zgm m z).flatten.toArray:=λm=>by
  have:=Z3 z m [];rw [List.nil_append]at this;exact this
 by_cases g2:(z.toArray.isEmpty || k==1)=true
 ·refine zi7 ziH ⟨_,J,rfl⟩ zjQ (zjI _ _) (vJ k t l z.toArray n S sl Y g2) ⟨J,⟨.ref l,H,I,rfl,q1 ?_⟩⟩
  rw [zhv]at g2;rcases g2 with g | g
  ·left
   have:z=[]:=by simpa using g
   exact(r.nil_iff).mp this
  ·right;simpa using g
 ·have a0:=g2
  simp only [zhv,not_or]at a0;have ac:z ≠ []:=by intro e;exact a0.1 (by rw [e];rfl)
  have af:0<z.length:=List.length_pos_iff.mpr ac;by_cases O:(decide (k<=0) || z.toArray.isEmpty)=true
  ·have hk:k.toNat=0:=by
    rw [zhv]at O;rcases O with g | g
    ·have:=of_decide_eq_true g;omega
    ·exact absurd g a0.1
   refine zi7 ziH ⟨_,J,rfl⟩ zjQ (zjI _ _) (vK k t l z.toArray n S sl Y g2 O) ⟨J,?_⟩;refine⟨.ref s.heap.objs.size,_,I.laid (t':=s.toks) (o:= .tup (zgm k.toNat xs).flatten) (λc ob q=>zgk _ q) (zgp _) ?_,rfl,q2 _ (I.hok.fresh (zgp _))⟩;rw [hk];exact⟨zh5 _,[],.nil,IsTupD.new _ _⟩
  ·have hk : ¬k<=0:=by intro g;exact O (by rw [zhv];exact .inl (decide_eq_true g))
   have hsz:z.length*k.toNat<=sizeLine:=by rw [<- ab];exact hz
   have ag:((z.toArray.size:Nat):Int)*k<=(sizeLine:Int):=by
    rw [zgs];have e:((z.length*k.toNat:Nat):Int)=(z.length:Int)*k:=by
     rw [Int.natCast_mul,ziM ⋯]
    omega
   have ah:sizeLine=16777216:=sizeLine_eq;have ae:(List.foldl (λx1 Z=>x1++Z) #[] (zgm k.toNat z.toArray)).size<=sizeLine:=by
    rw [f0,zgs,KR,zjJ];exact hsz
   refine zi7 ziH ⟨_,J,rfl⟩ zjQ (zjI _ _) (wD k t l z.toArray n S sl Y g2 O ⋯ (by unfold Builtin.Tuple.tupleTooMany;simp only [decide_eq_true_eq];omega) ae) ⟨J,?_⟩;rw [f0];refine⟨.ref s.heap.objs.size,_,I.laid (t':=s.toks) (o:= .tup (zgm k.toNat xs).flatten) (λc ob q=>zgk _ q) (zgp _) ?_,rfl,q2 _ (I.hok.fresh (zgp _))⟩;exact⟨by rw [KR,zjJ];exact hz,_,r.rep k.toNat,IsTupD.new _ _⟩
theorem zas{K:PySem.W.Frag}:Snd K (λx y H Q=>rI CMul (λi j=> .int (i*j)) x y H Q\/zce K x y H Q) qi:=λH0 H x y dx U d Q s J O z q=>by
 cases dx<;>cases U<;>simp [qi]at z
 ·obtain⟨e1,I⟩:=z
  subst I;exact .inl ⟨_,_,jD J,jD O,Wn e1,q _ H H0 (Ext.refl s) rfl⟩
 ·rename_i ds j
  obtain⟨⟨Y,Z⟩,rfl⟩:=z;obtain⟨a,xs,rfl,h1,h2⟩:=xk J;obtain⟨q1,q2⟩:=wZ Z;refine .inr ⟨a,j,xs,rfl,jD O,sameT s h1,q1,q2,ke (by rw [h2.length];exact Y),λe=>?_,λp S=>?_⟩
  ·refine q _ H H0 (Ext.refl s) ?_
   rcases e with e | e
   ·have I:ds=[]:=by
     have:=h2.length;rw [e]at this;exact zgX this.symm
    subst I;rw [show(zgm j.toNat ([]:List D)).flatten=[]by simp];exact j7 h1 h2
   ·subst e
    rw [show(zgm (1:Int).toNat ds).flatten=ds by simp];exact j7 h1 h2
  ·exact q _ _ _ (Ext.alloc s S _) (j7 (SqT.of zH) ((Qh h2 _).mono (z5 (jp s S) _)))
theorem jZ{a b:Expr}{pos:Pos}{fa fb:CO D}(ha:PV X a fa)(z:PV X b fb):PV X (.BinOp a .Mult b pos) (zm qi fa fb):=v6 (op_mul.or zaY) zas ha z
end
end DL
namespace DL
open PySem PySem.Spec PyProof.Rows L2
theorem RC.lendAt{K:PySem.W.Frag}{H0 H:Hp}{σ:St}{γ:Ctx}{i:Nat}{ds:List D}{a:Addr}{xs:List V}(r:RC K H0 H σ γ)(e:γ[i]? = some (.own ds))(h1:σ[i]? = some (some (.ref a)))(h2:H0 a=none)(Z:H a=some (.lst xs))(h4:Reps K H0 ds xs):RC K (L2.upd H0 a (.lst xs)) H σ (γ.set i (.val (.lst ds))):=by
 refine⟨λb o q=>?_,by simp [r.len],λj d g=>?_,λj es g=>?_,λj k b es fs e1 I e3 e4=>?_,⟨λj rows g=>?_,λj k r1 r2 e1 I=>?_⟩⟩
 ·by_cases z:b=a
  ·subst z;rw [zH]at q;rw [Z];exact q
  ·rw [zJ z]at q;exact r.sub b o q
 ·rcases zK g with⟨rfl,z,hl⟩ | ⟨J,z⟩
  ·cases z;exact⟨_,h1,Ju (SqL.of zH) (h4.mono (z5 h2 _))⟩
  ·obtain⟨v,O,g2⟩:=r.val j d z
   exact⟨v,O,g2.mono (z5 h2 _)⟩
 ·rcases zK g with⟨_,z,_⟩ | ⟨J,z⟩
  ·cases z
  ·obtain⟨b,ys,O,g2,g3,g4⟩:=r.own j es z
   refine⟨b,ys,O,?_,g3,g4.mono (z5 h2 _)⟩;rw [zJ (λq=>J (r.ne j i a es ds z e (by rw [O,q]) h1))];exact g2
 ·rcases zK e1 with⟨_,z,_⟩ | ⟨J,z1⟩
  ·cases z
  ·rcases zK I with⟨_,z,_⟩ | ⟨hk,z2⟩
   ·cases z
   ·exact r.ne j k b es fs z1 z2 e3 e4
 ·rcases zK g with⟨_,z,_⟩ | ⟨J,z⟩
  ·cases z
  ·obtain⟨b,bs,f1,U,Y⟩:=r.nst.1 j rows z
   have a7:=Y i ds a e h1;refine⟨b,bs,f1,U.move (z5 h2 _) (λc S=>by rw [zJ (λq=>a7 (by rw [<- q];exact S))];exact(U.at S).1) (λc S=>rfl),λk fs c e1 I=>?_⟩;rcases zK e1 with⟨_,z,_⟩ | ⟨_,z1⟩
   ·cases z
   ·exact Y k fs c z1 I
 ·rcases zK e1 with⟨_,z,_⟩ | ⟨_,z1⟩
  ·cases z
  ·rcases zK I with⟨_,z,_⟩ | ⟨_,z2⟩
   ·cases z
   ·exact r.nst.2 j k r1 r2 z1 z2
end DL
namespace L2
open PySem PySem.Spec PyProof.Rows
open AutoSeq1 (wpAny_loadPart')
section
variable{prog:Program}{w:World}{A:Around}{E:Value->Shared->Prop}{s:Shared}
theorem XF{z it l:Addr}{n:Nat}{xs:Array Value}{x O:Value}{Q:Value->Shared->Prop}(hz:IsEnum s.heap z it n O)(h1:ItAt .T s.heap it l n)(hl:SqAt .T s.heap l xs)(hx:xs[n]? = some x)(Y:z≠it)
 (hQ : ∀g,IsEnumOut g z it ((n:Int)+1) x s.heap.objs.size->ItAt .T g it l (n+1)->IsPair g s.heap.objs.size (.int n s.toks) x->g.objs.size=s.heap.objs.size+1->
   (∀c o,c≠z->c≠it->s.heap.get? c=some o->g.get? c=some o)->Q (.ref s.heap.objs.size) {s with heap:=g,toks:=s.toks+1}) :
 wpAny (model prog w) A (Builtin.«enumerate.__next__» ⟨[.ref z],[]⟩) (λak s'=>∃v,ak = .done (.ret v)/\Q v s') E s:=by
 refine zgi (m:=field (.ref z) 2) (zhj hz rfl (x:= .ref it) rfl ?_);refine zgi (m:=zgQ (.ref it)) (kz h1 hl hx λg1 al a3=>?_);have a4:IsEnum g1 z it n O:=a3.extBut _ _ Y hz;refine zgi (m:=field (.ref z) 3) (zhj a4 rfl (x:=rawInt n) rfl ?_);refine zgi (m:=field (.ref z) 4) (zhj a4 rfl (x:= .none) rfl ?_);refine zgi (m:=mkInt n) (wpAny_mkInt ?_);refine zgi (m:=setField (.ref z) 3 (rawInt ((n:Int)+1))) (zhw a4 ⋯ λg2 a5 a6=>?_);replace a5:IsEnum g2 z it ((n:Int)+1) O:=a5;refine zgi (m:=setField (.ref z) 4 .none) (zhw a5 ⋯ λS a7 a8=>?_);replace a7:IsEnum S z it ((n:Int)+1) O:=a7;refine zgi (m:=newTuple [.int n s.toks,x]) (wpAny_newTuple ?_);have Z:IsEnum (S.push {cls:= .type "tuple",data:= .seq #[.int n s.toks,x]}) z it ((n:Int)+1) O:=zgk _ a7;generalize a0:S.push {cls:= .type "tuple",data:= .seq #[.int n s.toks,x]}=J at Z;have y1:g1.objs.size=s.heap.objs.size:=a3.1;have y2:g2.objs.size=g1.objs.size:=a6.1;have y3:S.objs.size=g2.objs.size:=a8.1;have hsz:S.objs.size=s.heap.objs.size:=by rw [y3,y2,y1]
 have ap:z<s.heap.objs.size:=zgy hz;have aq:IsPair J s.heap.objs.size (.int n s.toks) x:=by
  show J.get? _=_;rw [<- a0,<- hsz];exact zgu _ rfl
 have y4:J.objs.size=s.heap.objs.size+1:=by rw [<- a0,zgW,hsz]
 have as : ∀c o,c≠z->c≠it->s.heap.get? c=some o->J.get? c=some o:=λc o I c2 e=>by
  rw [<- a0];exact zgk _ (a8.extBut _ _ I (a6.extBut _ _ I (a3.extBut _ _ c2 e)))
 have au:ItAt .T J it l (n+1):=al.at λo e=>by rw [<- a0];exact zgk _ (a8.extBut _ _ Y.symm (a6.extBut _ _ Y.symm e))
 refine zgi (m:=zha (.ref z)) ?_;unfold zha;refine zgi (zhj Z rfl (x:= .none) rfl (zgo ?_));simp only [if_true];refine zgi (zi6 (zgi (zhj Z rfl (x:=O) rfl ?_)));refine zgi (zhw Z ⋯ λg5 ab af=>?_);replace ab:IsEnum g5 z it ((n:Int)+1) x:=ab;rw [hsz];refine zgi (m:=zhE (.ref z) (.ref s.heap.objs.size)) ?_;unfold zhE;refine zgi (zhw ab ⋯ λg6 ac ag=>?_);replace ac:IsEnumOut g6 z it ((n:Int)+1) x s.heap.objs.size:=ac;refine zhw ac ⋯ λU ad ah=>?_;replace ad:IsEnumOut U z it ((n:Int)+1) x s.heap.objs.size:=ad;have up : ∀c o,c≠z->J.get? c=some o->U.get? c=some o:=λc o I e=>ah.extBut _ _ I (ag.extBut _ _ I (af.extBut _ _ I e));have y7:U.objs.size=s.heap.objs.size+1:=by
  have q5:g5.objs.size=J.objs.size:=af.1;have q6:g6.objs.size=g5.objs.size:=ag.1;have q7:U.objs.size=g6.objs.size:=ah.1;rw [q7,q6,q5,y4]
 exact zgi (wpAny_letGo (zgo ⟨_,rfl,hQ U ad (au.at λo e=>up _ o Y.symm e) (up _ _ (zhM ap) aq) y7 λc o I c2 e=>up c o I (as c o I c2 e)⟩))
theorem Yl{z it l:Addr}{n:Nat}{xs:Array Value}{I:Value}{Q:Fin->Shared->Prop}(J:A.handled=none)(O:IsEnum s.heap z it n I)(h1:ItAt .T s.heap it l n)(S:SqAt .T s.heap l xs)(hx:xs[n]? = none)
 (U : ∀g e,Heap.ExtBut it s.heap g->(∃o,g.get? e=some o/\o.cls = .type "StopIteration")->E (.ref e) {s with heap:=g}) :
 wpAny (model prog w) A (Builtin.«enumerate.__next__» ⟨[.ref z],[]⟩) Q E s:=
 zgi (m:=field (.ref z) 2) (zhj O rfl (x:= .ref it) rfl (zgi (m:=zgQ (.ref it)) (wU J h1 S hx U)))
end
def zbj(i:Addr):Obj:={cls:= .type "enumerate",data:= .fields #[.none,.bool false,.ref i,rawInt 0,.none,.none]}
def vk(h:Heap)(l:Addr):Heap:=zhc (zhc h (itO .T l)) (zbj h.objs.size)
theorem Yk(l:Addr)(xs:Array Value) :
 Meets (Builtin.«enumerate.__new__» ⟨[.type "enumerate",.ref l],[]⟩) (λ_ R s=>SqAt .T s.heap l xs/\R (.ok (.ret (.ref (s.heap.objs.size+1)))) {s with heap:=vk s.heap l}):=
 .of_wp λprog w A R s h=>by
  obtain⟨O,g,d,tk,os⟩:=s;obtain⟨S,h⟩:=h;have U:=sub_enumerate;have z:Heap.IsTuple (Shared.heap ⟨O,g,d,tk,os⟩) l xs:=S;obtain⟨o,I,J,m,hd⟩:=id z;obtain⟨cls,dct,Y,sl⟩:=o;simp only at J hd;subst J hd;simp only [vk,zbj,itO,zgW]at h
  wp_walk using zhS I
  refine wpAny_stack_any λst=>zgo ?_;split
  ·rename_i c _ _ _ _ _
   cases (c==ziF "enumerate")<;>(wp_walk using zhS I,zi1 z;exact⟨_,rfl,by simpa [zgW,ziN]using h⟩)
  ·wp_walk using zhS I,zi1 z
   exact⟨_,rfl,by simpa [zgW,ziN]using h⟩
def Ite(K:PySem.W.Frag)(a:Addr):It:=
 ⟨λi H=>∃xs,SqK .T K H a xs/\i<xs.length,
  λi H x H'=>∃p u,x = .ref p/\H p=none/\H'=upd H p (.tup [.int i,u])/\(∀xs,SqK .T K H a xs->xs[i]? = some u),
  λi H=>∃xs,SqK .T K H a xs/\xs.length<=i⟩
theorem kA{prog:Program}{w:World}{A:Around}{E:Value->Shared->Prop}{s:Shared}{z it:Addr}{n:Int}{O:Value}{Q:Value->Shared->Prop}(S:IsEnum s.heap z it n O)(h:Q (.ref z) s):wpAny (model prog w) A (pyIter (.ref z)) Q E s:=by
 have I:s.TypeIs (.ref z) "enumerate":=⟨_,S,rfl⟩;refine wpAny_pyIter_slot I F.slot_enumerate_iter (zhu F.slot_enumerate_iter I F.entry_enumerate_iter ?_ (F.args_enumerate_iter_1 _));have J:wpAny (model prog w) A.in1 (ret (.ref z)) (λJ s'=>∃v,J = .done (.ret v)/\∃T m,s'.TypeIs v T/\typeLookup (.type T) "__next__" = pure (some m)/\Q v s') E s:=zgo ⟨_,rfl,"enumerate",_,I,zif.lookup,h⟩;exact J
theorem X4{P:Program}{w:World}{K:PySem.W.Frag}{elts:List Expr}{x1:Nat}{tpos:Pos}{z it a:Addr}(aa:z≠it) :
 Turn P w K (.Tuple elts x1 tpos) (Ite K a) [z,it] z (λi h=>(∃S,IsEnum h z it i S)/\ItAt .T h it a i) where
 mem:=by simp
 obj:=λi h ⟨⟨S,J⟩,h1⟩ y hy=>by
  simp only [zgz,zgP,or_false]at hy;rcases hy with rfl | rfl
  ·exact⟨_,J,λv q=>by cases q⟩
  ·exact h1.obj
 keep:=λi h h' ⟨⟨S,J⟩,h1⟩ k=>⟨⟨S,k z ⋯ _ J⟩,h1.at λo e=>k it ⋯ o e⟩
 item:=by
  rintro X hP hw hK hc i pins s σ H E I Y ⟨⟨S,J⟩,h1⟩ ⟨xs,Z,ad⟩;subst hP hw hK;obtain⟨ae,a7,p1,z1⟩:=I.sq Z;have hx:xs[i]? = some xs[i]:=zgn ad;obtain⟨u1,af,ag⟩:=a7.get hx;have U:s.TypeIs (.ref z) "enumerate":=⟨_,J,rfl⟩;unfold pyNext;refine zgi (zii (zg9 (name:=zhg "__next__") U zif (zhu zif U F.entry_enumerate_next
   (XF J h1 p1 (x:=u1) (by simpa using af) aa λg a1 a2 a3 a4 a5=>zgo ⟨_,rfl,?_⟩) (F.args_enumerate_next_1 _))))
  refine wpAny_letOwnedTupleGo_enum a1 λg2 al a9=>?_;have lt : ∀{c o},s.heap.get? c=some o->s.heap.objs.size≠c:=λe=>zhM (zgy e);have am:IsPair g2 s.heap.objs.size (.int i s.toks) u1:=a9.extBut _ _ (lt J) a3;have kk : ∀b' u,b' ∉ [z,it]->s.heap.get? b'=some u->g2.get? b'=some u:=λb' u O e=>by
   simp only [zgz,zgP,or_false,not_or]at O;exact a9.extBut _ _ O.1 (a5 b' u O.1 O.2 e)
  have I1:Inv X pins σ (upd H s.heap.objs.size (.tup [.int i,xs[i]])) {s with heap:=g2,toks:=s.toks+1}:=
   I.turnLaid (fp:=[z,it]) kk Y (zgp _) ⟨by show 2<=sizeLine;decide,[.int i s.toks,u1],.cons ⟨_,rfl⟩ (.cons ag .nil),⟨_,am,rfl,_,rfl⟩⟩
  have ao:H s.heap.objs.size=none:=I.fresh;refine⟨.ref s.heap.objs.size,_,I1,rfl,⟨_,_,rfl,ao,rfl,λax ap=>by rw [I.sq_inj ap Z];exact hx⟩,?_,λb' O=>?_⟩
  ·exact⟨⟨_,by have:=al;rwa [show((i:Int)+1)=((i+1:Nat):Int)by omega]at this⟩,a2.at λo e=>a9.extBut _ _ aa.symm e⟩
  ·have aq:b'≠s.heap.objs.size:=by
    simp only [zgz,zgP,or_false]at O;rcases O with rfl | rfl
    ·exact(lt J).symm
    ·obtain⟨o,e,_⟩:=h1.obj;exact(lt e).symm
   rw [zJ aq];exact(Y b' O).1
 done:=by
  rintro X hP hw hK hc i pins s σ H E I Y ⟨⟨S,J⟩,h1⟩ ⟨xs,Z,hi⟩;subst hP hw hK;obtain⟨ae,a7,p1,z1⟩:=I.sq Z;have U:s.TypeIs (.ref z) "enumerate":=⟨_,J,rfl⟩;have l1:=a7.length;unfold pyNext;refine zgi (zii (zg9 (name:=zhg "__next__") U zif (zhu zif U F.entry_enumerate_next
   (Yl (show X.A.handled=none from I.ok.hd hc) J h1 p1 (by simp;omega) λg e hk he=>?_) (F.args_enumerate_next_1 _))))
  obtain⟨o,ho,av⟩:=he;refine zgi (zjW (T:="StopIteration") (b:=true) ⟨o,ho,av⟩ isSubtype_stop (zgo ⟨rfl,?_⟩));refine I.turnedL (t':=s.toks) (fp:=[z,it]) (λb' u O e=>?_) Y;simp only [zgz,zgP,or_false,not_or]at O;exact hk b' u O.2 e
 self:=λ_ _ _ _ _ st h=>kA st.1.choose_spec h
def zeT(K:PySem.W.Frag)(ta:TA):TI:=λσ H R=>ta σ H λvs H1=>∃a,vs=[.ref a]/\(∃xs,SqK .T K H1 a xs)/\R (Ite K a) H1
theorem zaT{X:Cx}{e1:Expr}{ta:TA}{p pos:Pos}{elts:List Expr}{x1:Nat}{tpos:Pos}(Y:Gl X "enumerate")(hm:X.mg "enumerate" = none)(ha:PA X [e1] ta)
 (Z:bootBuiltins "enumerate" = some (.type "enumerate")) (hs:starEach [e1] X.env=[(false,eval e1 X.env)]:=by rfl) :
 PI X (.Tuple elts x1 tpos) (.Call (.Name "enumerate" p) [e1] [] pos) (zeT X.K ta):=by
 intro pins s σ H R I h;refine Call_ (xX I Y hm Z (zho (thn (ha pos pins s σ H _ I h) λus s1 hZ=>?_) (by rw [hs];rfl) rfl));obtain⟨vs,H1,z,r1,q1⟩:=hZ;obtain⟨a,e,⟨xs,a4⟩,q⟩:=q1;subst e;obtain⟨w1,eu,a6⟩:=ym r1;subst eu;cases a6;obtain⟨a7,aa,O,z1⟩:=z.sq a4;have la:=O.lt;refine callType_new F.called_enumerate ⋯ (F.typeCall_enumerate_1 _) (F.newCall_enumerate_1 _) (λobj=>F.args_object_init_2 obj _) F.entry_enumerate_new (Yk a a7.toArray) ⟨O,?_⟩;have keep : ∀c o,s1.heap.get? c=some o->(vk s1.heap a).get? c=some o:=λc o e=>zgk _ (zgk _ e);have y1:(zhc s1.heap (itO .T a)).objs.size=s1.heap.objs.size+1:=zgW ..;have g0:ItAt .T (vk s1.heap a) s1.heap.objs.size a 0:=(wj .T s1.heap a).at λo e=>zgk _ e;have J:IsEnum (vk s1.heap a) (s1.heap.objs.size+1) s1.heap.objs.size 0 .none:=by
  have q:=zgu (zhc s1.heap (itO .T a)) (o:=zbj s1.heap.objs.size) rfl;rw [y1]at q;exact q
 refine⟨⟨_,J,rfl⟩,kA (s:={s1 with heap:=vk s1.heap a}) J ?_⟩;have I2:Inv X pins σ H1 {s1 with heap:=vk s1.heap a,toks:=s1.toks}:=z.kept keep;refine⟨_,[s1.heap.objs.size+1,s1.heap.objs.size],_,_,H1,rfl,I2,X4 (zhM (zhx _)),⟨⟨_,J⟩,g0⟩,λc S=>?_,q⟩;have U:s1.heap.objs.size<=c:=by
  simp only [zgz,zgP,or_false]at S;rcases S with rfl | rfl
  ·exact zhk _ _
  ·exact zgp _
 exact z.fpOk U (z.hok.fresh U)
end L2
namespace DL
open PySem PySem.Spec PyProof.Rows L2
theorem XZ{K:PySem.W.Frag}{H0 Hs:Hp}{a:Addr}{xs:List V}{ds:List D}(h:SqT K Hs a xs)(r:Reps K H0 ds xs):Walk K H0 Hs (Ite K a) (j9 ds):=by
 have U:=r.length;have Y:(j9 ds).length=ds.length:=by simp [j9]
 refine⟨λi H1 s hi=>?_,λH1 s=>?_,λi H1 x H1' s hi y=>?_⟩
 ·exact⟨xs,sameT s h,by omega⟩
 ·exact⟨xs,sameT s h,by omega⟩
 ·obtain⟨p,u,e1,z,I,J⟩:=y
  obtain⟨d,hd,O⟩:=r.getV (J xs (sameT s h));refine⟨.tup [.int i,d],?_,λG0 s1 s2=>⟨upd G0 p (.tup [.int i,u]),?_,?_⟩⟩
  ·have S:i<ds.length:=by omega
   unfold j9;rw [zg6,List.getElem?_range S,zg3,hd];rfl
  ·rw [I];exact Ext.alloc s2 z _
  ·rw [e1]
   exact j7 (SqT.of zH) (Reps.cons (show V.int i = .int i from rfl) (Reps.cons ((O.mono s1).mono (z5 (jp s2 z) _)) Reps.nil))
section
variable{X:Cx}{sc:Scope}{N L:List Str}{k:Nat}{a b c:Expr}{pos p:Pos}{f fa fb fc:CO D}
theorem zcw{elts:List Expr}{x1:Nat}{tpos:Pos}(h:SX X sc N L k)(c:yf sc "enumerate" = true)(z:X.mg "enumerate" = none)(ha:PV X a f)(J:starEach [a] X.env=[(false,eval a X.env)]:=by rfl) :
 PIF X (.Tuple elts x1 tpos) (.Call (.Name "enumerate" p) [a] [] pos) (wK f):=
 ZN (zaT (h.gl c).1 z (zT ha jF J) boot_enumerate J) λσ H R S=>by
  obtain⟨H0,γ,ds,rc,I,q⟩:=S;obtain⟨d,U,I⟩:=bind_some I;cases d with
  | tup es=>
   cases I;refine⟨H0,γ,_,rc,U,λv H' H0' x r=>?_⟩;obtain⟨Y,xs,rfl,O,g2⟩:=xk r;exact⟨Y,rfl,⟨xs,sameT x.sub O⟩,q _ H' H0' x (XZ O g2)⟩
  | _=>cases I
end
theorem kj : ∀{l:List Int} {us:List Value},Vals (l.map V.int) us->∀i,i<us.toArray.size->∃z u,us.toArray[i]? = some (.int z u)/\l[i]? = some z
 | [],us,r,i,hi=>by cases r;exact absurd hi (zgx _)
 | z::l,u::us,.cons r t,i,hi=>by
  cases i with
  | zero=>
   obtain⟨tk,rfl⟩:=r;exact⟨z,tk,by simp,by simp⟩
  | succ i=>
   obtain⟨I,J,e1,O⟩:=kj t i (by simpa using hi);exact⟨I,J,by simpa using e1,by simpa using O⟩
section
variable{K:PySem.W.Frag}{E0 E H0 H:Hp}{σ:St}{γ:Ctx}
theorem RS.freeze{i:Nat}{ds:List D}(r:RS K E0 E H0 H σ γ)(e:γ[i]? = some (.own ds)) : ∃H0',RS K E0 E H0' H σ (γ.set i (.val (.lst ds))):=by
 obtain⟨a,xs,h1,h2,S,U⟩:=r.rc.own i ds e;have Y:=r.fresh i ds a e h1;obtain⟨H0',s0,O⟩ : ∃H0',H0'=upd H0 a (.lst xs)/\RC K H0' H σ (γ.set i (.val (.lst ds))):=by
  refine⟨_,rfl,?_⟩;exact RC.lendAt r.rc e h1 h2 S U
 subst s0;refine⟨_,O,⟨r.ext.s0.trans (z5 h2 _),r.ext.s1,O.sub,λc Z I=>?_⟩,λj es b J g2=>?_,λj rows b ys J g2 g3=>?_⟩
 ·rw [zJ (λz=>by rw [z,Y]at I;exact I rfl)];exact r.ext.new c Z I
 ·rcases zK J with⟨_,z,_⟩ | ⟨_,z⟩
  ·cases z
  ·exact r.fresh j es b z g2
 ·rcases zK J with⟨_,z,_⟩ | ⟨_,z⟩
  ·cases z
  ·exact r.fr2 j rows b ys z g2 g3
end
section
variable{X:Cx}{st:Stmt}{F:CO Fl}
theorem Kx(i:Nat)(h:PSD X st F):PSD X st (zbH i F):=xR h λD σ H I=>by
 obtain⟨E0,E,H0,γ,J,O,z,S⟩:=I;obtain⟨ds,e1,z⟩:=bind_some z;obtain⟨H0',U⟩:=O.freeze (xz e1);exact⟨E0,E,H0',_,J,U,z,S⟩
end
section
variable{X:Cx}{sc:Scope}{N L:List Str}{k:Nat}{o e a b:Expr}{apos cpos pos p:Pos}{f g:CO D}{q:CO (Sk×List D)}
theorem wH{x:Str}(h:jk x=true):x.length<=1000:=of_decide_eq_true h
theorem v0{x:Str}(h:jk x=true):x.length<=sizeLine:=zhh (wH h) ⋯
theorem Vr(ha:PV X a f)(S:PV X b g)(U:JZ b:=by intro _ _;rfl):PV X (.Subscript a b pos) (Zz f g):=
 jQ (zcF zda ha S U) λσ H Q Y=>by
  obtain⟨H0,γ,d,rc,I,q⟩:=Y;obtain⟨Z,e1,I⟩:=bind_some I;obtain⟨i,J,I⟩:=bind_some I;obtain⟨di,e3,J⟩:=bind_some J;cases Z with
  | str z=>
   by_cases O:jk z=true
   ·have I:(if jk z=true then (ixD z.cps.toList.length i).bind λk=>z.cps.toList[k]?.map λc=>D.str ⟨#[c]⟩else none)=some d:=I
    rw [if_pos O]at I;obtain⟨j,e4,I⟩:=bind_some I;obtain⟨c,e5,rfl⟩:=zE I;refine⟨H0,γ,_,rc,e1,λv H' H0' x r=>⟨H0',γ,di,rc.ext x,e3,λv2 H2 a4 x2 r2=>?_⟩⟩;rw [qG J]at r2;refine⟨z,i,c,r,jD r2,v0 O,?_,q _ H2 a4 (x.trans x2) rfl⟩;unfold atI;rw [W2 e4];exact e5
   ·have I:(if jk z=true then (ixD z.cps.toList.length i).bind λk=>z.cps.toList[k]?.map λc=>D.str ⟨#[c]⟩else none)=some d:=I
    rw [if_neg O]at I;cases I
  | _=>cases I
theorem zaH(h:SX X sc N L k)(c:yf sc "len" = true)(z:X.mg "len" = none)(ha:PV X e f)(O:starEach [e] X.env=[(false,eval e X.env)]:=by rfl):PV X (.Call (.Name "len" p) [e] [] pos) (Js f):=
 jQ (xL Z7 (h.gl c).1 z PySem.boot_len (zT ha jF O) ⋯ ⋯ O rfl) λσ H Q S=>by
  obtain⟨H0,γ,d,rc,I,q⟩:=S;obtain⟨U,e1,I⟩:=bind_some I;cases U with
  | str z=>
   by_cases J:jk z=true
   ·have I:(if jk z=true then some (D.int z.length)else none)=some d:=I
    rw [if_pos J]at I;cases I;refine⟨H0,γ,_,rc,e1,λv H' H0' x r=>⟨z,by rw [show v = .str z from r],v0 J,q _ H' H0' x rfl⟩⟩
   ·have I:(if jk z=true then some (D.int z.length)else none)=some d:=I
    rw [if_neg J]at I;cases I
  | _=>cases I
end
section
variable{X:Cx}{sc:Scope}{N L:List Str}{k:Nat}{b:Expr}{f:CO D}
theorem zcl{a:Expr}{g:CO D}{p pos:Pos}(h:SX X sc N L k)(c:yf sc "min" = true)(z:X.mg "min" = none)(ha:PV X a f)(U:PV X b g)(S:starEach [a,b] X.env=[(false,eval a X.env),(false,eval b X.env)]:=by rfl)(J:starEach [b] X.env=[(false,eval b X.env)]:=by rfl) :
 PV X (.Call (.Name "min" p) [a,b] [] pos) (zaB f g):=
 jQ (xL (YF h.calm) (h.gl c).1 z PyProof.Rows.boot_min (zT ha (zT U jF J) (by rw [S,J])) ⋯ ⋯ (by rw [S,J]) (by rw [J];rfl)) λσ H Q Y=>by
  obtain⟨H0,γ,d,rc,I,q⟩:=Y;obtain⟨i,e1,I⟩:=bind_some I;obtain⟨Z,e0,e1⟩:=bind_some e1;obtain⟨j,O,I⟩:=zE I;obtain⟨d2,e2,O⟩:=bind_some O;subst I;refine⟨H0,γ,Z,rc,e0,λv H' H0' x r=>⟨H0',γ,d2,rc.ext x,e2,λv2 H2 a3 x2 r2=>⟨i,j,?_,q _ H2 a3 (x.trans x2) rfl⟩⟩⟩;rw [qG e1]at r;rw [qG O]at r2;rw [jD r,jD r2]
end
def zeH(c:Xn)(od:Option Addr)(H0:Hp):Prop:=match c.2 with
 | none=>od=none
 | some i=>∃d,od=some d/\H0 d=some (.xd [(zgc c.1,.int i)])
def spX(K:PySem.W.Frag)(n:Nat)(G:List D->Option Xn):Sp:=λvs H _ E=>∃H0 ds c,Same H0 H/\Reps K H0 ds vs/\ds.length=n/\G ds=some c/\
 ∀C H' H0' od,xAll K=true->c.1∈xNames->xCls K c.1=some C->zeH c od H0'->Ext H0 H H0' H'->E (.ref C) od H'
section ap
variable(γ:Ctx)
@[simp] theorem yH(f):zz f γ=(f γ).bind js:=rfl
@[simp] theorem QU(f):ja f γ=(f γ).map D.lst:=rfl
@[simp] theorem zbC(f):jh f γ=(f γ).map λds=>(Sk.L,ds):=rfl
@[simp] theorem qx(i):zc i γ=JU γ[i]? :=rfl
@[simp] theorem qL(i):zf i γ=xy γ[i]? :=rfl
@[simp] theorem yi(d):zh d γ=some d:=rfl
@[simp] theorem YS(F a b):zm F a b γ=(a γ).bind λx=>(b γ).bind λy=>F x y:=rfl
@[simp] theorem zfP(f):sB f γ=(f γ).bind asB:=rfl
@[simp] theorem zfq(f g):wL f g γ=(f γ).bind λb=>if b=true then g γ else some false:=rfl
@[simp] theorem zdA(f g):zaA f g γ=(f γ).bind λb=>if b=true then some true else g γ:=rfl
@[simp] theorem zfd(f):qN f γ=(f γ).map λb=> !b:=rfl
@[simp] theorem zfN(f g):Vm f g γ=((f γ).bind asB).bind λb=>if b=true then g γ else some (.bl false):=rfl
@[simp] theorem zgd(f g):sOr f g γ=((f γ).bind asB).bind λb=>if b=true then some (.bl true)else g γ:=rfl
@[simp] theorem zfI(f):zb9 f γ=((f γ).bind asB).map λb=> .bl (!b):=rfl
@[simp] theorem W7(c f g):ZB c f g γ=(c γ).bind λb=>if b=true then f γ else g γ:=rfl
@[simp] theorem yh:zu γ=some []:=rfl
@[simp] theorem xA(f g):za f g γ=(f γ).bind λx=>(g γ).map λr=>x::r:=rfl
@[simp] theorem zdw(f):ju f γ=(f γ).bind λds=>if ds.length<=lim then some (.tup ds)else none:=rfl
@[simp] theorem zfg(f):jX f γ=(f γ).bind λds=>if ds.length<=lim then some ds else none:=rfl
@[simp] theorem zfe:jP γ=some (.next γ):=rfl
@[simp] theorem W6(f):jO f γ=(f γ).map λd=> .ret (.val d):=rfl
@[simp] theorem YR(f):qy f γ=(f γ).map λd=> .ret (.own d):=rfl
@[simp] theorem zfb(i):yo i γ=Zf γ[i]? :=rfl
@[simp] theorem zfn:Vk γ=some (.cont γ):=rfl
@[simp] theorem zfj(k F G):sIf k F G γ=(k γ).bind λb=>if b=true then F γ else G γ:=rfl
@[simp] theorem Je(i f):zO i f γ=(f γ).map λd=> .next (γ.set i (.val d)):=rfl
@[simp] theorem JW(i f):qJ i f γ=(f γ).map λds=> .next (γ.set i (.own ds)):=rfl
@[simp] theorem vy(i f):qp i f γ=(qu γ[i]?).bind λds=>(f γ).bind λd=>if ds.length<lim then some (.next (γ.set i (.own (ds++[d]))))else none:=rfl
@[simp] theorem yd(F g):zw F g γ=(g γ).bind λds=>(F ds).map zdJ:=rfl
@[simp] theorem Wu(F g):zQ F g γ=(g γ).bind λds=>(F ds).bind zbI:=rfl
@[simp] theorem kS(f):zB f γ=(f γ).map (·.2):=rfl
@[simp] theorem vx(f):zY f γ=((f γ).bind asI).bind λn=>if inR n=true then some (qB 0 n.toNat)else none:=rfl
@[simp] theorem zdz(f g):x6 f g γ=((f γ).bind asI).bind λm=>((g γ).bind asI).bind λn=>if inR m=true/\inR n=true then some (qB m (n - m).toNat)else none:=rfl
@[simp] theorem zfF(f g):Jq f g γ=((f γ).bind js).bind λm=>((g γ).bind js).map λn=>vH m.2 n.2:=rfl
@[simp] theorem Jg(src T F):xK src T F γ=(src γ).bind λds=>qh T F ds γ:=rfl
@[simp] theorem yc(src T n fr k f):zC src T n fr k f γ=(src γ).bind λds=>if ds.length<=lim then zG T k f (z4 n fr γ) ds else none:=rfl
@[simp] theorem zfG:z6 γ=some true:=rfl
@[simp] theorem zfo(f g):xQ f g γ=(f γ).bind λa=>(g γ).bind λb=>match a.1,b.1 with
 | .L,.L=>if a.2.length+b.2.length<=lim then some (a.2++b.2)else none
 | _,_=>none:=rfl
@[simp] theorem zfc(f g):zaz f g γ=(f γ).bind λa=>((g γ).bind asI).bind λj=>match a.1 with
 | .L=>if a.2.length*j.toNat<=lim/\inR j=true then some (zgm j.toNat a.2).flatten else none
 | _=>none:=rfl
@[simp] theorem Jf(f g):sIx f g γ=(f γ).bind λa=>((g γ).bind asI).bind λi=>(ixD a.2.length i).bind λk=>a.2[k]? :=rfl
@[simp] theorem zd4(i g f):Kj i g f γ=(f γ).bind λd=>(qu γ[i]?).bind λds=>((g γ).bind asI).bind λk=>(ixD ds.length k).map λj=> .next (γ.set i (.own (ds.set j d))):=rfl
@[simp] theorem zfJ:XT γ=some none:=rfl
@[simp] theorem zfp(f):sBd f γ=((f γ).bind asI).map some:=rfl
@[simp] theorem zdy(f l h):Qd f l h γ=(f γ).bind λd=>(l γ).bind λlo=>(h γ).bind λhi=>match d with
 | .tup xs=>some (.tup (QM xs lo hi))
 | _=>none:=rfl
@[simp] theorem zfK(f):xV f γ=(f γ).map λa=> .int a.2.length:=rfl
@[simp] theorem zge(T f):sIs T f γ=(f γ).map λd=> .bl (W3 T d):=rfl
@[simp] theorem XO(f):zM f γ=(f γ).map λa=> .tup a.2:=rfl
@[simp] theorem zdB(f):x9 f γ=(f γ).map λa=>a.2:=rfl
@[simp] theorem zfH(f):zay f γ=(f γ).bind λa=>(XS a.2).map D.int:=rfl
@[simp] theorem zfO(f):zaC f γ=(f γ).bind λa=>(kY a.2).map λs=> .bl (s.all id):=rfl
@[simp] theorem zfM(f):WJ f γ=(f γ).bind λa=>(kY a.2).map λs=> .bl (s.any id):=rfl
@[simp] theorem zfi(f):Kk f γ=(f γ).bind λd=>match d with
 | .int i=>some (.int i)
 | .bl b=>some (.int (if b then 1 else 0))
 | _=>none:=rfl
@[simp] theorem zfa(f):Vj f γ=(f γ).map λa=> !a.2.isEmpty:=rfl
theorem zN(F G):zF F G γ=(F γ).bind λz=>match z with
 | .next γ'=>G γ'
 | f=>some f:=rfl
end ap
@[simp] theorem YN(ds):js (.tup ds)=some (.T,ds):=rfl
@[simp] theorem QT(ds):js (.lst ds)=some (.L,ds):=rfl
@[simp] theorem zZ(d):JU (some (.val d))=some d:=rfl
@[simp] theorem jz(d):xy (some (.val d))=js d:=rfl
@[simp] theorem zbu(d):xy (some (.own d))=some (.L,d):=rfl
@[simp] theorem qt(d):qu (some (.own d))=some d:=rfl
@[simp] theorem zbv(d):Zf (some (.val d))=some (.ret (.val d)):=rfl
@[simp] theorem zbw(d):Zf (some (.own d))=some (.ret (.own d)):=rfl
@[simp] theorem zfE(b):asB (.bl b)=some b:=rfl
@[simp] theorem qw(b):asI (.int b)=some b:=rfl
@[simp] theorem kq(d):zdJ (.val d)=d:=rfl
@[simp] theorem zdI(d):zdJ (.own d) = .lst d:=rfl
@[simp] theorem wM(d):zbI (.own d)=some d:=rfl
@[simp] theorem zdX(i j):kf (.int i) (.int j)=some (.int (i - j)):=rfl
@[simp] theorem QJ(i j):jo (.int i) (.int j)=some (.int (i+j)):=rfl
@[simp] theorem zdZ(i j):qa (.int i) (.int j)=if 0<j then some (.int (i%j))else none:=by
 show(if zd1 i j=true then _ else _)=_;simp [zd1]
@[simp] theorem Wh(i j):Z5 (.int i) (.int j)=if 0<j/\j<1073741824 then some (.int (i/j))else none:=by
 show(if zds i j=true then _ else _)=_;have e:(zds i j=true)=(0<j/\j<1073741824):=by
  unfold zds;rw [Bool.and_eq_true,decide_eq_true_eq,decide_eq_true_eq];apply propext;constructor<;>intro h<;>exact⟨h.1,by omega⟩
 simp only [e]
@[simp] theorem Wg(i j):qi (.int i) (.int j)=if vF i j=true then some (.int (i*j))else none:=rfl
@[simp] theorem zdY(i j):zbo (.int i) (.int j)=if zdr i j=true then some (.int (i ^ j.toNat))else none:=rfl
@[simp] theorem ze3(i j):dLt (.int i) (.int j)=some (.bl (decide (i<j))):=rfl
@[simp] theorem ze4(i j):dLe (.int i) (.int j)=some (.bl (decide (i<=j))):=rfl
@[simp] theorem ze5(i j):dGt (.int i) (.int j)=some (.bl (decide (j<i))):=rfl
@[simp] theorem ze6(i j):dGe (.int i) (.int j)=some (.bl (decide (j<=i))):=rfl
@[simp] theorem ze7(i j):dEq (.int i) (.int j)=some (.bl (decide (i=j))):=by
 unfold dEq;rw [if_pos ⟨rfl,rfl⟩];exact congrArg (λb=>some (D.bl b)) (by rw [zhZ];simp [eqD])
@[simp] theorem ze2(i j):dNe (.int i) (.int j)=some (.bl (!decide (i=j))):=by
 unfold dNe;rw [if_pos ⟨rfl,rfl⟩];exact congrArg (λb=>some (D.bl !b)) (by rw [zhZ];simp [eqD])
@[simp] theorem zb8(i is d ds γ):j6 (i::is) (d::ds) γ=j6 is ds (γ.set i (.val d)):=rfl
@[simp] theorem zb7(ds γ):j6 [] ds γ=γ:=by cases ds<;>rfl
@[simp] theorem qF(i d γ):qv (.nm i) d γ=some (γ.set i (.val d)):=rfl
@[simp] theorem kO(i j a b γ):qv (.tp [i,j]) (.tup [a,b]) γ=some ((γ.set i (.val a)).set j (.val b)):=rfl
@[simp] theorem qT(γ:Ctx)(G:CO Fl):(some (Fl.next γ)).bind (λz=>match z with
 | .next γ'=>G γ'
 | f=>some f)=G γ:=rfl
theorem QQ(i j:Int)(h1 : -(2 ^ 64)<j)(h2:j<2 ^ 64):vF i j=true:=by
 unfold vF;rw [zhv];right;exact decide_eq_true ⋯
theorem qP(i j:Int)(h1 : -(2 ^ 64)<i)(h2:i<2 ^ 64):vF i j=true:=by
 unfold vF;rw [zhv];left;exact decide_eq_true ⋯
theorem QC{i:Int}(h1 : -(2 ^ 62)<i)(h2:i<2 ^ 62):inR i=true:=by
 unfold inR;exact decide_eq_true ⋯
@[simp] theorem j4(n k:Nat):ixD n (k:Int)=if k<n then some k else none:=by
 unfold ixD;by_cases h:k<n
 ·rw [if_pos ⟨Int.natCast_nonneg k,by omega⟩,if_pos h];simp
 ·rw [if_neg ⋯,if_neg ⋯,if_neg h]
theorem jf:lim=2500:=rfl
@[simp] theorem zdV:0<=lim:=zh5 _
@[simp] theorem zdU:1<=lim:=by decide
@[simp] theorem zdT:2<=lim:=by decide
@[simp] theorem zdS:3<=lim:=by decide
@[simp] theorem zdR:4<=lim:=by decide
@[simp] theorem zdQ:5<=lim:=by decide
@[simp] theorem zdP:6<=lim:=by decide
@[simp] theorem zdO:7<=lim:=by decide
@[simp] theorem zdN:8<=lim:=by decide
@[simp] theorem zdM:0<lim:=by decide
@[simp] theorem vi{n:Nat}(h:n<=lim):inR (n:Int)=true:=QC ⋯ (by have:=jf;omega)
@[simp] theorem ix0(n:Nat):ixD (n+1) 0=some 0:=j4 (n+1) 0 ▸ rfl
@[simp] theorem ix1(n:Nat):ixD (n+2) 1=some 1:=by
 have:=j4 (n+2) 1;simpa using this
@[simp] theorem ix2(n:Nat):ixD (n+3) 2=some 2:=by
 have:=j4 (n+3) 2;simpa using this
theorem zo{α:Type}{T:Tg}{k:CO Bool}{f:CO D}{γ:Ctx}{g:α->D}(r:α->D) : ∀(l:List α),(∀x∈l,zG T k f γ [g x]=some [r x])->zG T k f γ (l.map g)=some (l.map r)
 | [],_=>rfl
 | x::l,h=>by
  have h1:=h x zgI;have h2:=zo r l λy z=>h y (zgJ _ z);simp only [zgO,zG]at h1 ⊢;cases e1:qv T (g x) γ with
  | none=>rw [e1]at h1;simp at h1
  | some γ1=>
   rw [e1]at h1;simp only [zgq]at h1 ⊢;cases e2:k γ1 with
   | none=>rw [e2]at h1;simp at h1
   | some b=>
    rw [e2]at h1;simp only [zgq]at h1 ⊢;cases b with
    | false=>simp at h1
    | true=>
     simp only [if_pos]at h1 ⊢;cases e3:f γ1 with
     | none=>rw [e3]at h1;simp at h1
     | some e=>
      rw [e3]at h1;simp at h1;rw [h2];simp [h1]
theorem zq{k:CO Bool}{f:CO D}{γ γ1:Ctx}{T:Tg}{d e:D}(h1:qv T d γ=some γ1)(h2:k γ1=some true)(z:f γ1=some e):zG T k f γ [d]=some [e]:=by
 simp [zG,h1,h2,z]
theorem jA(T F d ds γ):qh T F (d::ds) γ=(qv T d γ).bind λγ1=>(F γ1).bind λI=>match I with
 | .next z=>qh T F ds z
 | .cont z=>qh T F ds z
 | .brk z=>some (.next z)
 | .ret r=>some (.ret r):=rfl
theorem qr{T:Tg}{F:CO Fl}(P:Nat->Ctx->Prop) : ∀(ds:List D) (k:Nat) (γ:Ctx),P k γ->(∀i d γ,ds[i]? = some d->P (k+i) γ->∃γ',((qv T d γ).bind F=some (.next γ')\/(qv T d γ).bind F=some (.cont γ'))/\P (k+i+1) γ')->
 ∃γ',qh T F ds γ=some (.next γ')/\P (k+ds.length) γ'
 | [],k,γ,h,_=>⟨γ,rfl,h⟩
 | d::ds,k,γ,h,step=>by
  obtain⟨γ1,e,h1⟩:=step 0 d γ rfl h;obtain⟨γ',z,h2⟩:=qr P ds (k+1) γ1 (by simpa using h1) (λi d' I hd J=>by
   have:=step (i+1) d' I (by simpa using hd) (by rw [show k+(i+1)=k+1+i by omega];exact J);rw [show k+(i+1)+1=k+1+i+1 by omega]at this;exact this)
  refine⟨γ',?_,by rw [show k+(d::ds).length=k+1+ds.length by simp;omega];exact h2⟩;rw [jA];cases eb:qv T d γ with
  | none=>rw [eb]at e;simp at e
  | some O=>
   rw [eb]at e;simp only [zgq]at e ⊢;rcases e with e | e<;>rw [e]<;>exact z
def zA(n:Nat)(f:Nat->Int):List D:=(zgj n).map λi=>D.int (f i)
theorem zU(n f):zA n f=(zgj n).map λi=>D.int (f i):=rfl
def zL(h w:Nat)(f:Nat->Nat->Int):List D:=(zgj h).map λi=>D.tup (zA w (f i))
def j5(h w:Nat)(f:Nat->Nat->Int):D:= .tup [.int h,.int w,.tup (zL h w f)]
@[simp] theorem qX(n f):(zA n f).length=n:=by simp [zA]
@[simp] theorem Zb(h w f):(zL h w f).length=h:=by simp [zL]
@[simp] theorem ze0{n i:Nat}(f)(h:i<(zA n f).length):(zA n f)[i] = .int (f i):=by simp [zA]
theorem xO{n i:Nat}(f)(h:i<n):(zA n f)[i]? = some (.int (f i)):=by simp [zA,h]
@[simp] theorem ze1{h w i:Nat}(f)(hi:i<(zL h w f).length):(zL h w f)[i] = .tup (zA w (f i)):=by simp [zL]
theorem kH{n:Nat}{f g:Nat->Int}(h : ∀i,i<n->f i=g i):zA n f=zA n g:=by
 unfold zA;apply zgD;intro i hi;rw [h i (zgl.mp hi)]
theorem jv(n:Nat):qB 0 n=zA n λi=>(i:Int):=by simp [qB,zA]
theorem ki(n:Nat)(f g:Nat->Int):vH (zA n f) (zA n g)=(zgj n).map λi=>D.tup [.int (f i),.int (g i)]:=by
 unfold vH zA;rw [zi2];simp
def sumTo(f:Nat->Int):Nat->Int
 | 0=>0
 | n+1=>sumTo f n+f n
theorem yL : ∀(xs:List Int) (y:Int),XS (xs.map D.int++[.int y])=(XS (xs.map D.int)).map λs=>s+y
 | [],y=>by simp [XS]
 | x::xs,y=>by
  simp only [zgO,zjM,XS];rw [yL xs y];cases e:XS (xs.map D.int)<;>simp [Int.add_assoc]
theorem Zv(f:Nat->Int) : ∀n,XS (zA n f)=some (sumTo f n)
 | 0=>rfl
 | n+1=>by
  have z:=Zv f n;have e : ∀m,zA m f=((zgj m).map f).map D.int:=λm=>by simp [zA]
  rw [e]at z ⊢;rw [zhi,zg4,zg4,List.map_singleton,List.map_singleton,yL,z];simp [sumTo]
def F_rests:List D->Option Res:=jb 2 (jO (zM (jh (zC (zB (zf 1)) (.nm 0) 1 [0] z6 (zm qa (zc 0) (zc 1))))))
def F_led:List D->Option Res:=jb 3 (jO (zw F_rests (za (zc 0) (za (ja (zC (zB (zz (sIx (zf 1) (zh (.int 2))))) (.nm 0) 1 [2] z6 (zay (jh (zC (Jq (zc 0) (zc 1)) (.tp [0,1]) 2 [] z6 (zm qi (zc 0) (zc 1))))))) zu))))
def F_turned_over:List D->Option Res:=jb 2 (zF (zO 1 (ja (zC (zY (sIx (zf 0) (zh (.int 1)))) (.nm 0) 1 [0] z6 (zM (jh (zC (zB (zz (sIx (zf 1) (zh (.int 2))))) (.nm 0) 1 [0] z6 (sIx (zf 0) (zc 1)))))))) (jO (ju (za (sIx (zf 0) (zh (.int 1))) (za (sIx (zf 0) (zh (.int 0))) (za (zM (zf 1)) zu))))))
def F_same_table:List D->Option Res:=jb 2 (zF (zO 1 (ja (zC (zY (zc 0)) (.nm 0) 1 [0] z6 (zM (jh (zC (zY (zc 1)) (.nm 0) 1 [0] z6 (ZB (sB (zm dEq (zc 1) (zc 0))) (zh (.int 1)) (zh (.int 0))))))))) (jO (ju (za (zc 0) (za (zc 0) (za (zM (zf 1)) zu))))))
def F_nought_table:List D->Option Res:=jb 2 (jO (ju (za (zc 0) (za (zc 1) (za (zm qi (ju (za (zm qi (ju (za (zh (.int 0)) zu)) (zc 1)) zu)) (zc 0)) zu)))))
def F_law_whole:List D->Option Res:=jb 1 (jO (Vm (sIs .int (zc 0)) (zb9 (sIs .bool (zc 0)))))
def F_inverse:List D->Option Res:=jb 3 (zF (xK (x6 (zh (.int 1)) (zc 0)) (.nm 2) (sIf (sB (zm dEq (zm qa (zm qi (zc 1) (zc 2)) (zc 0)) (zh (.int 1)))) (yo 2) jP)) ZA)
def F_cleared:List D->Option Res:=jb 5 (zF (zO 4 (sIx (zf 1) (zc 3))) (zF (sIf (sB (zm dEq (zc 4) (zh (.int 0)))) (yo 1) jP) (jO (zw F_rests (za (zc 0) (za (ja (zC (Jq (zc 1) (zc 2)) (.tp [0,1]) 2 [4] z6 (zm kf (zc 0) (zm qi (zc 2) (zc 1))))) zu))))))
def F_base_of:List D->Option Res:=jb 9 (zF (zO 3 (ja (zC (zB (zf 2)) (.nm 0) 1 [0] z6 (zw F_rests (za (zc 1) (za (zc 0) zu)))))) (zF (qJ 4 (jX zu)) (zF (xK (zY (zc 1)) (.nm 5) (zF (zO 6 (ja (zC (zB (zf 3)) (.nm 0) 1 [5] (sB (zm dNe (sIx (zf 0) (zc 1)) (zh (.int 0)))) (zc 0)))) (zF (sIf (qN (Vj (zf 6))) Vk jP) (zF (zO 7 (zw F_inverse (za (zc 0) (za (sIx (zz (sIx (zf 6) (zh (.int 0)))) (zc 5)) zu)))) (zF (zO 8 (zw F_rests (za (zc 0) (za (ja (zC (zB (zz (sIx (zf 6) (zh (.int 0))))) (.nm 0) 1 [7] z6 (zm qi (zc 1) (zc 0)))) zu)))) (zF (zO 3 (ja (zC (zB (zf 3)) (.nm 0) 1 [0,5,8] z6 (zw F_cleared (za (zc 1) (za (zc 0) (za (zc 3) (za (zc 2) zu)))))))) (qJ 4 (xQ (jh (zC (zB (zf 4)) (.nm 0) 1 [0,5,8] z6 (zw F_cleared (za (zc 1) (za (zc 0) (za (zc 3) (za (zc 2) zu))))))) (jh (jX (za (zc 8) zu))))))))))) (yo 4))))
def wv:List D->Option Res:=jb 13 (zF (zO 3 (ja (jX zu))) (zF (xK (zB (zz (zc 2))) (.nm 4) (zF (zO 5 (ja (x9 (zf 4)))) (zF (xK (zB (zz (zc 3))) (.tp [6,7]) (zF (zO 8 (sIx (zf 5) (zc 6))) (zO 5 (ja (zC (Jq (zc 5) (zc 7)) (.tp [0,1]) 2 [0,8] z6 (zm qa (zm kf (zc 0) (zm qi (zc 3) (zc 1))) (zc 2))))))) (zF (zO 9 (ja (zC (zY (zc 1)) (.nm 0) 1 [5] (sB (zm dNe (sIx (zf 1) (zc 0)) (zh (.int 0)))) (zc 0)))) (sIf (sB (zm dGt (xV (zf 9)) (zh (.int 0)))) (zF (zO 6 (sIx (zf 9) (zh (.int 0)))) (zF (zO 10 (sIx (jh (zC (x6 (zh (.int 1)) (zc 0)) (.nm 0) 1 [0,5,6] (sB (zm dEq (zm qa (zm qi (zc 0) (sIx (zf 2) (zc 3))) (zc 1)) (zh (.int 1)))) (zc 0))) (zh (.int 0)))) (zF (zO 5 (ja (zC (zB (zf 5)) (.nm 0) 1 [0,10] z6 (zm qa (zm qi (zc 2) (zc 0)) (zc 1))))) (zF (qJ 11 (jX zu)) (zF (xK (zB (zz (zc 3))) (.tp [12,7]) (zF (zO 8 (sIx (zf 7) (zc 6))) (qp 11 (ju (za (zc 12) (za (ja (zC (Jq (zc 7) (zc 5)) (.tp [0,1]) 2 [0,8] z6 (zm qa (zm kf (zc 0) (zm qi (zc 3) (zc 1))) (zc 2)))) zu)))))) (zO 3 (ja (Jr (jh (xQ (zf 11) (jh (jX (za (ju (za (zc 6) (za (zc 5) zu))) zu))))))))))))) jP))))) (qy (zC (zB (zf 3)) (.tp [0,1]) 2 [] z6 (zM (zf 1))))))
def F_behind_noughts:List D->Option Res:=jb 2 (qy (zC (zB (zf 1)) (.nm 0) 1 [0] (qN (sB (WJ (zz (Qd (zc 0) XT (sBd (zc 1))))))) (Qd (zc 0) (sBd (zc 1)) XT)))
def F_led_into:List D->Option Res:=jb 5 (zF (zO 3 (ja (zC (Jq (sIx (zz (zw F_turned_over (za (zc 1) zu))) (zh (.int 2))) (sIx (zz (zw F_same_table (za (sIx (zf 1) (zh (.int 1))) zu))) (zh (.int 2)))) (.tp [0,1]) 2 [] z6 (zm jo (zc 0) (zc 1))))) (zF (zO 4 (ja (zC (zB (zf 2)) (.nm 0) 1 [1] z6 (zm jo (zc 0) (zm qi (ju (za (zh (.int 0)) zu)) (sIx (zf 1) (zh (.int 1)))))))) (qy (zQ F_behind_noughts (za (sIx (zf 1) (zh (.int 0))) (za (ja (zQ F_base_of (za (zc 0) (za (zm jo (sIx (zf 1) (zh (.int 0))) (sIx (zf 1) (zh (.int 1)))) (za (ja (xQ (zf 3) (zf 4))) zu))))) zu))))))
def xc:List D->Option Res:=jb 2 (qy (zQ F_led_into (za (zc 0) (za (zc 1) (za (ja (jX zu)) zu)))))
def kg:List D->Option Res:=jb 2 (qy (zQ F_base_of (za (zc 0) (za (sIx (zf 1) (zh (.int 0))) (za (sIx (zz (zw F_turned_over (za (zc 1) zu))) (zh (.int 2))) zu)))))
def jJ:List D->Option Res:=jb 1 (jO (sIx (jh (zC (wK (zc 0)) (.tp [0,1]) 2 [] (sB (zm dNe (zc 1) (zh (.int 0)))) (zc 0))) (zh (.int 0))))
def xP:List D->Option Res:=jb 7 (zF (zO 3 (sIx (zf 1) (zh (.int 1)))) (zF (qJ 4 (zaz (jh (jX (za (zh (.int 0)) zu))) (zc 3))) (zF (xK (zB (zz (ja (zQ F_base_of (za (zc 0) (za (zm jo (zc 3) (zh (.int 1))) (za (ja (zC (Jq (sIx (zf 1) (zh (.int 2))) (zc 2)) (.tp [0,1]) 2 [] z6 (zm jo (zc 0) (ju (za (zc 1) zu))))) zu))))))) (.nm 5) (zF (zO 6 (zw jJ (za (zc 5) zu))) (zF (sIf (sB (zm dEq (zc 6) (zc 3))) (jO (zh .non)) jP) (Kj 4 (zc 6) (sIx (zf 5) (zc 3)))))) (jO (zM (zf 4))))))
section
variable(γ:Ctx)
@[simp] theorem zfl(f):wK f γ=(f γ).bind λd=>match d with
 | .tup ds=>some (j9 ds)
 | _=>none:=rfl
@[simp] theorem zd9(F G a b c):Qf F G a b c γ=(a γ).bind λx=>(b γ).bind λy=>((F x y).bind asB).bind λk=>if k=true then (c γ).bind λz=>G y z else some (.bl false):=rfl
@[simp] theorem YQ(T f):wI T f γ=(f γ).bind λd=>(qv T d γ).map .next:=rfl
end
section
variable(γ:Ctx)
@[simp] theorem W8(i F):zbH i F γ=(qu γ[i]?).bind λds=>F (γ.set i (.val (.lst ds))):=rfl
end
section
variable(γ:Ctx)
@[simp] theorem Wr(f g):Zz f g γ=(f γ).bind λd=>((g γ).bind asI).bind λi=>match d with
 | .str z=>if jk z=true then (ixD z.cps.toList.length i).bind λk=>z.cps.toList[k]?.map λc=> .str ⟨#[c]⟩else none
 | _=>none:=rfl
@[simp] theorem zbD(f):Js f γ=(f γ).bind λd=>match d with
 | .str z=>if jk z=true then some (.int z.length)else none
 | _=>none:=rfl
end
def vT:List D->Option Res:=jb 2 (jO (ZB (sB (zm dEq (zc 1) (zh (.str "r")))) (zc 0) (zm jo (zc 0) (zh (.int 1)))))
def Wx:List D->Option Res:=jb 2 (jO (ZB (sB (zm dEq (zc 1) (zh (.str "r")))) (zm jo (zc 0) (zh (.int 1))) (zc 0)))
def zeo(f:CO D):CO D:=λγ=>(f γ).map λd=> .bl (W3 .list d || W3 .tuple d)
def XR:List D->Option Res:=jb 1 (jO (Vm (sIs .int (zc 0)) (zb9 (sIs .bool (zc 0)))))
def Jk:List D->Option Res:=jb 2 (jO (Vm (zw XR (za (zc 1) zu)) (Qf dLe dLt (zh (.int 0)) (zc 1) (zc 0))))
def J3:List D->Option Res:=jb 2 (jO (Vm (zeo (zc 0)) (zm dEq (xV (zf 0)) (zc 1))))
section
variable{X:Cx}{sc:Scope}{N L:List Str}{k:Nat}{a e:Expr}{es:List Expr}{f:CO D}{g:CO (List D)}{pos p p2:Pos}
structure GL(K:PySem.W.Frag)(mg:Str->Option Value)(x:Str)(d:D):Prop where
 ex : ∃u v,mg x=some u/\RelV v u/\∀H,Rep K H d v
end
theorem ka{X:Cx}{es:List Expr}{n:Nat}{g:CO (List D)}(h:PAn X es n g):PAD X es g:=h.1
section
variable{K:PySem.W.Frag}{E0 E H0 H:Hp}{σ:St}{γ:Ctx}
theorem Reps.dropLast : ∀{ds:List D} {xs:List V},Reps K H ds xs->Reps K H ds.dropLast xs.dropLast
 | [],xs,r=>by rw [r.inv_nil];exact Reps.nil
 | [d],xs,r=>by
  obtain⟨x,r',e,_,r2⟩:=r.inv_cons;rw [e,r2.inv_nil];exact Reps.nil
 | d::d2::ds,xs,r=>by
  obtain⟨x,r',e,z,r2⟩:=r.inv_cons;obtain⟨J,O,I,_,_⟩:=r2.inv_cons;subst e I;exact Reps.cons z (Reps.dropLast r2)
end
end DL
namespace L2
open PySem PySem.Spec PyProof.Rows
theorem zeP(z:Str):strIterType z = "str_ascii_iterator"\/strIterType z = "str_iterator":=by unfold strIterType;split<;>simp
theorem Wb{X:Cx}{pins:List (Addr×Obj)}{σ:St}{H:Hp}{s:Shared}{E:Value->Shared->Prop}{z it:Addr}{i tk:Nat}{x:Value}{v:V}{g:Heap}{elts:List Expr}{x1:Nat}{tpos:Pos}{Q:Unit->Shared->Prop}
 (I:Inv X pins σ H s) (S : ∀b ∈ [z,it],FpOk X pins H b) (U:z<s.heap.objs.size) (hi:it<s.heap.objs.size) (Y:IsEnumOut g z it ((i:Int)+1) x s.heap.objs.size)
 (Z:IsPair g s.heap.objs.size (.int i tk) x) (a5 : ∀b o,b≠z->b≠it->s.heap.get? b=some o->g.get? b=some o) (rx:RelV v x)
 (a4 : ∀g2,IsEnum g2 z it ((i+1:Nat):Int) x->zh2 z g g2->Inv X pins σ (upd H s.heap.objs.size (.tup [.int i,v])) {s with heap:=g2,toks:=tk+1}->H s.heap.objs.size=none->
   (∀b ∈ [z,it],upd H s.heap.objs.size (.tup [.int i,v]) b=none)->Q () {s with heap:=g2,toks:=tk+1}) :
 wpAny (model X.prog X.w) X.A (letOwnedTupleGo (.Tuple elts x1 tpos) (.ref z) (.ref s.heap.objs.size)) Q E {s with heap:=g,toks:=tk+1}:=by
 refine wpAny_letOwnedTupleGo_enum Y λg2 a6 O=>?_;have a7:IsPair g2 s.heap.objs.size (.int i tk) x:=O.extBut _ _ (zhM U) Z;have kk : ∀b' u,b' ∉ [z,it]->s.heap.get? b'=some u->g2.get? b'=some u:=λb' u J e=>by
  simp only [zgz,zgP,or_false,not_or]at J;exact O.extBut _ _ J.1 (a5 b' u J.1 J.2 e)
 refine a4 g2 (by have:=a6;rwa [show((i:Int)+1)=((i+1:Nat):Int)by omega]at this) O (I.turnLaid (fp:=[z,it]) kk S (zgp _) ⟨by show 2<=sizeLine;decide,[.int i tk,x],.cons ⟨_,rfl⟩ (.cons rx .nil),⟨_,a7,rfl,_,rfl⟩⟩) I.fresh λb' J=>?_;have a8:b'≠s.heap.objs.size:=by
  simp only [zgz,zgP,or_false]at J;rcases J with rfl | rfl
  ·exact zgU U
  ·exact zgU hi
 rw [zJ a8];exact(S b' J).1
def zft(z:Str):It:=
 ⟨λi _=>i<z.cps.size,λi H x H'=>∃p c,x = .ref p/\H p=none/\H'=upd H p (.tup [.int i,.str ⟨#[c]⟩])/\z.cps[i]? = some c,λi _=>i=z.cps.size⟩
theorem Z4{prog:Program}{w:World}{A:Around}(z:A.handled=none)(it:Addr)(x:Str)(t:Tok) :
 Draws prog w A it [it] x.cps.size (λi v=>∃c u,x.cps[i]? = some c/\v = .str ⟨#[c]⟩ u) (λi h=>h.IsStrIter it (strIterType x) x t i):=by
 rcases zeP x with q | q
 ·rw [q];exact Draws.strAscii z it x t
 ·rw [q];exact Draws.strWide z it x t
theorem Q0{P:Program}{w:World}{K:PySem.W.Frag}{elts:List Expr}{x1:Nat}{tpos:Pos}{z it:Addr}(x:Str)(t:Tok)(S:z≠it) :
 Turn P w K (.Tuple elts x1 tpos) (zft x) [z,it] z (λi h=>(∃O,IsEnum h z it i O)/\h.IsStrIter it (strIterType x) x t i) where
 mem:=by simp
 obj:=λi h ⟨⟨O,J⟩,h1⟩ y hy=>by
  simp only [zgz,zgP,or_false]at hy;rcases hy with rfl | rfl
  ·exact⟨_,J,λv q=>by cases q⟩
  ·obtain⟨o,e,c,d⟩:=h1
   exact⟨o,e,λv q=>by rw [d]at q;cases q⟩
 keep:=λi h h' ⟨⟨O,J⟩,h1⟩ k=>⟨⟨O,k z ⋯ _ J⟩,by obtain⟨o,e,r⟩:=h1;exact⟨o,k it ⋯ o e,r⟩⟩
 item:=by
  rintro X rfl rfl rfl U i pins s σ H E I Y ⟨⟨O,J⟩,h1⟩ a7;have a8:it<s.heap.objs.size:=by obtain⟨o2,e2,_⟩:=h1;exact zgy e2
  have Z:=Z4 (prog:=X.prog) (w:=X.w) (A:=X.A.in1) (show X.A.in1.handled=none from I.ok.hd U) it x t;refine wpAny_pyNext_enum_itemD Z J h1 a7 S (by simp;exact S) λu g tk hP a1 a2 a3 a4 a5=>⟨_,rfl,?_⟩;obtain⟨c,tu,af,rfl⟩:=hP;refine Wb (v:= .str ⟨#[c]⟩) I Y (zgy J) a8 a1 a3 a5 ⟨_,rfl⟩ λg2 b1 b2 I1 ah hn=>⟨.ref s.heap.objs.size,_,I1,rfl,⟨_,_,rfl,ah,rfl,af⟩,⟨⟨_,b1⟩,?_⟩,hn⟩;obtain⟨o,e,r⟩:=a2;exact⟨o,b2.extBut _ _ S.symm e,r⟩
 done:=by
  rintro X rfl rfl rfl U i pins s σ H E I Y ⟨⟨O,J⟩,h1⟩ hi;have hi:i=x.cps.size:=hi;subst hi;have Z:=Z4 (prog:=X.prog) (w:=X.w) (A:=X.A.in1) (show X.A.in1.handled=none from I.ok.hd U) it x t;refine wpAny_pyNext_enum_endD Z J h1 λg hk=>⟨rfl,?_⟩;refine I.turnedL (t':=s.toks) (fp:=[z,it]) (λb' u hb e=>?_) Y;simp only [zgz,zgP,or_false,not_or]at hb;exact hk b' u hb.2 e
 self:=λ_ _ _ _ _ st h=>kA st.1.choose_spec h
def zdh(ta:TA):TI:=λσ H R=>ta σ H λvs H1=>∃z,vs=[.str z]/\R (zft z) H1
section
variable{X:Cx}{e1:Expr}{ta:TA}{p pos:Pos}{elts:List Expr}{x1:Nat}{tpos:Pos}
theorem VC(U:Gl X "enumerate")(hm:X.mg "enumerate" = none)(ha:PA X [e1] ta)
 (Y:bootBuiltins "enumerate" = some (.type "enumerate")) (Z:starEach [e1] X.env=[(false,eval e1 X.env)]:=by rfl) :
 PI X (.Tuple elts x1 tpos) (.Call (.Name "enumerate" p) [e1] [] pos) (zdh ta):=by
 intro pins s σ H R I h;refine Call_ (xX I U hm Y (zho (thn (ha pos pins s σ H _ I h) λus s1 hZ=>?_) (by rw [Z];rfl) rfl));obtain⟨vs,H1,J,r1,q1⟩:=hZ;obtain⟨z,rfl,q⟩:=q1;obtain⟨w1,rfl,a3⟩:=ym r1;obtain⟨t,rfl⟩:=a3;refine call_enumerate_str λg b1 b2 b3 b4=>kA (s:={s1 with heap:=g}) b1 ?_;refine⟨_,[s1.heap.objs.size+1,s1.heap.objs.size],_,_,H1,rfl,J.kept (t':=s1.toks) b4,Q0 z t (zhM (zhx _)),⟨⟨_,b1⟩,b2⟩,λc O=>?_,q⟩;have S:s1.heap.objs.size<=c:=by
  simp only [zgz,zgP,or_false]at O;rcases O with rfl | rfl
  ·exact zhk _ _
  ·exact zgp _
 exact J.fpOk S (J.hok.fresh S)
end
end L2
namespace DL
open PySem PySem.Spec PyProof.Rows L2
theorem Zx(z:Str):(qk z).length=z.cps.size:=by simp [qk]
theorem Vi(z:Str){i c:Nat}(h:z.cps[i]? = some c):(qk z)[i]? = some (.str ⟨#[c]⟩):=by simp [qk,h]
theorem QX{K:PySem.W.Frag}{H0 Hs:Hp}(z:Str):Walk K H0 Hs (zft z) (j9 (qk z)):=by
 have I:(j9 (qk z)).length=z.cps.size:=by simp [j9,Zx]
 refine⟨λi H1 s hi=>?_,λH1 s=>?_,λi H1 x H1' s hi y=>?_⟩
 ·rw [I]at hi;exact hi
 ·rw [I];exact rfl
 ·obtain⟨p,c,rfl,J,rfl,O⟩:=y
  refine⟨.tup [.int i,.str ⟨#[c]⟩],?_,λG0 s1 s2=>⟨upd G0 p (.tup [.int i,.str ⟨#[c]⟩]),Ext.alloc s2 J _,?_⟩⟩
  ·rw [I]at hi
   unfold j9;rw [zg6,List.getElem?_range (by rw [Zx];exact hi),zg3,Vi z O];rfl
  ·exact j7 (SqT.of zH) (Reps.cons (show V.int i = .int i from rfl) (Reps.cons (show V.str ⟨#[c]⟩ = .str ⟨#[c]⟩from rfl) Reps.nil))
section
variable{X:Cx}{sc:Scope}{N L:List Str}{k:Nat}{a b e:Expr}{pos p p2:Pos}{f fa fb:CO D}
theorem KA{elts:List Expr}{x1:Nat}{tpos:Pos}(h:SX X sc N L k)(c:yf sc "enumerate" = true)(z:X.mg "enumerate" = none)(ha:PV X a f)(J:starEach [a] X.env=[(false,eval a X.env)]:=by rfl) :
 PIF X (.Tuple elts x1 tpos) (.Call (.Name "enumerate" p) [a] [] pos) (ye f):=
 ZN (VC (h.gl c).1 z (zT ha jF J) boot_enumerate J) λσ H R S=>by
  obtain⟨H0,γ,ds,rc,I,q⟩:=S;obtain⟨d,U,I⟩:=bind_some I;cases d with
  | str z=>
   by_cases O:jk z=true
   ·have I:(if jk z=true then some (j9 (qk z))else none)=some ds:=I
    rw [if_pos O]at I;cases I;exact⟨H0,γ,_,rc,U,λv H' H0' x r=>⟨z,by rw [show v = .str z from r],q _ H' H0' x (QX z)⟩⟩
   ·have I:(if jk z=true then some (j9 (qk z))else none)=some ds:=I
    rw [if_neg O]at I;cases I
  | _=>cases I
theorem zaJ(ha:PV X a fa)(J:PV X b fb):PV X (.BinOp a .Add b pos) (Vl fa fb):=
 jQ (zaU Xl ha J) λσ H Q O=>by
  obtain⟨H0,γ,d,rc,z,q⟩:=O;obtain⟨x,e1,z⟩:=bind_some z;obtain⟨y,S,z⟩:=bind_some z;cases x with
  | str u=>
   cases y with
   | str w=>
    by_cases I:jk u=true/\jk w=true
    ·have z:(if jk u=true/\jk w=true then some (D.str (u++w))else none)=some d:=z
     rw [if_pos I]at z;cases z;refine⟨H0,γ,_,rc,e1,λv1 H1 U x1 Y=>⟨U,γ,_,rc.ext x1,S,λv2 H2 Z x2 r2=>⟨u,w,Y,r2,?_,q _ H2 Z (x1.trans x2) rfl⟩⟩⟩;have h1:=wH I.1;have h2:=wH I.2;have:2000<=sizeLine:=by decide
     omega
    ·have z:(if jk u=true/\jk w=true then some (D.str (u++w))else none)=some d:=z
     rw [if_neg I]at z;cases z
   | _=>cases z
  | _=>cases z
end
end DL
namespace DL
open PySem L2 PyProof.Rows
open PySem.W (KasT kas_sort kas_asc kas_desc kas_tail3 kas_descPart kas_count kas_place kas_bin kas_rev)
def Good{α:Type}(n:Nat)(P:α->Prop):KasT α->Prop
 | .ret a=>P a
 | .ask i j k=>i<n/\j<n/\∀b,Good n P (k b)
theorem Good.mono{α:Type}{n:Nat}{P z:α->Prop}(h : ∀a,P a->z a) : ∀{t:KasT α},Good n P t->Good n z t
 | .ret a,g=>h a g
 | .ask i j k,g=>⟨g.1,g.2.1,λb=>(g.2.2 b).mono h⟩
theorem Good.bind{α β:Type}{n:Nat}{P:α->Prop}{z:β->Prop}{f:α->KasT β}(I : ∀a,P a->Good n z (f a)) : ∀{t:KasT α},Good n P t->Good n z (t.bind f)
 | .ret a,g=>I a g
 | .ask i j k,g=>⟨g.1,g.2.1,λb=>(g.2.2 b).bind I⟩
theorem Good.run{α:Type}{n:Nat}{P:α->Prop}{lt:Nat->Nat->Bool} : ∀{t:KasT α},Good n P t->P (zeq lt t)
 | .ret a,g=>g
 | .ask i j k,g=>(g.2.2 _).run
def Pm(n:Nat)(p:Array Nat):Prop:=p.toList.Perm (zgj n)
theorem Pm.lt{n:Nat}{p:Array Nat}(h:Pm n p)(hn:0<n)(i:Nat):p.getD i 0<n:=by
 by_cases hi:i<p.size
 ·have e:p.getD i 0=p[i]:=by simp [Array.getD,hi]
  rw [e];exact zgl.mp (h.mem_iff.mp ⋯)
 ·have e:p.getD i 0=0:=by simp [Array.getD,hi]
  rw [e];exact hn
theorem Pm.rev{n:Nat}{p:Array Nat}(h:Pm n p)(i j:Nat):Pm n (kas_rev p i j):=(Array.perm_iff_toList_perm.mp (mirror_perm p i j _)).trans h
theorem Pm.bub{n:Nat}{p:Array Nat}(h:Pm n p)(i j:Nat):Pm n (bubble p i j):=(Array.perm_iff_toList_perm.mp (bubble_perm p i j)).trans h
theorem w4{n:Nat}{p:Array Nat}(h:Pm n p)(hn:0<n) : ∀f m,Good n (λ_=>True) (kas_asc p f m)
 | 0,m=>trivial
 | f+1,m=>⟨h.lt hn _,h.lt hn _,λb=>by
  cases b with
  | true=>exact trivial
  | false=>exact w4 h hn f (m+1)⟩
theorem kE{n:Nat}(hn:0<n) : ∀f p m q,Pm n p->Good n (λr=>Pm n r.1) (kas_desc f p m q)
 | 0,p,m,q,h=>h
 | f+1,p,m,q,h=>⟨h.lt hn _,h.lt hn _,λb=>by
  cases b with
  | true=>
   show Good n _ (if q>0 then _ else _);split
   ·exact kE hn f _ _ _ (h.rev _ _)
   ·exact kE hn f _ _ _ h
  | false=>exact⟨h.lt hn _,h.lt hn _,λd=>by
   cases d with
   | true=>exact h
   | false=>exact kE hn f _ _ _ h⟩⟩
theorem ZZ{n:Nat}(hn:0<n)(m r:Nat){p:Array Nat}(h:Pm n p):Good n (λr=>Pm n r.2) (kas_tail3 m r p):=by
 unfold kas_tail3;refine Good.bind (P:=λ_=>True) (λa _=>?_) (w4 (h.rev _ _) hn _ _);exact(show Pm n (kas_rev p 0 m)from h.rev _ _)
theorem Z0{n:Nat}(hn:0<n)(m r:Nat){p:Array Nat}(h:Pm n p):Good n (λr=>Pm n r.2) (kas_descPart m r p):=
 (kE hn _ _ _ _ h).bind λa ha=>by
   show Good n _ (if a.2.2>0 then _ else _);split
   ·exact ZZ hn _ _ (Pm.rev ha _ _)
   ·exact ZZ hn _ _ ha
theorem XA{n:Nat}(hn:0<n)(r:Nat){p:Array Nat}(h:Pm n p):Good n (λr=>Pm n r.2) (kas_count r p):=
 (w4 h hn _ _).bind λm _=>by
   show Good n _ (if (m==r)=true then _ else if m>1 then _ else _);split
   ·exact h
   ·split
    ·exact⟨h.lt hn _,h.lt hn _,λc=>by
      cases c with
      | true=>exact h
      | false=>exact Z0 hn _ _ (h.rev _ _)⟩
    ·exact Z0 hn _ _ h
theorem k8{n:Nat}(hn:0<n){p:Array Nat}(h:Pm n p)(k:Nat) : ∀f l r,Good n (λ_=>True) (kas_place p k f l r)
 | 0,l,r=>trivial
 | f+1,l,r=>by
  show Good n _ (if l>=r then _ else _);split
  ·exact trivial
  ·exact⟨h.lt hn _,h.lt hn _,λc=>by
    cases c with
    | true=>exact k8 hn h k f _ _
    | false=>exact k8 hn h k f _ _⟩
theorem QE{n:Nat}(hn:0<n) : ∀f p k,Pm n p->Good n (Pm n) (kas_bin f p k)
 | 0,p,k,h=>h
 | f+1,p,k,h=>(k8 hn h k k 0 k).bind λl _=>QE hn f _ _ (h.bub _ _)
theorem Yf{n:Nat}(hn:0<n):Good n (Pm n) (kas_sort n):=
 (XA hn n (show Pm n (List.toArray (zgj n))from List.Perm.refl _)).bind λr z=>by
   show Good n _ (if r.1<n then _ else _);split
   ·exact QE hn _ _ _ z
   ·exact z
theorem Xk(ps:List (Int×Int)):(JB ps).Perm (zgj ps.length):=by
 unfold JB;split
 ·exact List.Perm.refl _
 ·exact(Yf ⋯).run
theorem jR{α:Type}(d:α) : ∀ds:List α,(zgj ds.length).map (λi=>ds.getD i d)=ds:=λds=>by
 apply zjD;intro i;by_cases hi:i<ds.length
 ·simp [hi]
 ·simp [hi,Nat.not_lt.mp hi]
end DL
namespace DL
open PySem PySem.Spec PyProof.Rows L2
def fs2(z I:V):List (Str×V):=wQ "table" I (wQ "p" z [])
theorem zeV(z I:V):(fs2 z I).lookup ("p" : Str)=some z:=by
 unfold fs2;rw [jS,jS,if_neg ⋯,if_pos rfl]
theorem zeU(I z:V):(fs2 I z).lookup ("table" : Str)=some z:=by
 unfold fs2;rw [jS,if_pos rfl]
theorem zeW(z I:V):(fs2 z I).lookup ("forth" : Str)=none:=by
 unfold fs2;rw [jS,jS,if_neg ⋯,if_neg ⋯];rfl
theorem yI{H:Hp}{x:Addr}{o o':HO}:upd (upd H x o) x o'=upd H x o':=by
 funext b;by_cases h:b=x
 ·subst h;rw [zH,zH]
 ·rw [zJ h,zJ h,zJ h]
structure ClsA(K:PySem.W.Frag)(C:Addr):Prop where
 cls:Cls K C
 np:NoAttr K C "p"
 nt:NoAttr K C "table"
def yN(C:Addr):Sp:=λvs H Q _=>∃x dx z I,vs=[.ref x,z,I]/\H x=some (.ins C dx [])/\Q .non (upd H x (.ins C dx (fs2 z I)))
def spForth(K:PySem.W.Frag)(C:Addr)(F:List D->Option Res):Sp:=λvs H Q _=>∃x dx z I J H0 p t b ds,vs=[.ref x,J]/\H x=some (.ins C dx (fs2 z I))/\Same H0 H/\Rep K H0 p z/\Rep K H0 t I/\Rep K H0 b J/\F [p,t,b]=some (.own ds)/\zfR K H0 H Q (.own ds)
section
variable{P:Program}{w:World}{K:PySem.W.Frag}{mg:Str->Option Value}{base:Heap}{k:Nat}
theorem zbg{q:Str}{st:Stmt}{f C:Addr}{fd:FuncData}(J:L2.Fun K "__init__" q st f fd)(hd:JR ["self","p","table"] ["self","p","table"] st=true)(c:ClsA K C)
 (O : ∀X:Cx,X.prog=P->X.w=w->X.K=K->X.mg=mg->X.base=base->SX X (defScope st) ["self","p","table"] ["self","p","table"] k->PSs X (defBody st) (zfu (zep X.K (vY 0) (vY 1) "p") (zep X.K (vY 0) (vY 2) "table"))) :
 FnOk P w K mg base CX0 (k+1) f fd ["self","p","table"] (yN C):=by
 have S:=ko hd;refine J.ok S (λvs H Q E h=>by obtain⟨x,dx,z,I,rfl,_⟩:=h;rfl) λcdv A outer s H vs Q E U Y=>⟨_,O _ rfl rfl rfl rfl rfl ⟨rfl,rfl,S.nd,rfl,U,λ_ _=> .inl rfl⟩,?_⟩;obtain⟨x,dx,z,I,rfl,hx,q⟩:=Y;refine⟨z,rfl,.ref x,rfl,x,C,dx,[],rfl,hx,c.cls,c.np,by decide,?_⟩;refine⟨I,rfl,.ref x,rfl,x,C,dx,wQ "p" z [],rfl,zH,c.cls,c.nt,by show 1<1000;decide,?_⟩;rw [yI];exact q
theorem QH{q:Str}{st:Stmt}{f C:Addr}{fd:FuncData}{F:List D->Option Res}(O:L2.Fun K "forth" q st f fd)(hd:JR ["self","base"] ["self","base"] st=true)(c:ClsA K C)
 (U : ∀X:Cx,X.prog=P->X.w=w->X.K=K->X.mg=mg->X.base=base->SX X (defScope st) ["self","base"] ["self","base"] k->
   PSs X (defBody st) (zed (Vd (spF X.K 3 F) [] E0 (yK (zej X.K (vY 0) "p") (yK (zej X.K (vY 0) "table") (yK (vY 1) zbG)))))) :
 FnOk P w K mg base CX0 (k+1) f fd ["self","base"] (spForth K C F):=by
 have S:=ko hd;refine O.ok S (λvs H Q E h=>by obtain⟨x,dx,z,I,J,H0,p,t,b,ds,rfl,_⟩:=h;rfl) λcdv A outer s H vs Q E Y Z=>⟨_,U _ rfl rfl rfl rfl rfl ⟨rfl,rfl,S.nd,rfl,Y,λ_ _=> .inl rfl⟩,?_⟩;obtain⟨x,dx,z,I,J,H0,p,t,b,ds,rfl,hx,h0,r1,r2,r3,hF,a4⟩:=Z;refine⟨.ref x,rfl,x,C,dx,_,z,rfl,hx,c.cls,c.np,zeV z I,.ref x,rfl,x,C,dx,_,I,rfl,hx,c.cls,c.nt,zeU z I,J,rfl,?_⟩;exact⟨H0,[p,t,b],.own ds,h0,Reps.cons r1 (Reps.cons r2 (Reps.cons r3 Reps.nil)),rfl,hF,a4⟩
def spBy(CR CL:Addr):Sp:=λvs H Q _=>∃z s I,vs=[z,.str s,I]/\∀x dx,H x=none->H dx=none->dx≠x->Q (.ref x) (upd (upd H dx (.own x)) x (.ins (if s=("r" : Str)then CR else CL) dx (fs2 z I)))
theorem zeY{x:Str}{st:Stmt}{f CR CL:Addr}{fd:FuncData}(O:L2.Fun K x x st f fd)(hd:JR ["p","way","table"] ["p","way","table"] st=true)
 (U : ∀X:Cx,X.prog=P->X.w=w->X.K=K->X.mg=mg->X.base=base->SX X (defScope st) ["p","way","table"] ["p","way","table"] k->
   PSs X (defBody st) (zed (L2.tIf (zbZ (tOp rEq (vY 1) (tC (.str "r")))) (Va CR (yN CR) [] E0 (yK (vY 0) (yK (vY 2) zbG))) (Va CL (yN CL) [] E0 (yK (vY 0) (yK (vY 2) zbG)))))) :
 FnOk P w K mg base CX0 (k+1) f fd ["p","way","table"] (spBy CR CL):=by
 have S:=ko hd;refine O.ok S (λvs H Q E h=>by obtain⟨I,s,J,rfl,_⟩:=h;rfl) λcdv A outer s H vs Q E Y Z=>⟨_,U _ rfl rfl rfl rfl rfl ⟨rfl,rfl,S.nd,rfl,Y,λ_ _=> .inl rfl⟩,?_⟩;obtain⟨I,z,J,rfl,q⟩:=Z;have go : ∀C,(∀x dx,H x=none->H dx=none->dx≠x->Q (.ref x) (upd (upd H dx (.own x)) x (.ins C dx (fs2 I J))))->Va C (yN C) [] E0 (yK (vY 0) (yK (vY 2) zbG)) (start ["p","way","table"] [I,.str z,J]) H Q:=λC q=>by
  refine⟨I,rfl,J,rfl,λx dx hx a0 a1=>⟨x,dx,I,J,rfl,zH,rfl,?_⟩⟩;rw [yI];exact q x dx hx a0 a1
 refine⟨.str z,rfl,rfl,_,rfl,?_⟩;show(if decide (V.str z=V.str "r")=true then _ else _);by_cases h:z=("r" : Str)
 ·rw [if_pos (decide_eq_true (by rw [h]))]
  refine go CR λx dx a b c=>?_;have:=q x dx a b c
  rwa [if_pos h]at this
 ·rw [if_neg (by simpa using h)]
  refine go CL λx dx a b c=>?_;have:=q x dx a b c
  rwa [if_neg h]at this
end
section
variable{X:Cx}{sc:Scope}{N L:List Str}{k j jr jl:Nat}{a b c d:Expr}{p pos1 apos pos2:Pos}{fa fb fc fd:CO D}{F G:List D->Option Res}{x:Str}{CR CL:Addr}
structure FnBy(P:Program)(w:World)(K:PySem.W.Frag)(mg:Str->Option Value)(base:Heap)(j:Nat)(x:Str)(CR CL:Addr):Prop where
 ex : ∃(f:Addr) (fd:FuncData),FnOk P w K mg base CX0 j f fd ["p","way","table"] (spBy CR CL)/\mg x=some (.ref f)/\PySem.W.keepIn K (.ref f)=true/\Binds K fd ["p","way","table"] []
structure MethAt(P:Program)(w:World)(K:PySem.W.Frag)(mg:Str->Option Value)(base:Heap)(j:Nat)(C:Addr)(F:List D->Option Res):Prop where
 cls:ClsA K C
 ex : ∃(f:Addr) (fd:FuncData),Meth K C "forth" f/\FnOk P w K mg base CX0 j f fd ["self","base"] (spForth K C F)/\Binds K fd ["self","base"] []
theorem VA(al:FnBy X.prog X.w X.K X.mg X.base j x CR CL)(hR:MethAt X.prog X.w X.K X.mg X.base jr CR F)(hL:MethAt X.prog X.w X.K X.mg X.base jl CL G)(h1:j<=k)(h2:jr<=k)(h3:jl<=k)(h:SX X sc N L k)(cx:yf sc x=true)
 (ha:PV X a fa) (hb:PV X b fb) (hc:PV X c fc) (hd:PV X d fd)
 (he:starEach [a,b,c] X.env=(false,eval a X.env)::starEach [b,c] X.env:=by rfl) (ar:(backTo pos1 (starEach [b,c] X.env)).any (·.1)=false:=by rfl)
 (as:starEach [b,c] X.env=(false,eval b X.env)::starEach [c] X.env:=by rfl) (au:starEach [c] X.env=(false,eval c X.env)::starEach [] X.env:=by rfl)
 (ae:starEach [d] X.env=(false,eval d X.env)::starEach [] X.env:=by rfl) (av:(backTo pos2 (starEach [] X.env)).any (·.1)=false:=by rfl)
 {pl:Sem Bool} (ht:eval (.Call (.Attribute (.Call (.Name x p) [a,b,c] [] pos1) "forth" apos) [d] [] pos2) X.env=(do
  let ov <- eval (.Call (.Name x p) [a,b,c] [] pos1) X.env
  standAt apos.atName
  let (f,first) <- holding [ov] (getMethod ov "forth" pl)
  callWith pos2 f first (backTo pos2 (starEach [d] X.env)) (backToKw pos2 (keywordEach [] X.env))):=by rfl) :
 PO X (.Call (.Attribute (.Call (.Name x p) [a,b,c] [] pos1) "forth" apos) [d] [] pos2) (Qg F G (za fa (za fb (za fc (za fd zu))))):=by
 intro pins s σ H Q I ⟨H0,γ,ds,rc,J,q⟩;obtain⟨l,e0,J⟩:=bind_some J;obtain⟨dp,e1,e0⟩:=bind_some e0;obtain⟨l1,e2,rfl⟩:=zE e0;obtain⟨dw,e3,e2⟩:=bind_some e2;obtain⟨l2,e4,rfl⟩:=zE e2;obtain⟨Y,e5,e4⟩:=bind_some e4;obtain⟨l3,e6,rfl⟩:=zE e4;obtain⟨Z,e7,e6⟩:=bind_some e6;obtain⟨l4,e8,rfl⟩:=zE e6;cases e8;cases dw with
 | str z=>
  have J:((if z=("r" : Str)then F else G) [dp,Y,Z]).bind zbI=some ds:=J;obtain⟨r,e9,ag⟩:=bind_some J;cases r with
  | val _=>cases ag
  | own c3=>
   cases ag;obtain⟨c4,c5,Gy,my,ky,bd⟩:=al.ex;have call:=yW (p:=p) (pos:=pos1) Gy (h.room.mono h1) (h.gl cx).1 my ky bd .nil ZO (zT ha (zT hb (zT hc jF au) as) he) (h.gl cx).2.2 he ar;have go : ∀(C:Addr) (jc:Nat) (Fc:List D->Option Res),(if z=("r" : Str)then CR else CL)=C->MethAt X.prog X.w X.K X.mg X.base jc C Fc->jc<=k->Fc [dp,Y,Z]=some (.own ds)->
    wpAny (model X.prog X.w) X.A (eval (.Call (.Attribute (.Call (.Name x p) [a,b,c] [] pos1) "forth" apos) [d] [] pos2) X.env) (EP X pins σ Q) X.xe s:=λC jc Fc hC M hj hF=>by
    obtain⟨fm,c7,Mm,Gm,bm⟩:=M.ex;refine zaV (pl:=pl) (E:=E0) call M.cls.cls Mm Gm (h.room.mono hj) bm .nil ZO (zT hd jF ae) ae av ht pins s σ H Q I ?_;refine⟨H0,γ,dp,rc,e1,λO H1 bl x1 r1=>⟨bl,γ,_,rc.ext x1,e3,λv2 H2 bp x2 r2=>⟨bp,γ,Y,(rc.ext x1).ext x2,e5,λS H3 a1 x3 r3=>?_⟩⟩⟩;refine⟨O,z,S,by rw [show v2 = .str z from r2];rfl,λo a2 n1 n2 br=>?_⟩;rw [hC];have xe:Ext a1 H3 a1 (upd (upd H3 a2 (.own o)) o (.ins C a2 (fs2 O S))):=(Ext.hide x3.sub n2 (.own o)).trans (Ext.hide (x3.sub.trans (z5 n2 _)) (by rw [zJ (zht br)];exact n1) _);have xa:=(x1.trans (x2.trans x3)).trans xe;refine⟨o,a2,fs2 O S,rfl,zH,zeW O S,a1,γ,Z,rc.ext xa,e7,λv4 H4 aj U r4=>?_⟩;have ak:Same a1 aj:=U.s0;refine⟨o,a2,O,S,v4,aj,dp,Y,Z,ds,rfl,U.s1 _ _ zH,U.sub,((r1.mono x2.s0).mono x3.s0).mono ak,r3.mono ak,r4,hF,?_⟩;exact λa' xs H' H0' x5 g1 g2 g3 g4=>q a' xs H' H0' (xa.trans (U.trans x5)) (kv (xa.trans U).s1 g1) g2 g3 g4
   by_cases hz:z=("r" : Str)
   ·rw [if_pos hz]at e9
    exact go CR jr F (if_pos hz) hR h2 e9
   ·rw [if_neg hz]at e9
    exact go CL jl G (if_neg hz) hL h3 e9
 | _=>cases J
end
section
variable{X:Cx}{sc:Scope}{N L:List Str}{k:Nat}{a:Expr}{pos:Pos}{f:CO (List D)}
theorem zaM(i:Nat){x:Str}{apos cpos np:Pos}(h:SX X sc N L k)(c:Y6 sc N i x=true)(ha:PO X a f)(J:starEach [a] X.env=[(false,eval a X.env)]:=by rfl)
 (Z:attributeBase (.Name x np) "extend" X.env (eval (.Name x np) X.env)=eval (.Name x np) X.env:=by rfl)
 (a0:((backTo cpos (starEach [a] X.env)).all (λx=> !x.1) && (backToKw cpos (keywordEach [] X.env)).all (λx=>x.1.isSome)
   && decide ([a].length+([]:List Keyword).length+(if ([]:List Keyword).isEmpty then 0 else 1)<30))=true:=by rfl)
 (a1:(apos.endLine==cpos.line)=true:=by rfl) (a2:swapsWith (.Call (.Attribute (.Name x np) "extend" apos) [a] [] cpos) none pos.line X.env=pure false:=by rfl) :
 PSD X (.Expr (.Call (.Attribute (.Name x np) "extend" apos) [a] [] cpos) pos) (Jt i f):=
 xR (Ky (zcH PySem.F.plainAttrs_list PySem.F.slot_list_extend PySem.F.type_list_extend KK (h.var c) (zT ha jF J) Z a0 a1 J rfl) a2) λD σ H hZ=>by
  obtain⟨E0,E,H0,γ,fl,I,z,a4⟩:=hZ;obtain⟨ds,e1,z⟩:=bind_some z;obtain⟨es,e2,z⟩:=bind_some z;have e1:=xz e1;by_cases O:ds.length+es.length<=lim
  ·rw [if_pos O]at z;cases z
   obtain⟨l,xs,h1,h2,S,U⟩:=I.rc.own i ds e1;refine⟨_,h1,.inl ⟨rfl,_,SqL.of S⟩,H0,γ,es,I.rc,e2,λb zs H' H0' x g1 g2 g3 Y=>?_⟩;have hl:xs.length+zs.length<=sizeLine:=by
    rw [U.length,Y.length];have:lim<=sizeLine:=by decide
    omega
   refine⟨l,b,xs,zs,rfl,rfl,x.s1 _ _ S,g3,hl,?_⟩;have a8:=I.step x;exact a4 _ _ _ (a8.rewrite (xs:=xs) e1 h1 ((U.mono x.s0).append Y))
  ·rw [if_neg O]at z;cases z
end
def Wm(K:PySem.W.Frag)(C:Addr):Bool:=PySem.W.makesIn K C && PySem.W.keepIn K (.ref C) && PySem.W.plainGet K C Str.empty && PySem.W.hasDictIn K C && PySem.W.plainOver K C &&
 PySem.W.findIn K (.ref C) "__setattr__" == some (some (.builtin "object.__setattr__")) && PySem.W.findIn K (.ref C) "p" == some none && PySem.W.findIn K (.ref C) "table" == some none
structure ArrAt(K:PySem.W.Frag)(mg:Str->Option Value)(sI sR sL:Stmt):Prop where
 ex : ∃(CR CL fI fR fL:Addr) (dI dR dL:FuncData),mg "Right" = some (.ref CR)/\mg "Left" = some (.ref CL)/\Mk K CR fI/\Mk K CL fI/\ClsA K CR/\ClsA K CL/\Meth K CR "forth" fR/\Meth K CL "forth" fL/\
  L2.Fun K "__init__" "Arrow.__init__" sI fI dI/\L2.Fun K "forth" "Right.forth" sR fR dR/\L2.Fun K "forth" "Left.forth" sL fL dL/\
  Binds K dI ["self","p","table"] []/\Binds K dR ["self","base"] []/\Binds K dL ["self","base"] []
section
variable{K:PySem.W.Frag}{mg:Str->Option Value}{h:Heap}
theorem YB{C:Addr}(b:Wm K C=true):ClsA K C/\PySem.W.makesIn K C=true/\PySem.W.keepIn K (.ref C)=true:=by
 unfold Wm at b;simp only [Bool.and_eq_true,beq_iff_eq]at b;obtain⟨⟨⟨⟨⟨⟨⟨b1,b2⟩,b3⟩,b4⟩,b5⟩,b6⟩,b7⟩,b8⟩:=b;exact⟨⟨⟨b3,b4,b5,b6⟩,b7,b8⟩,b1,b2⟩
theorem arr_mk{sI sR sL:Stmt}{CR CL fI fR fL:Addr}{Z oR oL:Value}{eI eR eL aI aR aL:Option Addr}{lI lR lL:Array (Option Value)}{kI dI pI z tI kR dR pR I tR kL dL pL J tL:Value}(O:K.In h)(G:h.Ns mainGlobals mg)
 (nR:ziI K mainGlobals "Right" = some (some (.ref CR))) (nL:ziI K mainGlobals "Left" = some (some (.ref CL)))
 (iR:PySem.W.findIn K (.ref CR) "__init__" = some (some (.ref fI))) (iL:PySem.W.findIn K (.ref CL) "__init__" = some (some (.ref fI)))
 (mR:PySem.W.findIn K (.ref CR) "forth" = some (some (.ref fR))) (mL:PySem.W.findIn K (.ref CL) "forth" = some (some (.ref fL)))
 (uI:K.lookup fI=some ⟨Z,eI,.func (PySem.W.fnOf "__init__" "Arrow.__init__" (defArgs sI) (defBody sI) (defScope sI) .none kI dI pI aI z tI),lI⟩)
 (uR:K.lookup fR=some ⟨oR,eR,.func (PySem.W.fnOf "forth" "Right.forth" (defArgs sR) (defBody sR) (defScope sR) .none kR dR pR aR I tR),lR⟩)
 (uL:K.lookup fL=some ⟨oL,eL,.func (PySem.W.fnOf "forth" "Left.forth" (defArgs sL) (defBody sL) (defScope sL) .none kL dL pL aL J tL),lL⟩)
 (vI:PySem.W.codeIn K z "Arrow.__init__" = true) (vR:PySem.W.codeIn K I "Right.forth" = true) (vL:PySem.W.codeIn K J "Left.forth" = true)
 (w1:PySem.W.keepIn K (.ref fI)=true) (w2:PySem.W.keepIn K (.ref fR)=true) (w3:PySem.W.keepIn K (.ref fL)=true)
 (z1:PySem.W.isFn K (.ref fI)=true) (z2:PySem.W.isFn K (.ref fR)=true) (z3:PySem.W.isFn K (.ref fL)=true)
 (bR:Wm K CR=true) (bL:Wm K CL=true)
 (gI : ∀(kV doc pm:Value) (an:Option Addr) (cdv ct:Value) (us:List Value),us.length=3->bindArgs (PySem.W.fnOf "__init__" "Arrow.__init__" (defArgs sI) (defBody sI) (defScope sI) .none kV doc pm an cdv ct) ⟨us,[]⟩=pure ((["self","p","table"]:List Str).zip us))
 (gR : ∀(kV doc pm:Value) (an:Option Addr) (cdv ct:Value) (us:List Value),us.length=2->bindArgs (PySem.W.fnOf "forth" "Right.forth" (defArgs sR) (defBody sR) (defScope sR) .none kV doc pm an cdv ct) ⟨us,[]⟩=pure ((["self","base"]:List Str).zip us))
 (gL : ∀(kV doc pm:Value) (an:Option Addr) (cdv ct:Value) (us:List Value),us.length=2->bindArgs (PySem.W.fnOf "forth" "Left.forth" (defArgs sL) (defBody sL) (defScope sL) .none kV doc pm an cdv ct) ⟨us,[]⟩=pure ((["self","base"]:List Str).zip us)):ArrAt K mg sI sR sL:=by
 obtain⟨c1,c2,c3⟩:=YB bR;obtain⟨d1,d2,d3⟩:=YB bL;have S:=QG uI vI w1;have U:=QG uR vR w2;have Y:=QG uL vL w3;exact⟨CR,CL,fI,fR,fL,_,_,_,zji O G nR,zji O G nL,⟨c2,iR,z1,c3⟩,⟨d2,iL,z1,d3⟩,c1,d1,⟨mR,z2,w2⟩,⟨mL,z3,w3⟩,S,U,Y,S.binds gI,U.binds gR,Y.binds gL⟩
end
def zbs:Stmt->List Stmt
 | .ClassDef _ _ _ b _ _ _ _ _ _ _=>b
 | _=>[]
def inCls(st:Stmt)(j:Nat):Stmt:=(zbs st).getD j (.Pass ⟨0,0,0,0⟩)
theorem wn{K:PySem.W.Frag}{H:Hp} : ∀{ds:List D} {ns:List Int} {xs:List V},Xx ds=some ns->Reps K H ds xs->xs=(ns.map zjp).map kV
 | [],ns,xs,e,r=>by cases e;exact r.inv_nil
 | d::ds,ns,xs,e,r=>by
  cases d with
  | int i=>
   obtain⟨l,e1,z⟩:=zE e;subst z;obtain⟨x,t,rfl,h1,h2⟩:=r.inv_cons;rw [wn e1 h2,show x = .int i from h1];rfl
  | _=>cases e
theorem ZT:typeLookup (.type "list") "keys" = pure none:=by rw [typeLookup_type,builtinLookup_eq_fast];kernel_rfl
theorem vQ:entryFor table "list.__getattribute__" = some Builtin.«object.__getattribute__» :=
 entryFor_alias (id':="object.__getattribute__") (by kernel_rfl) (by first | rfl | decide +kernel) ⋯ (by kernel_rfl)
section
variable{prog:Program}{w:World}{A:Around}{E:Value->Shared->Prop}{h:Heap}{g:Array GenState}{d:Drawn}{t:Nat}{os:OsState}{a:Addr}{o:Obj}
theorem vc{tk:Tok}{Q:Fin->Shared->Prop}{vs:Array Value}{S:Nat}{sl:Array (Option Value)}(hx:h.get? a=some ⟨.type "list",none,.seq vs S,sl⟩)(U:A.handled=none)
 (Y : ∀h' e t',(∀b u,h.get? b=some u->h'.get? b=some u)->(∃J,h'.get? e=some J/\J.cls = .type "AttributeError")->E (.ref e) ⟨h',g,d,t',os⟩) :
 wpAny (model prog w) A (Builtin.«object.__getattribute__» ⟨[.ref a,.str "keys" tk],[]⟩) Q E ⟨h,g,d,t,os⟩:=by
 have Z:(⟨h,g,d,t,os⟩:Shared).TypeIs (.ref a) "list":=⟨_,hx,rfl⟩;have f4:=ZT
 repeat (any_goals (first | assumption | wp_step))
 unfold raiseAttrError;have hm:((zhg (toString "'" ++ toString ((Manifest.find? "list").elim "list" λx=>x.tpName)++toString "' object has no attribute '")++zhg "keys" ++ zhg "'"):Str).length<=sizeLine:=by decide +kernel
 generalize (zhg (toString "'" ++ toString ((Manifest.find? "list").elim "list" λx=>x.tpName)++toString "' object has no attribute '")++zhg "keys" ++ zhg "'")=z at hm ⊢;refine zgi (wpAny_mkStr (hx:=hm) ?_);refine zgi ?_;unfold newExc newTuple;refine zgi (zg8 ?_ (by size_fits));refine zgi (m:=firstArgMember _ _) (zjE (a:=zhI) (by first | rfl | (simp only [firstArgMember];rfl)) ?_);refine zg8 ?_ (by size_fits);simp only [zgW];have I:((h.push {cls:= .type "tuple",data:= .seq #[.str z t]}).push {cls:= .type "AttributeError",data:= .fields (#[.ref h.objs.size,.none,.none,.none,.bool false,.none]++ownMembersOf (.type "AttributeError") [.str z t])}).get? (h.objs.size+1) =
  some {cls:= .type "AttributeError",data:= .fields (#[.ref h.objs.size,.none,.none,.none,.bool false,.none]++ownMembersOf (.type "AttributeError") [.str z t])}:=by heap_get
 have O : ∀b u,h.get? b=some u->((h.push {cls:= .type "tuple",data:= .seq #[.str z t]}).push {cls:= .type "AttributeError",data:= .fields (#[.ref h.objs.size,.none,.none,.none,.bool false,.none]++ownMembersOf (.type "AttributeError") [.str z t])}).get? b=some u:=λb u e=>zgk _ (zgk _ e);have hn:h.get? (h.objs.size+1)=none:=Heap.get?_none_of_le (Nat.le_succ _);generalize ((h.push {cls:= .type "tuple",data:= .seq #[.str z t]}).push {cls:= .type "AttributeError",data:= .fields (#[.ref h.objs.size,.none,.none,.none,.bool false,.none]++ownMembersOf (.type "AttributeError") [.str z t])})=h2 at I O ⊢;refine zgi (wpAny_mkText ?_);unfold noteAttr lacksNameAndObj;have a1:(⟨h2,g,d,t+1+1,os⟩:Shared).TypeIs (.ref (h.objs.size+1)) "AttributeError":=⟨_,I,rfl⟩;have ft:isSubtype (.type "AttributeError") (.type "AttributeError")=pure true:=by rw [isSubtype_type];kernel_rfl
 repeat (any_goals (first | assumption | with_reducible refine wpAny_loadPart_at I ?_ | with_reducible refine wpAny_load I ?_ | wp_step))
 refine wpAny_raiseNew_none U (Y _ _ _ (λb u e=>?_) ⟨_,zjc _ I (zjg (ziu rfl _)),zjG ..⟩);rw [Heap.get?_update_other _ _ (λq=>by rw [<- q]at e;rw [hn]at e;cases e)];exact O b u e
theorem vM{tk:Tok}{R:Result->Shared->Prop}{vs:Array Value}{I:Nat}{sl:Array (Option Value)}(hx:h.get? a=some ⟨.type "list",none,.seq vs I,sl⟩)(J:A.handled=none)
 (O : ∀h' e t',(∀b u,h.get? b=some u->h'.get? b=some u)->(∃z,h'.get? e=some z/\z.cls = .type "AttributeError")->R (.error (.ref e)) ⟨h',g,d,t',os⟩) :
 codeAny (model prog w) A (.call (.builtin "list.__getattribute__") ⟨[.ref a,.str "keys" tk],[]⟩) R ⟨h,g,d,t,os⟩:=
 zjw zit.plain vQ (zit.check _ _ _ _ _ _ _ _ (show(⟨h,g,d,t,os⟩:Shared).TypeIs (.ref a) "list" from⟨_,hx,rfl⟩) (F.args_list_getattribute_2 _ _) (vc hx J O))
theorem Xs:typeLookup (.type "list") "__getattr__" = pure none:=by rw [typeLookup_type,builtinLookup_eq_fast];kernel_rfl
theorem KP{Q:Option Value->Shared->Prop}{vs:Array Value}{I:Nat}{sl:Array (Option Value)}(hx:h.get? a=some ⟨.type "list",none,.seq vs I,sl⟩)(J:A.handled=none)
 (O : ∀h' t',(∀b u,h.get? b=some u->h'.get? b=some u)->Q none ⟨h',g,d,t',os⟩):wpAny (model prog w) A (getAttr? (.ref a) "keys") Q E ⟨h,g,d,t,os⟩:=by
 have Z:(⟨h,g,d,t+1,os⟩:Shared).TypeIs (.ref a) "list":=⟨_,hx,rfl⟩;have f2:=zit.lookup;have f3:=zit.bind (.ref a);have f5:=Xs;have ft:isSubtype (.type "AttributeError") (.type "AttributeError")=pure true:=by rw [isSubtype_type];kernel_rfl
 unfold getAttr? getAttrBy? getAttrBy
 repeat (any_goals (first | assumption | wp_step))
 refine vM (g:=g) (d:=d) (os:=os) hx J λh' e t' S z=>?_;obtain⟨U,z,Y⟩:=z;have a4:(⟨h',g,d,t',os⟩:Shared).TypeIs (.ref e) "AttributeError":=⟨U,z,Y⟩;have a5:=O h' t' S;show wpAny _ _ (getattributeRaised _ _ _ _ _ _ _) _ _ _;unfold getattributeRaised hookOrError attributeErrorLeaves
 repeat (any_goals (first | assumption | wp_step))
end
def xj:List D->Option (List D×List D)
 | []=>some ([],[])
 | d::r=>match d with
  | .tup ds=>match ds with
   | [k,v]=>(xj r).map λp=>(k::p.1,v::p.2)
   | _=>none
  | _=>none
def Kl(f:CO (List D)):CO D:=λγ=>(f γ).bind λps=>(xj ps).bind λp=>We p.1 p.2
@[simp] theorem zd8{γ:Ctx}(f):Kl f γ=(f γ).bind λps=>(xj ps).bind λp=>We p.1 p.2:=rfl
def zdH(fd fk:CO D):CO D:=λγ=>(fd γ).bind λd=>(fk γ).bind λk=>match d with
 | .dic ks vs=>(asI k).bind λi=>zbK ks vs i
 | _=>none
def zcb(fk fd:CO D):CO D:=λγ=>(fk γ).bind λk=>(fd γ).bind λd=>match d with
 | .dic ks vs=>(asI k).map λi=> .bl (zbK ks vs i).isSome
 | _=>none
def W0:D->Option (List Int)
 | .tup ds=>Xx ds
 | _=>none
def Xv:List D->Option (List (List Int))
 | []=>some []
 | d::ds=>(W0 d).bind λk=>(Xv ds).map λr=>k::r
def v5(f:CO (List D)):CO D:=λγ=>(f γ).bind λps=>(xj ps).bind λp=>(Xv p.1).bind λks=>if ks.Nodup/\ks.length<=lim then some (.dct ks p.2)else none
def XD:List (List Int)->List D->List Int->Option D
 | k::ks,v::vs,i=>if k=i then some v else XD ks vs i
 | _,_,_=>none
def k0(fd fk:CO D):CO D:=λγ=>(fd γ).bind λd=>(fk γ).bind λk=>match d with
 | .dct ks vs=>(W0 k).bind λi=>XD ks vs i
 | _=>none
def V7(d k x:D):Option D:=match d with
 | .dct ks vs=>(W0 k).map λi=>(XD ks vs i).getD x
 | _=>none
def ZC(fd fk fx:CO D):CO D:=λγ=>(fd γ).bind λd=>(fk γ).bind λk=>(fx γ).bind λx=>V7 d k x
def Xb(f:CO D):CO (List D):=λγ=>(f γ).bind λd=>match d with
 | .dct ks _=>some (ks.map λk=> .tup (k.map .int))
 | _=>none
section
variable(γ:Ctx)
@[simp] theorem zd7(f):v5 f γ=(f γ).bind λps=>(xj ps).bind λp=>(Xv p.1).bind λks=>if ks.Nodup/\ks.length<=lim then some (.dct ks p.2)else none:=rfl
@[simp] theorem zfm(fd fk):k0 fd fk γ=(fd γ).bind λd=>(fk γ).bind λk=>match d with
 | .dct ks vs=>(W0 k).bind λi=>XD ks vs i
 | _=>none:=rfl
@[simp] theorem zfk(fd fk fx):ZC fd fk fx γ=(fd γ).bind λd=>(fk γ).bind λk=>(fx γ).bind λx=>V7 d k x:=rfl
@[simp] theorem zfh(f):Xb f γ=(f γ).bind λd=>match d with
 | .dct ks _=>some (ks.map λk=> .tup (k.map .int))
 | _=>none:=rfl
end
theorem vf{P:Program}{w:World} : ∀{k:List Int} {us:List Value},Vals (k.map V.int) us->PySem.ItemsAre (intKind P w) k us
 | [],us,h=>by cases h;exact .nil
 | i::k,us,h=>by
  cases h with
  | cons h1 h2=>
   obtain⟨t,rfl⟩:=h1;exact .cons (by show Value.isInt i (.int i t)=true;simp [Value.isInt]) (vf h2)
section
variable{X:Cx}{pins:List (Addr×Obj)}{σ:St}{H:Hp}{s:Shared}
theorem wW{b:Addr}{k:List Int}(I:Inv X pins σ H s)(h:SqT X.K H b (k.map V.int)):(tupleKind (intKind X.prog X.w)).is s.heap k b:=by
 obtain⟨z,J,⟨o,O,S,n,hd⟩,_⟩:=I.tuple h;exact⟨o,z.toArray,n,O,S,hd,vf J⟩
theorem Za{a:Addr}{o:Obj}{xs:List (List Int×Addr×Value)}(I:Inv X pins σ H s)(e:H a=some (atO a o))(d:zbM o xs)(z : ∀x∈xs,SqT X.K H x.2.1 (x.1.map V.int)):s.heap.DictOfH (tupleKind (intKind X.prog X.w)) a xs:=by
 obtain⟨J,_⟩:=(show ObjOk X.prog X.w H s.heap a (atO a o)from I.hok a _ e);obtain⟨O,es,ep,S,U,Y⟩:=d;exact⟨o,es,ep,J,O,S,U,λx hx=>wW I (z x hx),Y⟩
theorem zcU{h:Heap}{P:Program}{w:World}{a:Addr}{xs:List (List Int×Addr×Value)}(d:h.DictOfH (tupleKind (intKind P w)) a xs) : ∃o,h.get? a=some o/\zbM o xs:=by
 obtain⟨o,es,ep,h1,h2,z,I,_,J⟩:=d;exact⟨o,h1,h2,es,ep,z,I,J⟩
end
theorem W5{P:Program}{w:World}{H:Hp}{h:Heap}{a:Addr}{o:Obj}(e:h.get? a=some o):ObjOk P w H h a (atO a o):=⟨e,⟨o,e⟩,λh1 h2 p q=>q o p⟩
theorem Wq{K:Type} [DecidableEq K]{k:K} : ∀{xs:List (K×Addr×Value)},k∉xs.map (·.1)->atKey xs k=none
 | xs,h=>by
  unfold atKey;rw [Option.map_eq_none_iff,ziP];intro x hx z;exact h (zg1.mpr ⟨x,hx,by simpa using z⟩)
section
variable{X:Cx}{pins:List (Addr×Obj)}{σ:St}{A:Around}{R:Result->Shared->Prop}{H0:Hp}{l it d:Addr}{ks:List (List Int)}{ys xs:List V}
theorem XI(hh:A.handled=none)(hu:A.units+8<cLine)(hx:xs.length=ks.length)(hy:ys.length=ks.length)(nd:ks.Nodup)(hz:ks.length<=sizeLine)
 (hp : ∀(n:Nat) (h1:n<xs.length) (h2:n<ks.length) (h3:n<ys.length),∃p b,xs[n] = .ref p/\SqT X.K H0 p [.ref b,ys[n]]/\SqT X.K H0 b (ks[n].map V.int)) (ao:H0 d=none) (ap:l≠d) : ∀(m n:Nat) (s:Shared) (H:Hp) (o:Obj) (es:List (List Int×Addr×Value)) (i:Int) (t:Tok),n+m=ks.length->
 Inv X pins σ H s->Same H0 H->H l=some (.lst xs)->s.heap.IsListIter it l n->FpOk X pins H it->H d=some (atO d o)->zbM o es->es.map (·.1)=ks.take n->(∀x∈es,SqT X.K H0 x.2.1 (x.1.map V.int))->Vals (ys.take n) (es.map (·.2.2))->
 (∀s' o' U,zbM o' U->U.map (·.1)=ks->(∀x∈U,SqT X.K H0 x.2.1 (x.1.map V.int))->Vals ys (U.map (·.2.2))->Inv X pins σ (upd H d (atO d o')) s'->R (.ok (.ret .none)) s')->
 codeAny (model X.prog X.w) A (.builtin "dict.update.loop" ⟨[.ref d,.ref it,.int i t,.none],[]⟩) R s:=by
 intro m
 induction m with
 | zero=>
  intro n s H o es i t hn I sub Y st O hd od S Z a0 hR;obtain⟨z1,a7,c,rv,ll,el⟩:=I.lstM Y;refine codeAny_builtin xu ?_;unfold Builtin.«dict.update.loop»;have il:s.heap.IsList l a7.toArray:=⟨_,el,rfl,_,rfl⟩;refine zgi (wpAny_pyNext_list_end (s:=s) hh st il (by simp;omega) λh' eb=>?_);refine zgi (zgo ?_);have e0:upd H d (atO d o)=H:=by
   funext c;by_cases q:c=d
   ·rw [q,zH,hd]
   ·rw [zJ q]
  have I':Inv X pins σ H {s with heap:=h'}:=I.turnedL (t':=s.toks) (fp:=[it]) (λb o J e=>eb b o (by simpa using J) e) (λb J=>by rw [zju.mp J];exact O);have:=hR {s with heap:=h'} o es od (by rw [S,zhR ⋯]) Z (by rw [zhR ⋯]at a0;exact a0);rw [e0]at this;exact zgo (this I')
 | succ m ih=>
  intro n s H o es i t hn I sub Y st O hd od S Z a0 hR;obtain⟨z1,a7,c,rv,ll,el⟩:=I.lstM Y;have il:s.heap.IsList l a7.toArray:=⟨_,el,rfl,_,rfl⟩;have aa:n<ks.length:=by omega
  obtain⟨p,b,ep,aw,ae⟩:=hp n ⋯ aa ⋯;obtain⟨u,ax,ru⟩:=rv.get (zgn (show n<xs.length by omega));rw [ep]at ru;have eu:u = .ref p:=ru;subst eu;refine codeAny_builtin xu ?_;unfold Builtin.«dict.update.loop»;refine zgi (wpAny_pyNext_list_item (s:=s) st il (x:= .ref p) (by simpa using ax) λh' az sb=>?_);have I1:=I.turnedL (h':=h') (t':=s.toks) (fp:=[it]) (λb o J e=>(sb.2 b (by simpa using J)).trans e) (λb J=>by rw [zju.mp J];exact O);obtain⟨ts,rt,⟨o1,eo,co,nn,ba⟩,zt⟩:=I1.tuple (sameT sub aw);obtain⟨u1,r3,rfl,bb,q2⟩ : ∃u1 r3,ts=u1::r3/\RelV (.ref b) u1/\Vals [ys[n]] r3:=by
   cases rt with
   | cons q1 q2=>exact⟨_,_,rfl,q1,q2⟩
  obtain⟨u2,rfl,bd⟩:=ym q2;have be:u1 = .ref b:=bb;subst be;have bf:({s with heap:=h'}:Shared).TypeIs (.ref p) "tuple":=⟨_,eo,co⟩;refine zgi (zih (zgi (wpAny_tryCatch ?_)));unfold Builtin.Dict.pairItems;refine zgi (zi0 bf ?_);rw [if_pos ⋯];refine zgi (zh0 eo ba (zgo ?_));show wpAny _ _ (holding [.ref b,u2] (dictSet d (.ref b) u2)) _ _ _;have dH:=Za I1 hd od λx hx=>sameT sub (Z x hx);have bh:=wW I1 (sameT sub ae);have c3:es.length=n:=by
   have:=congrArg List.length S;rw [zgH,zik]at this;omega
  have bi:ks[n]∉es.map (·.1):=by
   rw [S];intro z;obtain⟨j,hj,e⟩:=zjl z;rw [List.getElem_take]at e;rw [zik]at hj;exact zhT.mp nd j n ⋯ aa ⋯ e
  refine zih (wpAny_dictSet_heap (hsz:=by omega) (show(A.under _).units<cLine from by rw [show(A.under (Code.builtin "dict.update.loop" _)).units=A.units+1 from rfl];omega) bh dH λbl ah hs=>?_);rw [storedH_new (Wq bi)]at ah;obtain⟨o',aj,bm⟩:=zcU ah;have I2:=I1.write (x:=d) (e:=d) (o:=atO d o') (t':=s.toks+(tupleKind (intKind X.prog X.w)).draws ks[n]) (h':=bl) (by rw [hd];exact zh8) (.inl rfl) (λb q J z=>(hs.2 b J).trans z) ⟨_,aj⟩ (W5 aj);have ak:it≠d:=λq=>by have:=O.1;rw [q,hd]at this;cases this
  have tk:ks.take (n+1)=ks.take n++[ks[n]]:=by rw [List.take_succ,zgn aa];rfl
  have ty:ys.take (n+1)=ys.take n++[ys[n]]:=by rw [List.take_succ,zgn ⋯];rfl
  refine zgo ⟨xn _,ih (n+1) _ _ o' _ (i+1) 0 ⋯ I2 (λc o e=>?_) (by rw [zJ ap];exact Y) (az.at λo q=>(hs.2 it ak).trans q) ⟨by rw [zJ ak];exact O.1,O.2⟩ zH bm ?_ ?_ ?_ λs' o3 bp a1 a2 a3 a4 I3=>hR s' o3 bp a1 a2 a3 a4 ?_⟩
  ·rw [zJ (λq=>by rw [q,ao]at e;cases e)];exact sub _ _ e
  ·rw [zg4,S,tk];rfl
  ·intro x hx
   rcases ziJ.mp hx with z | z
   ·exact Z x z
   ·rw [zju.mp z];exact ae
  ·rw [zg4,ty]
   exact a0.append (.cons bd .nil)
  ·rw [yI]at I3;exact I3
theorem XJ{Q:Value->Shared->Prop}{H:Hp}{s:Shared}(I:Inv X pins σ H s)(U:X.A.handled=none)(hu:X.A.units+64<cLine)(sub:Same H0 H)(z:H l=some (.lst xs))(hx:xs.length=ks.length)(hy:ys.length=ks.length)(nd:ks.Nodup)
 (hp : ∀(n:Nat) (h1:n<xs.length) (h2:n<ks.length) (h3:n<ys.length),∃p b,xs[n] = .ref p/\SqT X.K H0 p [.ref b,ys[n]]/\SqT X.K H0 b (ks[n].map V.int)) (hz:ks.length<=sizeLine)
 (hQ : ∀s' p o es,H p=none->(p==sysModules)=false->zbM o es->es.map (·.1)=ks->(∀x∈es,SqT X.K H0 x.2.1 (x.1.map V.int))->Vals ys (es.map (·.2.2))->Inv X pins σ (upd H p (atO p o)) s'->Q (.ref p) s'):wpAny (model X.prog X.w) X.A (call (.type "dict") [.ref l]) Q X.xe s:=by
 have J:H s.heap.objs.size=none:=I.fresh;have ab:H0 s.heap.objs.size=none:=jp sub J;have Y:l≠s.heap.objs.size:=λq=>by rw [q,J]at z;cases z
 have ac:(s.heap.objs.size==sysModules)=false:=beq_eq_false_iff_ne.mpr (zhM I.big);refine callType_codes (Q₁:=λobj Z=>obj = .ref s.heap.objs.size/\Z = {s with heap:=s.heap.push {cls:= .type "dict",data:= .dict #[]}}) F.kt_called_dict (F.kt_typeCall_dict_1 _) F.entry_dict_init (kt_code_dict_new _ ⟨rfl,rfl⟩) ?_;rintro obj Z ⟨rfl,rfl⟩;have I1:=I.laid (a:=s.heap.objs.size) (o:=atO s.heap.objs.size {cls:= .type "dict",data:= .dict #[]}) (t':=s.toks) (λ_ _ q=>zgk {cls:= .type "dict",data:= .dict #[]} q) (zgp _) (W5 (zgu _ rfl));have a0:({s with heap:=s.heap.push {cls:= .type "dict",data:= .dict #[]}}:Shared).TypeIs (.ref s.heap.objs.size) "dict":=⟨_,zgu _ rfl,rfl⟩;obtain⟨z1,a5,c,rv,ll,el⟩:=I.lstM z;have O:(s.heap.push {cls:= .type "dict",data:= .dict #[]}).get? l=some {cls:= .type "list",data:= .seq a5.toArray c}:=zgk _ el;refine⟨a0,F.args_dict_init_2 _ _,?_⟩;unfold Builtin.«dict.__init__»;refine zgi ?_;unfold Builtin.Dict.selfAndRest;refine zgi (wpAny_notOrdered_dict a0 ?_);show wpAny _ _ (pure (s.heap.objs.size,[zgK l])) _ _ _;refine zgo ?_;show wpAny _ _ (Builtin.Dict.updateFrom "dict.__init__" s.heap.objs.size (.ref l) [] .none) _ _ _;unfold Builtin.Dict.updateFrom;refine zgi (zi0 (T:="list") ⟨_,O,rfl⟩ ?_);rw [if_pos ⋯];refine zgi (KP (g:=s.gens) (d:=s.drawn) (t:=s.toks) (os:=s.os) O (show X.A.in1.in1.handled=none from U) λh' t' k=>?_);have S:Inv X pins σ (upd H s.heap.objs.size (atO s.heap.objs.size {cls:= .type "dict",data:= .dict #[]})) {s with heap:=h',toks:=t'}:=I1.kept k;have af:=k _ _ O;simp only [Option.isNone_none,if_true];refine zgi (zi6 (zgi (zjS (items:=a5.toArray) ⟨_,af,rfl,_,rfl⟩ ?_)));refine zgo ⟨xn _,?_⟩;have I3:=S.kept (h':=h'.push {cls:= .type "list_iterator",data:= .fields #[.ref l,.int 0 0]}) (t':=t') λb o e=>zgk _ e;have fp:=S.fpOk (b:=h'.objs.size) (H':=upd H s.heap.objs.size (atO s.heap.objs.size {cls:= .type "dict",data:= .dict #[]})) (zgp _) S.fresh;refine XI (H0:=H0) (l:=l) (it:=h'.objs.size) (ks:=ks) (ys:=ys) (xs:=xs) (show X.A.in1.handled=none from U) (by show X.A.in1.units+8<cLine;rw [units_in1];omega) hx hy nd hz hp ab Y ks.length 0 _ (upd H s.heap.objs.size (atO s.heap.objs.size {cls:= .type "dict",data:= .dict #[]})) {cls:= .type "dict",data:= .dict #[]} [] 0 0 (zhL _) I3 (sub.trans (z5 J _)) (by rw [zJ Y];exact z) ⟨_,zgu _ rfl,rfl,rfl⟩ fp zH ⟨⟨rfl,rfl,rfl⟩,#[],0,rfl,rfl,List.nodup_nil⟩ rfl (λx hx=>nomatch hx) .nil λs' o' ah a1 a2 a3 a4 I4=>?_;rw [yI]at I4;exact⟨rfl,hQ s' _ o' ah J ac a1 a2 a3 a4 I4⟩
end
theorem wX{K:PySem.W.Frag}{H:Hp}{d:D}{k:List Int}{v:V}(e:W0 d=some k)(r:Rep K H d v) : ∃b,v = .ref b/\SqT K H b (k.map V.int):=by
 cases d with
 | tup ds=>
  obtain⟨b,zs,rfl,z,I⟩:=xk r;have:=wn e I;refine⟨b,rfl,?_⟩;rw [this]at z;simpa [kV,zhf,Function.comp_def]using z
 | _=>cases e
theorem vW{K:PySem.W.Frag}{H:Hp} : ∀{ps ks vs:List D} {xs:List V} {ns:List (List Int)},xj ps=some (ks,vs)->Reps K H ps xs->Xv ks=some ns->
 ∃ys,Reps K H vs ys/\ys.length=ns.length/\xs.length=ns.length/\∀(n:Nat) (h1:n<xs.length) (h2:n<ns.length) (z:n<ys.length),∃p b,xs[n] = .ref p/\SqT K H p [.ref b,ys[n]]/\SqT K H b (ns[n].map V.int)
 | [],ks,vs,xs,ns,h,r,hi=>by
  cases h;cases hi;rw [r.inv_nil];exact⟨[],Reps.nil,rfl,rfl,λn h1=>by cases h1⟩
 | d::ps,ks,vs,xs,ns,h,r,hi=>by
  unfold xj at h;split at h
  ·split at h
   ·rename_i k v
    obtain⟨⟨a,b⟩,e1,I⟩:=zE h;cases I;obtain⟨x,xr,rfl,h1,h2⟩:=r.inv_cons;obtain⟨j,J,O⟩:=bind_some hi;obtain⟨nr,S,U⟩:=zE O;subst U;obtain⟨ys,Y,Z,i3,i4⟩:=vW e1 h2 S;obtain⟨q,zs,rfl,z,h4⟩:=xk h1;obtain⟨y1,yr,rfl,h5,h6⟩:=h4.inv_cons;obtain⟨y2,ag,rfl,h7,h8⟩:=h6.inv_cons;obtain⟨kb,rfl,a9⟩:=wX J h5;rw [h8.inv_nil]at z;refine⟨y2::ys,Reps.cons h7 Y,by simp [Z],by simp [i3],λn g1 g2 g3=>?_⟩;cases n with
    | zero=>exact⟨q,kb,rfl,z,a9⟩
    | succ n=>exact i4 n (by simpa using g1) (by simpa using g2) (by simpa using g3)
   ·cases h
  ·cases h
section
variable{X:Cx}{sc:Scope}{N L:List Str}{k:Nat}{a o i:Expr}{f:CO (List D)}{fd fk:CO D}{p pos:Pos}
theorem Qj(h:SX X sc N L k)(cd:yf sc "dict" = true)(zd:X.mg "dict" = none)(ha:PO X a f)(hs:starEach [a] X.env=[(false,eval a X.env)]:=by rfl) :
 PV X (.Call (.Name "dict" p) [a] [] pos) (v5 f):=by
 intro pins s σ H Q I S;obtain⟨H0,γ,d,rc,J,q⟩:=S;obtain⟨ps,e1,J⟩:=bind_some J;obtain⟨⟨ds,es⟩,e2,J⟩:=bind_some J;obtain⟨ks,e3,J⟩:=bind_some J;have hh:X.A.handled=none:=I.ok.hd h.calm;by_cases U:ks.Nodup/\ks.length<=lim
 ·rw [if_pos U]at J
  cases J;refine Call_ (xX I (h.gl cd).1 zd PyProof.Rows.boot_dict (zho ?_ (by rw [hs];rfl) rfl));rw [hs];show wpAny _ _ (spliced ((false,eval a X.env)::[])) _ _ s;refine zh9 (thn (ha pins s σ H (λv H1=>∃l xs z,v = .ref l/\Ext H0 H z H1/\z l=none/\H1 l=some (.lst xs)/\Reps X.K z ps xs) I ⟨H0,γ,ps,rc,e1,λl xs H1 z x1 g1 g2 Y Z=>⟨l,xs,z,rfl,x1,g2,Y,Z⟩⟩) λv s1 S=>?_);obtain⟨y,H1,I1,ry,l,xs,z,rfl,x1,g2,Y,Z⟩:=S;cases ry;refine ziX ?_;obtain⟨ys,r1,r2,r3,r4⟩:=vW e2 Z e3;have:lim<=sizeLine:=by decide
  refine XJ (H0:=z) (ks:=ks) (ys:=ys) (xs:=xs) I1 hh h.u64 x1.sub Y r3 r2 U.1 r4 ⋯ λs' p ob zs O ai a1 a2 a3 a4 I3=>?_;have a7:Same z (upd z p (atO p ob)):=z5 (jp x1.sub O) _;exact⟨.ref p,_,I3,rfl,q (.ref p) _ _ ((x1.trans (Ext.hide x1.sub O _)).show (kv x1.s1 O) (jp x1.sub O) zH rc.sub)
   (show ∃a xs,V.ref p = .ref a/\DRt X.K (upd z p _) a ks xs/\Reps X.K (upd z p _) es xs from⟨p,ys,rfl,⟨ai,ob,zs,zH,a1,a2,by have:=congrArg List.length a2;rw [zgH]at this;omega,λx hx=>sameT a7 (a3 x hx),a4⟩,r1.mono a7⟩)⟩
 ·rw [if_neg U]at J;cases J
end
theorem JM{K:PySem.W.Frag}{H:Hp}{i:List Int} : ∀{xs:List (List Int×Addr×Value)} {vs:List D} {ys:List V},Reps K H vs ys->Vals ys (xs.map (·.2.2))->
 (∀d,XD (xs.map (·.1)) vs i=some d->∃y p,atKey xs i=some p/\Rep K H d y/\RelV y p.2)/\(XD (xs.map (·.1)) vs i=none->atKey xs i=none)
 | [],vs,ys,r,v=>⟨(λd q=>by cases q),λ_=>rfl⟩
 | x::xs,vs,ys,r,v=>by
  cases v with
  | cons I J=>
   cases vs with
   | nil=>have:=r.inv_nil;cases this
   | cons d vs=>
    obtain⟨y,S,e,h1,h2⟩:=r.inv_cons;cases e;have O:=JM (i:=i) h2 J;by_cases hx:x.1=i
    ·have e1:atKey (x::xs) i=some x.2:=by unfold atKey;rw [List.find?_cons_of_pos (by simpa using hx)];rfl
     have z:XD ((x::xs).map (·.1)) (d::vs) i=some d:=by show(if x.1=i then _ else _)=_;rw [if_pos hx]
     rw [e1,z];exact⟨λd' q=>by cases q;exact⟨_,x.2,rfl,h1,I⟩,λq=>by cases q⟩
    ·have e1:atKey (x::xs) i=atKey xs i:=by unfold atKey;rw [List.find?_cons_of_neg (by simpa using hx)]
     have z:XD ((x::xs).map (·.1)) (d::vs) i=XD (xs.map (·.1)) vs i:=by show(if x.1=i then _ else _)=_;rw [if_neg hx]
     rw [e1,z];exact O
section
variable{X:Cx}{sc:Scope}{N L:List Str}{k:Nat}{a b o i:Expr}{fd fk fx:CO D}{p pos apos cpos:Pos}
theorem wO(h:SX X sc N L k)(ho:PV X o fd)(hi:PV X i fk)(hs:zfS i:=by intro _ _;rfl):PV X (.Subscript o i pos) (k0 fd fk):=by
 intro pins s σ H Q I S;obtain⟨H0,γ,d,rc,J,q⟩:=S;obtain⟨d1,e1,J⟩:=bind_some J;obtain⟨k1,e2,J⟩:=bind_some J;cases d1 with
 | dct ks vs=>
  obtain⟨j,e3,e4⟩:=bind_some J;refine zal PySem.F.slot_dict_getitem.lookup hs (thn (ho pins s σ H (λv H1=>∃z,Ext H0 H z H1/\Rep X.K z (.dct ks vs) v) I ⟨H0,γ,_,rc,e1,λv H1 z x r=>⟨z,x,r⟩⟩) λu s1 S=>?_);obtain⟨v,H1,I1,r1,z,x1,rp⟩:=S;refine thn (hi pins s1 σ H1 (λv H2=>∃O,Ext z H1 O H2/\Rep X.K O k1 v) I1 ⟨z,γ,_,rc.ext x1,e2,λv H2 O x r=>⟨O,x,r⟩⟩) λu2 s2 S=>?_;obtain⟨v2,H2,Y,r2,O,U,ab⟩:=S;obtain⟨ad,ys,rfl,⟨g0,ob,zs,g1,g2,g3,g4,g5,g6⟩,g7⟩:=(show ∃a xs,v = .ref a/\DRt X.K z a ks xs/\Reps X.K z vs xs from rp);subst g3;cases (show u=zgK ad from r1);obtain⟨b,rfl,hb⟩:=wX e3 ab;cases (show u2=zgK b from r2);have Z:Same z H2:=U.s0.trans U.sub;have dH:=Za Y (Z _ _ g1) g2 λx hx=>sameT Z (g5 x hx);obtain⟨y,p,c1,c2,c3⟩:=(JM (g7.mono U.s0) g6).1 d e4;exact⟨dH.typeIs,wpAny_getItem_heap (tupleKind_room_in1 (by have:=h.u64;omega)) (wW Y (sameT U.sub hb)) dH c1 ⟨y,H2,Y.tok _,c3,q y H2 O (x1.trans U) c2⟩⟩
 | _=>cases J
theorem Jw(h:SX X sc N L k)(ho:PV X o fd)(ha:PV X a fk)(hb:PV X b fx)(m:M2 X o "get" apos a b cpos:=by exact⟨by rfl,by rfl,by rfl,by rfl⟩):PV X (.Call (.Attribute o "get" apos) [a,b] [] cpos) (ZC fd fk fx):=by
 intro pins s σ H Q I S;obtain⟨H0,γ,d,rc,J,q⟩:=S;obtain⟨d1,e1,J⟩:=bind_some J;obtain⟨k1,e2,J⟩:=bind_some J;obtain⟨w1,e5,J⟩:=bind_some J;cases d1 with
 | dct ks vs=>
  obtain⟨j,e3,e4⟩:=zE J;subst e4;refine wpAny_Call_method m.base m.few m.line PySem.F.plainAttrs_dict PySem.F.slot_dict_get PySem.F.type_dict_get (thn (ho pins s σ H (λv H1=>∃z,Ext H0 H z H1/\Rep X.K z (.dct ks vs) v) I ⟨H0,γ,_,rc,e1,λv H1 z x r=>⟨z,x,r⟩⟩) λu s1 S=>?_);obtain⟨v,H1,I1,r1,z,x1,rp⟩:=S;obtain⟨ad,ys,rfl,⟨g0,ob,zs,g1,g2,g3,g4,g5,g6⟩,g7⟩:=(show ∃a xs,v = .ref a/\DRt X.K z a ks xs/\Reps X.K z vs xs from rp);subst g3;cases (show u=zgK ad from r1);have a4:=Za I1 (x1.sub _ _ g1) g2 λx hx=>sameT x1.sub (g5 x hx);refine⟨a4.typeIs,dictOfH_noDict a4,?_⟩;rw [m.trees];refine Calls.callWith_builtin rfl (Calls.evalArgs_plain (zh9 (thn (ha pins s1 σ H1 (λv H2=>∃U,Ext z H1 U H2/\Rep X.K U k1 v) I1 ⟨z,γ,_,rc.ext x1,e2,λv H2 U x r=>⟨U,x,r⟩⟩) λu2 s2 S=>?_)));obtain⟨v2,H2,I2,r2,U,x2,ao⟩:=S;refine zh9 (thn (hb pins s2 σ H2 (λv O=>∃Y,Ext U H2 Y O/\Rep X.K Y w1 v) I2 ⟨U,γ,_,(rc.ext x1).ext x2,e5,λv O Y x r=>⟨Y,x,r⟩⟩) λu3 s3 S=>ziX ?_);obtain⟨v3,O,I3,r3,Y,x3,aq⟩:=S;obtain⟨kb,rfl,ar⟩:=wX e3 ao;cases (show u2=zgK kb from r2);have Z:=x2.trans x3;have a8:Same z O:=Z.s0.trans Z.sub;have dH:=Za I3 (a8 _ _ g1) g2 λx hx=>sameT a8 (g5 x hx);refine call_meetsIn PySem.F.slot_dict_get dH.typeIs PySem.F.entry_dict_get (PySem.F.args_dict_get_3 _ _ _) (meetsH_dict_get_default (tupleKind (intKind X.prog X.w)) ad kb g0 u3) ⟨tupleKind_room_in1 (by have:=h.u64;omega),j,zs,wW I3 (sameT (x3.s0.trans x3.sub) ar),dH,?_⟩;obtain⟨c1,c2⟩:=JM (i:=j) (g7.mono Z.s0) g6;cases hv:XD (zs.map (·.1)) vs j with
  | none=>
   rw [hv]at q;rw [c2 hv];exact⟨v3,O,I3.tok _,r3,q v3 O Y (x1.trans Z) aq⟩
  | some dv=>
   rw [hv]at q;obtain⟨y,p,f1,f2,f3⟩:=c1 dv hv;rw [f1];exact⟨y,O,I3.tok _,f3,q y O Y (x1.trans Z) f2⟩
 | _=>cases J
end
section
variable{prog:Program}{w:World}{A:Around}{E:Value->Shared->Prop}{s:Shared}{d it:Addr}{o:Obj}{es:Array DictEntry}{i n ep:Nat}
theorem K3{Q:Value->Shared->Prop}(hd:(d==sysModules)=false)(z:s.heap.get? d=some o)(hx:o.ExactDict)(J:o.data = .dict es ep)(hn:es.size=n)
 (O:Q (.ref s.heap.objs.size) {s with heap:=s.heap.push {cls:= .type "dict_keyiterator",data:= .fields #[.ref d,.int 0 0,.int n 0,.int ep 0]}}):wpAny (model prog w) A (pyIter (.ref d)) Q E s:=by
 have I:s.TypeIs (.ref d) "dict":=⟨o,z,hx.1⟩;refine wpAny_pyIter_slot I F.slot_dict_iter (zhu F.slot_dict_iter I F.entry_dict_iter ?_ (F.args_dict_iter_1 _));unfold Builtin.«dict.__iter__»;refine zgi ?_;unfold Builtin.Dict.dictSlotNone;refine zgi (wpAny_notOrdered_dict I ?_);show wpAny _ _ (pure (zgK d)) _ _ s;refine zgo ?_;show wpAny _ _ (Builtin.Dict.showsAll d >>= _) _ _ s;unfold Builtin.Dict.showsAll;rw [if_neg (by rw [hd];exact zgB)];refine zgi (zgo ?_);refine zgi (zjT z J ?_);refine zgi (wpAny_dictEpoch z J ?_);refine zgi (zg8 (zgo ⟨_,rfl,"dict_keyiterator",_,⟨_,zgu _ rfl,rfl⟩,zhP.lookup,?_⟩));simpa [rawInt,hn]using O
theorem VJ{Q:Option Value->Shared->Prop}(z:s.heap.IsKeyIter it d i n ep)(J:s.heap.get? d=some o)(O:o.data = .dict es ep)(hsz:es.size=n)(U:i<es.size)
 (Y : ∀h',h'.IsKeyIter it d (i+1) n ep->zh2 it s.heap h'->Q (some es[i].key) {s with heap:=h'}):wpAny (model prog w) A (pyNext (.ref it)) Q E s:=by
 obtain⟨o,I,Z,hd⟩:=id z;unfold pyNext;refine zgi (zii (zg9 (name:=zhg "__next__") z.typeIs zhP
  (zhu zhP z.typeIs zjU ?_ (zjR _))))
 refine zgi (zgo ?_);refine zgi ?_;refine zgi ?_;refine zgi (zic z.typeIs (zgo ?_));refine zgi (wpAny_fieldsOf I hd ?_);have a0:zi5 "dict_keyiterator" = false:=by decide
 simp only [a0,zib,if_false];show wpAny _ _ (if (zgK d==zhI)=true then _ else _) _ _ s;rw [if_neg (show ¬((zgK d==zhI)=true)from zgB)];refine zgi (zgo ?_);refine zgi (zjT J O ?_);rw [if_neg (by rw [hsz];simp)];refine zgi (zgo ?_);refine zgi (wpAny_dictEpoch J O ?_);rw [if_neg ⋯];refine zgo ?_;simp only [show ¬((i:Int)<0)from by omega,if_false,zhn,Array.getElem?_eq_getElem U];refine zgi ?_;refine zgi (zic z.typeIs (zgo ?_));refine zgi (wpAny_isOneOf_keyiter z.typeIs ?_);show wpAny _ _ (setField (.ref it) 1 (rawInt ((i:Int)+1)) >>= _) _ _ s;refine zgi (zjz I hd ⋯ ?_);have S:(s.heap.update it (Obj.mapFields (·.setIfInBounds 1 (rawInt ((i:Int)+1))))).IsKeyIter it d (i+1) n ep:=
  ⟨_,zjc _ I (zjg (ziu hd _)),(zjG ..).trans Z,by rw [ziu hd];simp [rawInt]⟩
 refine zgi (zih ?_);refine zgi (wpAny_isOneOf_keyiter (s:={s with heap:=s.heap.update it (Obj.mapFields (·.setIfInBounds 1 (rawInt ((i:Int)+1))))}) S.typeIs ?_);show wpAny _ _ (pure es[i].key) _ _ _;exact zgo (zgo ⟨_,rfl,zgo (Y _ S (zix ..))⟩)
theorem ZQ{Q:Option Value->Shared->Prop}(S:A.handled=none)(z:s.heap.IsKeyIter it d i n ep)(I:s.heap.get? d=some o)(J:o.data = .dict es ep)(hsz:es.size=n)(U:es.size<=i)
 (Y : ∀h',Heap.ExtBut it s.heap h'->Q none {s with heap:=h'}):wpAny (model prog w) A (pyNext (.ref it)) Q E s:=by
 obtain⟨o,O,hc,hd⟩:=id z;unfold pyNext;refine zgi (zii (zg9 (name:=zhg "__next__") z.typeIs zhP
  (zhu zhP z.typeIs zjU ?_ (zjR _))))
 refine zgi (zgo ?_);refine zgi ?_;refine zgi ?_;refine zgi (zic z.typeIs (zgo ?_));refine zgi (wpAny_fieldsOf O hd ?_);have Z:zi5 "dict_keyiterator" = false:=by decide
 simp only [Z,zib,if_false];show wpAny _ _ (if (zgK d==zhI)=true then _ else _) _ _ s;rw [if_neg (show ¬((zgK d==zhI)=true)from zgB)];refine zgi (zgo ?_);refine zgi (zjT I J ?_);rw [if_neg (by rw [hsz];simp)];refine zgi (zgo ?_);refine zgi (wpAny_dictEpoch I J ?_);rw [if_neg ⋯];refine zgo ?_;simp only [show ¬((i:Int)<0)from by omega,if_false,zhn,Array.getElem?_eq_none U];refine zgi ?_;refine zgi (zic z.typeIs (zgo ?_));show wpAny _ _ (setField (.ref it) 0 .none >>= _) _ _ s;refine zgi (zjz O hd ⋯ ?_);show wpAny _ _ (newExc (.type "StopIteration") [] >>= _) _ _ _;refine zgi ?_;simp only [newExc,newTuple];refine zgi (zg8 ?_ (by size_fits));refine zgi (m:=firstArgMember _ _) (zjE (a:=zhI) (by first | rfl | (simp only [firstArgMember];rfl)) ?_);refine zg8 ?_ (by size_fits);simp only [raiseNew];refine zgi (wpAny_handled ?_);rw [show A.in1.handled=none from S];refine zgi (zgo (wpAny_throw ?_));refine zgi (zjW (T:="StopIteration") (b:=true) ⟨_,zgu _ rfl,rfl⟩ isSubtype_stop ?_);exact zgo (Y _ (((zix ..).extBut.push _).push _))
end
def Itd(a:Addr)(o:Obj)(xs:List (List Int×Addr×Value)):It:=⟨λi H=>H a=some (atO a o)/\i<xs.length,λi H x H'=>H'=H/\∃e,xs[i]? = some e/\x = .ref e.2.1,λi H=>H a=some (atO a o)/\xs.length<=i⟩
theorem X3{P:Program}{w:World}{K:PySem.W.Frag}{tg:Expr}{a:Addr}{o:Obj}{xs:List (List Int×Addr×Value)}{es:Array DictEntry}{ep:Nat}(hd:o.data = .dict es ep)(O:es.toList=xs.map (λx=>⟨zaj x.1,.ref x.2.1,x.2.2⟩))(it:Addr) :
 Turn P w K tg (Itd a o xs) [it] it (λi h=>h.IsKeyIter it a i xs.length ep) where
 mem:=by simp
 obj:=λi h st b z=>by
  have e:b=it:=by simpa using z
  subst e;obtain⟨o,e,c,d⟩:=st;exact⟨o,e,λv q=>by rw [d]at q;cases q⟩
 keep:=λi h h' st k=>by obtain⟨o,e,r⟩:=st;exact⟨o,k it ⋯ o e,r⟩
 item:=by
  rintro X rfl rfl rfl hc i pins s σ H E I J st S;obtain⟨U,Y,f2,Z,f4,f5⟩:=J it ⋯;obtain⟨ha,hi⟩:=S;obtain⟨ho,_⟩:=(show ObjOk X.prog X.w H s.heap a (atO a o)from I.hok a _ ha);have hsz:es.size=xs.length:=by rw [<- zhQ,O,zgH]
  have a4:i<es.size:=by omega
  have ek:es[i].key = .ref (xs[i]).2.1:=by
   have:es[i]? = some ⟨zaj xs[i].1,.ref xs[i].2.1,xs[i].2.2⟩:=by rw [<- Array.getElem?_toList,O,zg6,zgn hi];rfl
   rw [Array.getElem?_eq_getElem a4]at this;rw [zhy this]
  refine VJ st ho hd hsz a4 λh' a5 sb=>⟨_,rfl,?_⟩;rw [ek];have I1:Inv X pins σ H {s with heap:=h'}:=I.turned (t':=s.toks) (λb o z e=>(sb.2 b z).trans e) U Y Z f4 f5;obtain⟨oi,e,c,d⟩:=id a5;exact V5 (s:={s with heap:=h'}) e c d ⋯ ⟨.ref xs[i].2.1,H,I1,rfl,⟨rfl,xs[i],zgn hi,rfl⟩,a5,λb z=>(J b z).1⟩
 done:=by
  rintro X rfl rfl rfl hc i pins s σ H E I J st S;obtain⟨U,Y,f2,Z,f4,f5⟩:=J it ⋯;obtain⟨ha,hi⟩:=S;obtain⟨ho,_⟩:=(show ObjOk X.prog X.w H s.heap a (atO a o)from I.hok a _ ha);have hsz:es.size=xs.length:=by rw [<- zhQ,O,zgH]
  exact ZQ (I.ok.hd hc) st ho hd hsz ⋯ λh' eb=>⟨rfl,I.turned (t':=s.toks) (λb o z e=>eb b o z e) U Y Z f4 f5⟩
 self:=λA i s Q E st h=>wpAny_pyIter_keyiter st h
theorem kB{K:PySem.W.Frag}{H:Hp} : ∀zs:List Int,Reps K H (zs.map D.int) (zs.map V.int)
 | []=>Reps.nil
 | z::zs=>Reps.cons (show V.int z = .int z from rfl) (kB zs)
theorem XY{K:PySem.W.Frag}{H0 Hs:Hp}{a:Addr}{o:Obj}{xs:List (List Int×Addr×Value)}(h:Hs a=some (atO a o))(J : ∀x∈xs,SqT K H0 x.2.1 (x.1.map V.int)):Walk K H0 Hs (Itd a o xs) ((xs.map (·.1)).map λk=> .tup (k.map .int)):=by
 have z:((xs.map (·.1)).map λk=>D.tup (k.map .int)).length=xs.length:=by simp
 refine⟨λi H1 s hi=>?_,λH1 s=>?_,λi H1 x H1' s hi y=>?_⟩
 ·rw [z]at hi;exact⟨s _ _ h,hi⟩
 ·rw [z];exact⟨s _ _ h,zgp _⟩
 ·obtain⟨rfl,e,I,rfl⟩:=y
  refine⟨.tup (e.1.map .int),by simp [I],λG0 s1 s2=>⟨G0,Ext.refl s2,?_⟩⟩;exact j7 (sameT s1 (J e (ziD I))) (kB _)
section
variable{X:Cx}{tg a:Expr}{f:CO D}
theorem Qq(ha:PV X a f):PIF X tg a (Xb f):=by
 intro pins s σ H R I S;obtain⟨H0,γ,ds,rc,J,q⟩:=S;obtain⟨d,e0,J⟩:=bind_some J;cases d with
 | dct ks vs=>
  cases J;refine thn (ha pins s σ H (λv H1=>∃z,Ext H0 H z H1/\Rep X.K z (.dct ks vs) v) I ⟨H0,γ,_,rc,e0,λv H1 z x r=>⟨z,x,r⟩⟩) λu s1 S=>?_;obtain⟨v,H1,O,r1,z,x1,rp⟩:=S;obtain⟨ad,ys,rfl,⟨g0,ob,zs,U,⟨g2,es,ep,Y,Z,_⟩,g3,g4,g5,g6⟩,g7⟩:=(show ∃a xs,v = .ref a/\DRt X.K z a ks xs/\Reps X.K z vs xs from rp);subst g3;cases (show u=zgK ad from r1);obtain⟨ho,_⟩:=(show ObjOk X.prog X.w H1 s1.heap ad (atO ad ob)from O.hok ad _ (x1.sub _ _ U));refine K3 g0 ho g2 Y (by rw [<- zhQ,Z,zgH]) ?_;refine⟨s1.heap.objs.size,[s1.heap.objs.size],_,_,H1,rfl,O.kept (t':=s1.toks) λb o e=>zgk _ e,X3 Y Z _,⟨_,zgu _ rfl,rfl,rfl⟩,λb hb=>?_,q _ H1 z x1 (XY U g5)⟩;have e:b=s1.heap.objs.size:=by simpa using hb
  subst e;exact O.fpOk (zgp _) (O.hok.fresh (zgp _))
 | _=>cases J
end
def wy:List D->Option Res:=jb 1 (zF (sIf (zaA (qN (sB (sIs .str (zc 0)))) (sB (zm dGe (Js (zc 0)) (zh (.int 6))))) (jO (zh (.bl false))) jP) (jO (zaC (jh (zC (WH (zc 0)) (.nm 0) 1 [] z6 (zfw (zc 0) (zz (zh (.tup [.str "r",.str "l"])))))))))
def yj:List D->Option Res:=jb 2 (zF (sIf (zaA (qN (sB (zw J3 (za (zc 1) (za (zh (.int 2)) zu))))) (zaA (qN (sB (zw Jk (za (zc 0) (za (sIx (zf 1) (zh (.int 0))) zu))))) (qN (sB (zw Jk (za (zc 0) (za (sIx (zf 1) (zh (.int 1))) zu))))))) (jO (zh (.bl false))) jP) (jO (zm dLe (sIx (zf 1) (zh (.int 0))) (sIx (zf 1) (zh (.int 1))))))
def YZ:List D->Option Res:=jb 2 (qy (zC (Qe (zc 0)) (.tp [0,1]) 2 [1] (sB (Qf dLe dLe (sIx (zf 1) (zh (.int 0))) (zc 2) (sIx (zf 1) (zh (.int 1))))) (zc 0)))
def J4:List D->Option Res:=jb 3 (zF (zO 2 (ja (zC (zB (zf 0)) (.nm 0) 1 [1] z6 (zM (jh (zC (zB (zf 1)) (.nm 0) 1 [0] z6 (ZB (sB (zm dEq (zc 1) (zc 0))) (zh (.int 1)) (zh (.int 0))))))))) (jO (ju (za (xV (zf 0)) (za (xV (zf 1)) (za (zM (zf 2)) zu))))))
def F_law_cell:List D->Option Res:=jb 5 (zF (sIf (wL (sB (zm dGt (xV (zf 0)) (zh (.int 1)))) (sB (zm dEq (zm qa (sIx (zf 0) (zh (.int 0))) (zh (.int 2))) (zh (.int 1))))) (zF (zO 2 (sIx (zf 0) (zm jo (zh (.int 1)) (zm qa (zc 1) (zm kf (xV (zf 0)) (zh (.int 1))))))) (zF (xK (zY (zaB (zh (.int 60)) (zm Z5 (zc 1) (zm kf (xV (zf 0)) (zh (.int 1)))))) (.nm 3) (zO 2 (zm Z5 (zc 2) (zm zbo (zh (.int 10)) (zh (.int 9)))))) (jO (zm qa (zc 2) (zm zbo (zh (.int 10)) (zh (.int 9))))))) jP) (zF (zO 4 (zc 1)) (zF (sIf (sB (zm dGt (xV (zf 0)) (zh (.int 0)))) (zO 4 (sIx (zf 0) (zm qa (zc 1) (xV (zf 0))))) jP) (jO (zm qa (zm qi (zm qa (zm jo (zm jo (zm jo (zm qi (zm qa (zc 4) (zm zbo (zh (.int 10)) (zh (.int 30)))) (zh (.int 48271))) (zm qi (zm qi (zh (.int 7)) (zc 1)) (zc 1))) (zm qi (zh (.int 13)) (zc 1))) (zh (.int 5))) (zh (.int 2147483647))) (zh (.int 69621))) (zh (.int 1000000007)))))))
def F_tables_joined:List D->Option Res:=jb 5 (zF (zO 3 (ja (zC (Jq (sIx (zf 0) (zh (.int 2))) (sIx (zf 2) (zh (.int 2)))) (.tp [0,1]) 2 [] z6 (zm jo (zc 0) (zc 1))))) (zF (zO 4 (ja (zC (zB (zz (sIx (zf 1) (zh (.int 2))))) (.nm 0) 1 [0] z6 (zm jo (zm qi (ju (za (zh (.int 0)) zu)) (sIx (zf 1) (zh (.int 1)))) (zc 0))))) (jO (ju (za (zm jo (sIx (zf 0) (zh (.int 0))) (sIx (zf 1) (zh (.int 0)))) (za (zm jo (sIx (zf 0) (zh (.int 1))) (sIx (zf 1) (zh (.int 1)))) (za (zM (zz (ja (xQ (zf 3) (zf 4))))) zu)))))))
def F_no_join:List D->Option Res:=jb 2 (jO (zw F_nought_table (za (sIx (zf 0) (zh (.int 0))) (za (sIx (zf 1) (zh (.int 1))) zu))))
def F_tables_beside_5:List D->Option Res:=jb 2 (jO (zw F_tables_joined (za (zc 0) (za (zc 1) (za (zw F_no_join (za (zc 0) (za (zc 1) zu))) zu)))))
def F_led_on:List D->Option Res:=jb 3 (qy (zQ F_base_of (za (zc 0) (za (sIx (zf 1) (zh (.int 0))) (za (ja (zC (zB (zf 2)) (.nm 0) 1 [0,1] z6 (zw F_led (za (zc 1) (za (zc 2) (za (zc 0) zu)))))) zu)))))
def F_link:List D->Option Res:=jb 6 (zF (zO 3 (zw F_same_table (za (sIx (zz (sIx (zf 0) (zh (.int 1)))) (zc 1)) zu))) (zF (qJ 4 (zC (zB (zz (sIx (zf 3) (zh (.int 2))))) (.nm 0) 1 [] z6 (zm jo (zc 0) (zc 0)))) (zF (xK (zB (zz (Qd (sIx (zf 0) (zh (.int 2))) (sBd (zc 1)) (sBd (zc 2))))) (.nm 5) (zbH 4 (qJ 4 (Qg F_led_on F_led_into (za (sIx (zf 0) (zh (.int 0))) (za (sIx (zf 5) (zh (.int 0))) (za (zw F_tables_beside_5 (za (zc 3) (za (sIx (zf 5) (zh (.int 1))) zu))) (za (zc 4) zu)))))))) (yo 4))))
def F_law_less_k22:List D->Option Res:=jb 4 (qy (zC (Jq (zc 1) (zc 2)) (.tp [0,1]) 2 [0,3] z6 (zm qa (zm kf (zc 0) (zm qi (zc 3) (zc 1))) (zc 2))))
def F_law_base_k22:List D->Option Res:=jb 9 (zF (zO 3 (ja (zC (zB (zf 2)) (.nm 0) 1 [] z6 (ja (x9 (zf 0)))))) (zF (zO 4 (ja (jX zu))) (zF (xK (zY (zc 1)) (.nm 5) (zF (zO 6 (ja (zC (zB (zf 3)) (.nm 0) 1 [5] (sB (zm dNe (sIx (zf 0) (zc 1)) (zh (.int 0)))) (zc 0)))) (sIf (sB (zm dGt (xV (zf 6)) (zh (.int 0)))) (zF (zO 7 (sIx (jh (zC (zY (zc 0)) (.nm 0) 1 [0,5,6] (sB (zm dEq (zm qa (zm qi (zc 0) (sIx (zz (sIx (zf 3) (zh (.int 0)))) (zc 2))) (zc 1)) (zh (.int 1)))) (zc 0))) (zh (.int 0)))) (zF (zO 8 (ja (zC (zB (zz (sIx (zf 6) (zh (.int 0))))) (.nm 0) 1 [0,7] z6 (zm qa (zm qi (zc 2) (zc 0)) (zc 1))))) (zF (zO 3 (ja (zC (zB (zf 3)) (.nm 0) 1 [0,5,8] z6 (ja (zQ F_law_less_k22 (za (zc 1) (za (zc 0) (za (zc 3) (za (sIx (zf 0) (zc 2)) zu))))))))) (zO 4 (ja (xQ (jh (zC (zB (zf 4)) (.nm 0) 1 [0,5,8] z6 (ja (zQ F_law_less_k22 (za (zc 1) (za (zc 0) (za (zc 3) (za (sIx (zf 0) (zc 2)) zu)))))))) (jh (jX (za (zc 8) zu))))))))) jP))) (qy (zC (zB (zf 4)) (.nm 0) 1 [] z6 (zM (zf 0)))))))
def F_law_ends_k22:List D->Option Res:=jb 2 (zF (sIf (sB (zm dEq (zc 1) (zh (.str "r")))) (jO (ju (za (zc 0) (za (zm jo (zc 0) (zh (.int 1))) zu)))) jP) (jO (ju (za (zm jo (zc 0) (zh (.int 1))) (za (zc 0) zu)))))
def F_law_row_k22:List D->Option Res:=jb 9 (zF (qJ 4 (jX zu)) (zF (xK (ye (zc 1)) (.tp [5,6]) (zF (wI (.tp [7,8]) (zw F_law_ends_k22 (za (zc 5) (za (zc 6) zu)))) (qp 4 (ju (za (zc 6) (za (ju (za (sIx (zf 2) (zc 8)) (za (sIx (zf 2) (zc 7)) (za (zM (jh (zC (zB (zz (sIx (zf 3) (zc 5)))) (.nm 0) 1 [] z6 (zM (zf 0))))) zu)))) zu)))))) (jO (ju (za (zc 0) (za (zM (zf 2)) (za (zM (zf 4)) zu)))))))
def F_law_ways_k22:List D->Option Res:=jb 4 (zF (zO 2 (zh (.str ""))) (zF (xK (zY (zm kf (zc 1) (zh (.int 1)))) (.nm 3) (zF (zO 2 (Vl (zc 2) (Zz (zh (.str "rl")) (zm qa (zc 0) (zh (.int 2)))))) (zO 0 (zm Z5 (zc 0) (zh (.int 2)))))) (yo 2)))
def F_law_rows_k22:List D->Option Res:=jb 8 (zF (qJ 5 (jX zu)) (zF (xK (zY (zc 3)) (.nm 6) (zF (zO 7 (ja (zC (zY (zc 4)) (.nm 0) 1 [0,1,4,6] z6 (zw F_law_cell (za (zc 1) (za (zm jo (zm jo (zc 2) (zm qi (zc 4) (zc 3))) (zc 0)) zu)))))) (qp 5 (ja (zC (zB (zf 7)) (.nm 0) 1 [2] z6 (zm qi (zm qa (zm Z5 (zc 0) (zh (.int 4))) (zc 1)) (Kk (zm dGt (zm qa (zc 0) (zh (.int 4))) (zh (.int 0)))))))))) (yo 5)))
def F_law_drawn_k22:List D->Option Res:=jb 11 (zF (zO 5 (ja (zC (zY (zm jo (Js (zc 3)) (zh (.int 1)))) (.nm 0) 1 [0,1,4] z6 (zm qa (zw F_law_cell (za (zc 1) (za (zm jo (zc 2) (zc 0)) zu))) (zm jo (zc 3) (zh (.int 1))))))) (zF (qJ 6 (jX zu)) (zF (xK (ye (zc 3)) (.tp [7,8]) (zF (wI (.tp [9,10]) (zw F_law_ends_k22 (za (zc 7) (za (zc 8) zu)))) (qp 6 (ja (zQ F_law_rows_k22 (za (zc 0) (za (zm jo (zm jo (zc 1) (zh (.int 10))) (zm qi (zh (.int 20)) (zc 7))) (za (zc 2) (za (sIx (zf 5) (zc 10)) (za (sIx (zf 5) (zc 9)) zu)))))))))) (zbH 6 (jO (zw F_law_row_k22 (za (zc 2) (za (zc 3) (za (zc 5) (za (zc 6) zu))))))))))
abbrev dsq(k:Sk)(xs:List D):D:=match k with | .T=>D.tup xs | .L=>D.lst xs
@[simp] theorem zfD(k xs):js (dsq k xs)=some (k,xs):=by cases k<;>rfl
theorem wu{p:Int}{n:Nat}(k:Sk)(f:Nat->Int)(z:0<p)(hn:n<=lim) :
 F_rests [.int p,dsq k (zA n f)]=some (.val (.tup (zA n λi=>f i%p))):=by
 simp [F_rests,jb,zV,z4,hn,j3];unfold zA;rw [zo (r:=λi=>D.int (f i%p))]
 ·simp
 ·intro i hi
  refine zq rfl rfl ?_;simp [z]
theorem YX{p:Int}{n:Nat}(f:Nat->Int)(z:0<p)(hn:n<=lim) :
 F_rests [.int p,.tup (zA n f)]=some (.val (.tup (zA n λi=>f i%p))):=wu .T f z hn
theorem vA{p:Int}{n:Nat}(f:Nat->Int)(z:0<p)(hn:n<=lim) :
 F_rests [.int p,.lst (zA n f)]=some (.val (.tup (zA n λi=>f i%p))):=wu .L f z hn
theorem Zn{p:Int}{h w:Nat}(k:Sk)(f:Nat->Nat->Int)(g:Nat->Int)(I:0<p)(z:h<=lim)(hw:w<=lim)(J : ∀i j,i<h->j<w->0<=f i j/\f i j<100) :
 F_led [.int p,j5 h w f,dsq k (zA w g)]=some (.val (.tup (zA h λi=>sumTo (λj=>f i j*g j) w%p))):=by
 simp [F_led,jb,zV,z4,z,j3,j5,zgm];unfold zL;rw [zo (r:=λi=>D.int (sumTo (λj=>f i j*g j) w))]
 ·simp
  rw [show(zjP (λi=>D.int (sumTo (λj=>f i j*g j) w)) (zgj h))=zA h λi=>sumTo (λj=>f i j*g j) w from rfl,vA _ I z];rfl
 ·intro i hi
  refine zq rfl rfl ?_;simp [z4,ki,hw];rw [zo (r:=λj=>D.int (f i j*g j))]
  ·simp
   rw [show(zjP (λj=>D.int (f i j*g j)) (zgj w))=zA w λj=>f i j*g j from rfl,Zv]
  ·intro j O
   refine zq rfl rfl ?_;have:=J i j (zgl.mp hi) (zgl.mp O);simp [qP (f i j) (g j) ⋯ ⋯]
theorem kU{h w:Nat}(f:Nat->Nat->Int)(z:h<=lim)(hw:w<=lim):F_turned_over [j5 h w f]=some (.val (j5 w h λi j=>f j i)):=by
 simp [F_turned_over,jb,zV,z4,z,hw,j3,j5,zgm,zN,jv];rw [zU w λi=>(i:Int)];rw [zo (r:=λj=>D.tup (zA h λi=>f i j))]
 ·simp
  rfl
 ·intro j I
  refine zq rfl rfl ?_;simp [z4,z,j3];unfold zL;rw [zo (r:=λi=>D.int (f i j))]
  ·simp
   rfl
  ·intro i hi
   refine zq rfl rfl ?_;have h1:=zgl.mp I;simp [h1,xO _ h1]
theorem xB{n:Nat}(hn:n<=lim):F_same_table [.int n]=some (.val (j5 n n λi j=>if i=j then 1 else 0)):=by
 simp [F_same_table,jb,zV,zN,hn,z4,j3,zgm,jv];rw [zU n λi=>(i:Int)];rw [zo (r:=λi=>D.tup (zA n λj=>if i=j then 1 else 0))]
 ·simp
  rfl
 ·intro i hi
  refine zq rfl rfl ?_;simp [hn,z4,zgm,jv,j3];rw [zU n λi=>(i:Int)];rw [zo (r:=λj=>D.int (if i=j then 1 else 0))]
  ·simp
   rfl
  ·intro j z
   refine zq rfl rfl ?_;simp;by_cases e:i=j
   ·simp [e]
   ·rw [if_neg ⋯,if_neg e]
theorem xm(d:D)(w:Nat):zgm w d=(zgj w).map λ_=>d:=by
 induction w with
 | zero=>rfl
 | succ n z=>rw [List.replicate_succ',z,zhi,zg4];simp
theorem J1{h w:Nat}(z:h<=lim)(hw:w<=lim):F_nought_table [.int h,.int w]=some (.val (j5 h w λ_ _=>0)):=by
 simp [F_nought_table,jb,zV,zN,qi,z,hw];rw [xm,xm];rfl
def qE(ns:List Int):D:= .lst (ns.map D.int)
theorem J0(i:Int):F_law_whole [.int i]=some (.val (.bl true)):=by
 simp [F_law_whole,jb,zV,W3]
theorem X5{α:Type}(l:List α):kY (l.map λ_=>D.bl true)=some (l.map λ_=>true):=by
 induction l with
 | nil=>rfl
 | cons a l z=>simp [kY,zdF,z]
def wch(b:Bool):Nat:=if b then 108 else 114
def qO(c:Nat):Str:=⟨#[c]⟩
theorem wg : ∀(l:List Nat),(Str.join "" (l.map qO)).cps.toList=l
 | []=>rfl
 | [c]=>rfl
 | c::d::l=>by
  have z:=wg (d::l);show((qO c++("" : Str))++Str.join "" ((d::l).map qO)).cps.toList=_;have e : ∀a b:Str,(a++b).cps.toList=a.cps.toList++b.cps.toList:=λa b=>by
   show(a.cps++b.cps).toList=_;simp
  rw [e,e,z];rfl
def kh(m:Nat)(w:Nat->Bool):Str:=Str.join "" ((zgj m).map λk=>qO (wch (w k)))
theorem xF(m w):(kh m w).cps.toList=(zgj m).map λk=>wch (w k):=by
 have:=wg ((zgj m).map λk=>wch (w k));rw [zhf]at this;exact this
theorem J5(m w):(kh m w).length=m:=by
 show(kh m w).cps.size=m;rw [<- zhQ,xF];simp
theorem kX{m:Nat}(w)(hm:m<=1000):jk (kh m w)=true:=decide_eq_true (by rw [J5];exact hm)
def hiW(w:Nat->Bool)(wd:Nat->Nat)(k:Nat):Nat:=if w k then wd k else wd (k+1)
def wiW(w:Nat->Bool)(wd:Nat->Nat)(k:Nat):Nat:=if w k then wd (k+1)else wd k
def qM(w:Nat->Bool)(wd:Nat->Nat)(T:Nat->Nat->Nat->Int)(k:Nat):D:= .tup [.str (qO (wch (w k))),j5 (hiW w wd k) (wiW w wd k) (T k)]
def qR(m:Nat)(w:Nat->Bool)(wd:Nat->Nat)(T:Nat->Nat->Nat->Int):List D:=(zgj m).map (qM w wd T)
def qe(p:Int)(m:Nat)(w:Nat->Bool)(wd:Nat->Nat)(T:Nat->Nat->Nat->Int):D:= .tup [.int p,.tup (zA (m+1) λk=>(wd k:Int)),.tup (qR m w wd T)]
@[simp] theorem zdv(m w wd T):(qR m w wd T).length=m:=by simp [qR]
theorem zcT(b:Bool):okD (.str (qO (wch b)))=true:=by cases b<;>decide +kernel
theorem zbi(b:Bool):dEq (.str (qO (wch b))) (.str "r")=some (.bl (!b)):=by
 have e : ∀b:Bool,(qO (wch b)==(zhg "r")) = !b:=by decide +kernel
 have z:okD (.str (zhg "r"))=true:=by decide +kernel
 unfold dEq;rw [if_pos ⟨zcT b,z⟩];show some (D.bl (qO (wch b)==zhg "r"))=_;rw [e]
theorem Yx{n i j:Nat}(f:Nat->D)(h1:i<=j)(h2:j<=n):QM ((zgj n).map f) (some (i:Int)) (some (j:Int))=(zgj (j - i)).map λk=>f (i+k):=by
 have c : ∀(d k:Nat),k<=n->JT n d (some (k:Int))=k:=λd k I=>by
  show(if (k:Int)<0 then ((k:Int)+n).toNat else min (k:Int).toNat n)=k;rw [if_neg ⋯];simp only [zhn];omega
 have z:((zgj n).map f).length=n:=by simp
 unfold QM;rw [z,c 0 i ⋯,c n j h2];apply List.ext_getElem
 ·simp;omega
 ·intro k J g2
  simp
section
variable{p:Int}{m:Nat}{w:Nat->Bool}{wd:Nat->Nat}{T:Nat->Nat->Nat->Int}
theorem zdq{i j:Nat}(h1:i<=j)(h2:j<=m):QM (qR m w wd T) (some (i:Int)) (some (j:Int))=qR (j - i) (λk=>w (i+k)) (λk=>wd (i+k)) (λk=>T (i+k)):=by
 unfold qR;rw [Yx _ h1 h2];apply zgD;intro k z;unfold qM hiW wiW;rfl
end
section
variable{p:Int}
def jG(h w:Nat)(f:Nat->Nat->Int):List D:=(zgj h).map λi=>D.lst (zA w (f i))
@[simp] theorem zdm(h w f):(jG h w f).length=h:=by simp [jG]
end
theorem zy{f g:Nat->Int} : ∀{n:Nat},(∀k,k<n->f k=g k)->sumTo f n=sumTo g n
 | 0,_=>rfl
 | n+1,h=>by
  simp only [sumTo];rw [zy (n:=n) λk z=>h k ⋯,h n ⋯]
theorem zI(n:Nat):sumTo (λ_=>0) n=0:=by
 induction n with
 | zero=>rfl
 | succ n z=>simp [sumTo,z]
theorem je{f:Nat->Int}{n i:Nat}(hi:i<n)(h : ∀k,k<n->k≠i->f k=0):sumTo f n=f i:=by
 induction n with
 | zero=>omega
 | succ n z=>
  simp only [sumTo];by_cases e:i=n
  ·subst e
   rw [zy (g:=λ_=>0) (λk I=>h k ⋯ ⋯),zI];omega
  ·rw [z ⋯ λk I=>h k ⋯,h n ⋯ ⋯]
   omega
theorem jC(f g:Nat->Int)(n:Nat):sumTo (λk=>f k+g k) n=sumTo f n+sumTo g n:=by
 induction n with
 | zero=>rfl
 | succ n z=>simp only [sumTo,z];omega
theorem xI(f:Nat->Int)(c:Int)(n:Nat):sumTo (λk=>f k*c) n=sumTo f n*c:=by
 induction n with
 | zero=>simp [sumTo]
 | succ n z=>simp only [sumTo,z,Int.add_mul]
theorem jK(f:Nat->Int)(c:Int)(n:Nat):sumTo (λk=>c*f k) n=c*sumTo f n:=by
 induction n with
 | zero=>simp [sumTo]
 | succ n z=>simp only [sumTo,z,zi4]
theorem xH(f:Nat->Nat->Int)(n m:Nat):sumTo (λi=>sumTo (λj=>f i j) m) n=sumTo (λj=>sumTo (λi=>f i j) n) m:=by
 induction n with
 | zero=>simp [sumTo,zI]
 | succ n z=>simp only [sumTo];rw [z,<- jC]
theorem zW{p:Int}{f g:Nat->Int} : ∀{n:Nat},(∀k,k<n->f k%p=g k%p)->sumTo f n%p=sumTo g n%p
 | 0,_=>rfl
 | n+1,h=>by
  simp only [sumTo];rw [zgL,zW (n:=n) (λk z=>h k ⋯),h n ⋯,<- zgL]
theorem KM(p x y:Int):(x*(y%p))%p=(x*y)%p:=by rw [zgt,zgT,<- zgt]
abbrev Vc:=Nat->Int
def Pr(p:Int):Prop:=p=2\/p=3\/p=5\/p=7
theorem Pr.pos{p:Int}(h:Pr p):0<p:=by unfold Pr at h;omega
theorem Pr.two{p:Int}(h:Pr p):2<=p:=by unfold Pr at h;omega
theorem Pr.le{p:Int}(h:Pr p):p<=7:=by unfold Pr at h;omega
theorem Pr.one{p:Int}(h:Pr p):(1:Int)%p=1:=zhG ⋯ (by have:=h.two;omega)
inductive Span(p:Int)(n:Nat)(G:Vc->Prop):Vc->Prop where
 | zero {v:Vc}:(∀i,i<n->v i%p=0)->Span p n G v
 | step {v w g:Vc} {c:Int}:G g->Span p n G w->(∀i,i<n->v i%p=(w i+c*g i)%p)->Span p n G v
section
variable{p:Int}{n:Nat}{G G':Vc->Prop}
theorem Span.congr{v z:Vc}(h:Span p n G v)(e : ∀i,i<n->z i%p=v i%p):Span p n G z:=by
 cases h with
 | zero h=>exact .zero λi hi=>by rw [e i hi,h i hi]
 | step I hw h=>exact .step I hw λi hi=>by rw [e i hi,h i hi]
theorem Span.gen{g:Vc}(h:G g):Span p n G g:= .step (c:=1) h (.zero (v:=λ_=>0) λi _=>by simp) λi _=>by simp
theorem Span.add{v w:Vc}(I:Span p n G v)(hw:Span p n G w) : ∀c:Int,Span p n G λi=>w i+c*v i:=by
 induction I with
 | zero h=>
  intro c;refine hw.congr λi hi=>?_;rw [zgL,zgt,h i hi];simp
 | @step v w' g z J S h O=>
  intro c;refine .step (c:=c*z) J (O c) λi hi=>?_;have e:(c*v i)%p=(c*(w' i+z*g i))%p:=by rw [zgt,h i hi,<- zgt]
  rw [zgL,e,<- zgL];congr 1;rw [zi4,<- zie,Int.add_assoc]
theorem Span.smul{v:Vc}(z:Span p n G v)(c:Int):Span p n G λi=>c*v i:=
 (z.add (w:=λ_=>0) (.zero λi _=>by simp) c).congr λi _=>by simp
theorem Span.le{v:Vc}(h:Span p n G v)(z : ∀g,G g->Span p n G' g):Span p n G' v:=by
 induction h with
 | zero h=>exact .zero h
 | step I hw h J=>exact((z _ I).add J _).congr h
end
structure IsB(p:Int)(n r:Nat)(B:Nat->Vc)(l:Nat->Nat):Prop where
 lt : ∀k,k<r->l k<n
 mono : ∀k m,k<m->m<r->l k<l m
 one : ∀k,k<r->B k (l k)=1
 bef : ∀k j,k<r->j<l k->B k j=0
 oth : ∀k m,k<r->m<r->m≠k->B k (l m)=0
 rng : ∀k i,k<r->i<n->0<=B k i/\B k i<p
def Fam(r:Nat)(B:Nat->Vc):Vc->Prop:=λv=>∃k,k<r/\v=B k
section
variable{p:Int}{n r r':Nat}{B B':Nat->Vc}{l l':Nat->Nat}
theorem ya(I:IsB p n r B l){v:Vc}(h:Span p n (Fam r B) v) : ∀i,i<n->v i%p=sumTo (λk=>v (l k)*B k i) r%p:=by
 induction h with
 | @zero v h=>
  intro i hi;rw [h i hi];have:sumTo (λk=>v (l k)*B k i) r%p=sumTo (λ_=>0) r%p:=zW λk z=>by rw [zgt,h _ (I.lt k z)];simp
  rw [this,zI];rfl
 | @step v w g c J hw h O=>
  intro i hi;obtain⟨m,hm,rfl⟩:=J;rw [h i hi];have e1:sumTo (λk=>v (l k)*B k i) r%p=sumTo (λk=>w (l k)*B k i+c*B m (l k)*B k i) r%p:=zW λk z=>by
   rw [zgt,h _ (I.lt k z),<- zgt,Int.add_mul]
  have S:sumTo (λk=>c*B m (l k)*B k i) r=c*B m i:=by
   rw [je (i:=m) hm λk z U=>by rw [I.oth m k hm z U];simp,I.one m hm];simp
  rw [e1,jC,S,zgL,O i hi,<- zgL]
theorem JJ(z:IsB p n r B l){v:Vc}(h:Span p n (Fam r B) v){j:Nat}(J:j<n)(O:v j%p≠0)(S : ∀i,i<j->v i%p=0) : ∃k,k<r/\l k=j:=by
 apply zg7;intro U;apply O;rw [ya z h j J];have:sumTo (λk=>v (l k)*B k j) r%p=sumTo (λ_=>0) r%p:=zW λk I=>by
  have Y:l k≠j:=λe=>U ⟨k,I,e⟩;rcases zgF (l k) j with q | q
  ·rw [zgt,S _ q];simp
  ·rw [z.bef k j I ⋯];simp
 rw [this,zI];rfl
theorem Qy(J : ∀k m,k<m->m<r->l k<l m)(O : ∀k m,k<m->m<r'->l' k<l' m)(s1 : ∀k,k<r->∃m,m<r'/\l' m=l k)(s2 : ∀k,k<r'->∃m,m<r/\l m=l' k) :
 ∀k,k<r->k<r'/\l k=l' k:=by
 intro k
 induction k using Nat.strongRecOn with
 | ind k S=>
  intro U;obtain⟨m,hm,Y⟩:=s1 k U;have a0:k<=m:=by
   rcases zgF m k with q | q
   ·have:=(S m q ⋯).2
    have:=J m k q U;omega
   ·exact q
  have I:k<r':=by omega
  refine⟨I,?_⟩;obtain⟨q,Z,eq⟩:=s2 k I;have a2:k<=q:=by
   rcases zgF q k with z | z
   ·have:=(S q z ⋯).2
    have:=O q k z I;omega
   ·exact z
  rcases zgF k m with z | z
  ·have h1:=O k m z hm
   have h2:l k<=l q:=by
    rcases zgF k q with y | y
    ·exact zjh (J k q y Z)
    ·have:k=q:=by omega
     subst this;exact zgp _
   omega
  ·have:m=k:=by omega
   subst this;exact Y.symm
theorem kP(U:Pr p)(I:IsB p n r B l)(J:IsB p n r' B' l')(h1 : ∀v,Span p n (Fam r B) v->Span p n (Fam r' B') v)(h2 : ∀v,Span p n (Fam r' B') v->Span p n (Fam r B) v) :
 r=r'/\(∀k,k<r->l k=l' k)/\∀k i,k<r->i<n->B k i=B' k i:=by
 have one:=U.one;have s1 : ∀k,k<r->∃m,m<r'/\l' m=l k:=λk z=>JJ J (h1 _ (.gen ⟨k,z,rfl⟩)) (I.lt k z) (by rw [I.one k z,one];decide) λi hi=>by rw [I.bef k i z hi];simp
 have s2 : ∀k,k<r'->∃m,m<r/\l m=l' k:=λk z=>JJ I (h2 _ (.gen ⟨k,z,rfl⟩)) (J.lt k z) (by rw [J.one k z,one];decide) λi hi=>by rw [J.bef k i z hi];simp
 have e1:=Qy I.mono J.mono s1 s2;have Y:=Qy J.mono I.mono s2 s1;have Z:r=r':=by
  rcases ziz r r' with q | q | q
  ·exact absurd (Y r q).1 (zgZ _)
  ·exact q
  ·exact absurd (e1 r' q).1 (zgZ _)
 subst Z;refine⟨rfl,λk z=>(e1 k z).2,λk i z hi=>?_⟩;have c:=ya J (h1 _ (.gen ⟨k,z,rfl⟩)) i hi;rw [je (i:=k) z λm hm a0=>by rw [<- (e1 m hm).2,I.oth k m z hm a0];simp,<- (e1 k z).2,I.one k z,Int.one_mul]at c;have O:=I.rng k i z hi;have S:=J.rng k i z hi;rw [zhG O.1 O.2,zhG S.1 S.2]at c;exact c
end
theorem zP{α:Type}{T:Tg}{k:CO Bool}{f:CO D}{γ:Ctx}{g:α->D}(q:α->Bool)(r:α->D) : ∀(l:List α),(∀x∈l,∃γ1,qv T (g x) γ=some γ1/\k γ1=some (q x)/\(q x=true->f γ1=some (r x)))->
 zG T k f γ (l.map g)=some ((l.filter q).map r)
 | [],_=>rfl
 | x::l,h=>by
  obtain⟨γ1,h1,h2,I⟩:=h x zgI;have z:=zP q r l λy J=>h y (zgJ _ J);simp only [zgO,zG,h1,h2,zgq];cases e:q x with
  | true=>simp [I e,z,e]
  | false=>simp [z,e]
theorem zdf{p x:Int}(z:Pr p)(I:0<x)(h1:x<p) : ∃y:Nat,1<=y/\(y:Int)<p/\(y:Int)*x%p=1:=by
 rcases z with rfl | rfl | rfl | rfl
 ·obtain rfl:x=1:=by omega
  exact⟨1,by decide,by decide,by decide⟩
 ·rcases (show x=1\/x=2 by omega)with rfl | rfl
  ·exact⟨1,by decide,by decide,by decide⟩
  ·exact⟨2,by decide,by decide,by decide⟩
 ·rcases (show x=1\/x=2\/x=3\/x=4 by omega)with rfl | rfl | rfl | rfl
  ·exact⟨1,by decide,by decide,by decide⟩
  ·exact⟨3,by decide,by decide,by decide⟩
  ·exact⟨2,by decide,by decide,by decide⟩
  ·exact⟨4,by decide,by decide,by decide⟩
 ·rcases (show x=1\/x=2\/x=3\/x=4\/x=5\/x=6 by omega)with rfl | rfl | rfl | rfl | rfl | rfl
  ·exact⟨1,by decide,by decide,by decide⟩
  ·exact⟨4,by decide,by decide,by decide⟩
  ·exact⟨5,by decide,by decide,by decide⟩
  ·exact⟨2,by decide,by decide,by decide⟩
  ·exact⟨3,by decide,by decide,by decide⟩
  ·exact⟨6,by decide,by decide,by decide⟩
theorem xt{q:Nat->Bool}{n a:Nat}{rest:List Nat}(h:(zgj n).filter q=a::rest):a<n/\q a=true/\∀i,i<a->q i=false:=by
 have hm:a∈(zgj n).filter q:=by rw [h];exact zgI
 refine⟨zgl.mp (zgC.mp hm).1,(zgC.mp hm).2,λi hi=>?_⟩;apply zg7;intro z;have I:q i=true:=by simpa using z
 have J:i∈a::rest:=by rw [<- h];exact zgC.mpr ⟨zgl.mpr (by have:=zgl.mp (zgC.mp hm).1;omega),I⟩
 have O:(a::rest).Pairwise (· < ·):=by rw [<- h];exact ziW _ ziv
 rcases zgz.mp J with e | e
 ·omega
 ·have:=(List.pairwise_cons.mp O).1 i e;omega
theorem yX{q:Nat->Bool}{n:Nat}(h:(zgj n).filter q=[]) : ∀i,i<n->q i=false:=λi hi=>by
 apply zg7;intro z;have:i∈(zgj n).filter q:=zgC.mpr ⟨zgl.mpr hi,by simpa using z⟩;rw [h]at this;simp at this
theorem yk{p x:Int}(z:Pr p)(I:0<x)(h1:x<p) : ∃y,F_inverse [.int p,.int x]=some (.val (.int y))/\1<=y/\y<p/\x*y%p=1:=by
 rcases z with rfl | rfl | rfl | rfl
 ·have:x=1:=by omega
  subst this;exact⟨1,rfl,by decide,by decide,by decide⟩
 ·have:x=1\/x=2:=by omega
  rcases this with rfl | rfl
  ·exact⟨1,rfl,by decide,by decide,by decide⟩
  ·exact⟨2,rfl,by decide,by decide,by decide⟩
 ·have:x=1\/x=2\/x=3\/x=4:=by omega
  rcases this with rfl | rfl | rfl | rfl
  ·exact⟨1,rfl,by decide,by decide,by decide⟩
  ·exact⟨3,rfl,by decide,by decide,by decide⟩
  ·exact⟨2,rfl,by decide,by decide,by decide⟩
  ·exact⟨4,rfl,by decide,by decide,by decide⟩
 ·have:x=1\/x=2\/x=3\/x=4\/x=5\/x=6:=by omega
  rcases this with rfl | rfl | rfl | rfl | rfl | rfl
  ·exact⟨1,rfl,by decide,by decide,by decide⟩
  ·exact⟨4,rfl,by decide,by decide,by decide⟩
  ·exact⟨5,rfl,by decide,by decide,by decide⟩
  ·exact⟨2,rfl,by decide,by decide,by decide⟩
  ·exact⟨3,rfl,by decide,by decide,by decide⟩
  ·exact⟨6,rfl,by decide,by decide,by decide⟩
theorem yl{p:Int}(I:Pr p){n t:Nat}(hn:n<=lim)(z:t<n)(w P:Nat->Int)(hw : ∀i,i<n->0<=w i/\w i<p) :
 F_cleared [.int p,.tup (zA n w),.tup (zA n P),.int t]=some (.val (.tup (zA n λi=>(w i - w t*P i)%p))):=by
 have S:=hw t z;have U:=I.le;have O : ∀x,vF (w t) x=true:=λx=>qP _ _ ⋯ ⋯;by_cases J:w t=0
 ·simp [F_cleared,jb,zV,zN,z,J]
  apply kH;intro i hi;rw [zhG (hw i hi).1 (hw i hi).2]
 ·simp [F_cleared,jb,zV,zN,z,J,ki,hn,z4,j3,zgm]
  rw [zo (r:=λi=>D.int (w i - w t*P i))]
  ·rw [<- zU]
   simp [vA _ I.pos hn]
  ·intro i hi
   refine zq rfl rfl ?_;simp [O]
theorem yZ{l:Nat->Nat}{r t:Nat}(hm : ∀k m,k<m->m<r->l k<l m)(z : ∀k,k<r->l k<t):r<=t:=by
 have I : ∀k,k<r->k<=l k:=by
  intro k
  induction k with
  | zero=>intro _;exact zh5 _
  | succ k J=>
   intro O;have h1:=J ⋯;have h2:=hm k (k+1) ⋯ O;omega
 cases r with
 | zero=>exact zh5 _
 | succ r=>
  have h1:=I r ⋯;have h2:=z r ⋯;omega
def yE:CO Fl:=(zF (zO 6 (ja (zC (zB (zf 3)) (.nm 0) 1 [5] (sB (zm dNe (sIx (zf 0) (zc 1)) (zh (.int 0)))) (zc 0)))) (zF (sIf (qN (Vj (zf 6))) Vk jP) (zF (zO 7 (zw F_inverse (za (zc 0) (za (sIx (zz (sIx (zf 6) (zh (.int 0)))) (zc 5)) zu)))) (zF (zO 8 (zw F_rests (za (zc 0) (za (ja (zC (zB (zz (sIx (zf 6) (zh (.int 0))))) (.nm 0) 1 [7] z6 (zm qi (zc 1) (zc 0)))) zu)))) (zF (zO 3 (ja (zC (zB (zf 3)) (.nm 0) 1 [0,5,8] z6 (zw F_cleared (za (zc 1) (za (zc 0) (za (zc 3) (za (zc 2) zu)))))))) (qJ 4 (xQ (jh (zC (zB (zf 4)) (.nm 0) 1 [0,5,8] z6 (zw F_cleared (za (zc 1) (za (zc 0) (za (zc 3) (za (zc 2) zu))))))) (jh (jX (za (zc 8) zu))))))))))
def Un(r:Nat)(B:Nat->Vc)(m:Nat)(W:Nat->Vc):Vc->Prop:=λv=>Fam r B v\/Fam m W v
structure BInv(p:Int)(n m:Nat)(W:Nat->Vc)(t r:Nat)(B:Nat->Vc)(l:Nat->Nat)(Wt:Nat->Vc):Prop where
 rng : ∀j i,j<m->i<n->0<=Wt j i/\Wt j i<p
 zer : ∀j i,j<m->i<t->Wt j i=0
 isb:IsB p n r B l
 lt : ∀k,k<r->l k<t
 span : ∀v,Span p n (Un r B m Wt) v↔Span p n (Fam m W) v
section
variable{p:Int}{n m:Nat}{W:Nat->Vc}{t r:Nat}{B:Nat->Vc}{l:Nat->Nat}{Wt:Nat->Vc}
theorem BInv.skip(h:BInv p n m W t r B l Wt)(I : ∀j,j<m->Wt j t=0):BInv p n m W (t+1) r B l Wt:=
 ⟨h.rng,λj i z hi=>by
  rcases zgF i t with q | q
  ·exact h.zer j i z q
  ·have:i=t:=by omega
   subst this;exact I j z,h.isb,λk J=>zhm (h.lt k J),h.span⟩
def clr(p:Int)(P:Vc)(t:Nat)(w:Vc):Vc:=λi=>(w i - w t*P i)%p
def ZS(p:Int)(P:Vc)(t r:Nat)(B:Nat->Vc):Nat->Vc:=λk=>if k<r then clr p P t (B k)else P
def VM(t r:Nat)(l:Nat->Nat):Nat->Nat:=λk=>if k<r then l k else t
theorem yC{G:Vc->Prop}{P w:Vc}(z:Span p n G P)(hw:Span p n G w):Span p n G (clr p P t w):=
 (z.add hw (-(w t))).congr λi _=>by unfold clr;rw [zgT];congr 1;rw [Int.neg_mul];omega
theorem J8{G:Vc->Prop}{P w:Vc}(z:Span p n G P)(hw:Span p n G (clr p P t w)):Span p n G w:=
 (z.add hw (w t)).congr λi _=>by
   unfold clr;rw [zgL,zgT,<- zgL];congr 1;omega
theorem BInv.next(Z:Pr p)(h:BInv p n m W t r B l Wt)(ht:t<n){O:Nat}(a5:O<m){y:Int}(hy:Wt O t*y%p=1){P:Vc}(S : ∀i,i<n->P i=y*Wt O i%p) :
 BInv p n m W (t+1) (r+1) (ZS p P t r B) (VM t r l) (λj=>clr p P t (Wt j)):=by
 have p0:=Z.pos;have one:=Z.one;have Pt:P t=1:=by rw [S t ht,zhH];exact hy
 have Pz : ∀i,i<t->P i=0:=λi hi=>by rw [S i ⋯,h.zer O i a5 hi];simp
 have ab : ∀i,i<n->0<=P i/\P i<p:=λi hi=>by rw [S i hi];exact⟨zhd _ ⋯,zgV _ p0⟩
 have cr : ∀(w:Vc) i,0<=clr p P t w i/\clr p P t w i<p:=λw i=>⟨zhd _ ⋯,zgV _ p0⟩;have U : ∀(w:Vc) i,i<t->0<=w i->w i<p->clr p P t w i=w i:=λw i hi h1 h2=>by
  unfold clr;rw [Pz i hi,zjN,Int.sub_zero];exact zhG h1 h2
 have ct : ∀w:Vc,clr p P t w t=0:=λw=>by unfold clr;rw [Pt,Int.mul_one,Int.sub_self];simp
 refine⟨λj i J hi=>cr _ _,λj i J hi=>?_,⟨λk I=>?_,λk q ac hq=>?_,λk I=>?_,λk j I J=>?_,λk q I hq ae=>?_,λk i I hi=>?_⟩,λk I=>?_,λv=>?_⟩
 ·rcases zgF i t with q | q
  ·have e:=h.zer j i J q
   rw [U _ i q ⋯ ⋯];exact e
  ·have:i=t:=by omega
   subst this;exact ct _
 ·unfold VM;split
  ·rename_i q;exact h.isb.lt k q
  ·exact ht
 ·unfold VM
  have I:k<r:=by omega
  rw [if_pos I];split
  ·rename_i z;exact h.isb.mono k q ac z
  ·exact h.lt k I
 ·unfold VM ZS;split
  ·rename_i q
   have e:=h.isb.one k q;have Y:=h.lt k q;rw [U _ _ Y ⋯ (by have:=Z.two;omega)];exact e
  ·exact Pt
 ·unfold ZS;unfold VM at J;split at J
  ·rename_i q
   have e:=h.isb.bef k j q J;have Y:=h.lt k q;rw [if_pos q,U _ _ ⋯ ⋯ ⋯];exact e
  ·rename_i q
   rw [if_neg q];exact Pz j J
 ·unfold ZS VM
  by_cases z1:k<r
  ·rw [if_pos z1]
   by_cases z2:q<r
   ·rw [if_pos z2]
    have e:=h.isb.oth k q z1 z2 ae;have Y:=h.lt q z2;rw [U _ _ Y ⋯ ⋯];exact e
   ·rw [if_neg z2];exact ct _
  ·rw [if_neg z1]
   have z2:q<r:=by omega
   rw [if_pos z2];exact Pz _ (h.lt q z2)
 ·unfold ZS;split
  ·exact cr _ _
  ·exact ab i hi
 ·unfold VM;split
  ·rename_i q;exact zhm (h.lt k q)
  ·exact zhx _
 ·rw [<- h.span v]
  have a1:Span p n (Un r B m Wt) P:=((Span.gen (p:=p) (n:=n) (G:=Un r B m Wt) (g:=Wt O) (.inr ⟨O,a5,rfl⟩)).smul y).congr λi hi=>by rw [S i hi,zgT]
  have a9:Span p n (Un (r+1) (ZS p P t r B) m λj=>clr p P t (Wt j)) P:= .gen (.inl ⟨r,zhx r,by unfold ZS;rw [if_neg (zgZ r)]⟩);constructor
  ·refine λhv=>hv.le λg hg=>?_
   rcases hg with⟨k,I,rfl⟩ | ⟨j,J,rfl⟩
   ·unfold ZS;split
    ·rename_i q;exact yC a1 (.gen (.inl ⟨k,q,rfl⟩))
    ·exact a1
   ·exact yC a1 (.gen (.inr ⟨j,J,rfl⟩))
  ·refine λhv=>hv.le λg hg=>?_
   rcases hg with⟨k,I,rfl⟩ | ⟨j,J,rfl⟩
   ·refine J8 (t:=t) a9 (.gen (.inl ⟨k,zhm I,?_⟩))
    unfold ZS;rw [if_pos I]
   ·exact J8 (t:=t) a9 (.gen (.inr ⟨j,J,rfl⟩))
theorem BInv.done(h:BInv p n m W n r B l Wt)(v:Vc):Span p n (Fam r B) v↔Span p n (Fam m W) v:=by
 rw [<- h.span v];constructor
 ·exact λI=>I.le λg z=> .gen (.inl z)
 ·refine λI=>I.le λg z=>?_
  rcases z with z | ⟨j,J,rfl⟩
  ·exact .gen z
  ·exact .zero λi hi=>by rw [h.zer j i J hi];simp
theorem Yt(I:True)(P:Vc):zL (r+1) n (ZS p P t r B)=zL r n (λk=>clr p P t (B k))++[.tup (zA n P)]:=by
 unfold zL;rw [zhi,zg4];congr 1
 ·apply zgD
  intro k z;have:=zgl.mp z;simp [ZS,this]
 ·simp [ZS]
end
theorem jV{p:Int}(U:Pr p){n m:Nat}(hn:n<=100)(hm:m<=lim)(kk:Sk)(W:Nat->Vc) :
 ∃r B l,F_base_of [.int p,.int n,dsq kk (zL m n W)]=some (.own (zL r n B))/\IsB p n r B l/\∀v,Span p n (Fam r B) v↔Span p n (Fam m W) v:=by
 have hl:=jf;have Y:n<=lim:=by omega
 have p0:=U.pos;have a6:=qr (T:= .nm 5) (F:=yE)
  (λt γ=>∃r B l Wt c5 c6 c7 c8,γ=[.val (.int p),.val (.int n),.val (dsq kk (zL m n W)),.val (.lst (zL m n Wt)),.own (zL r n B),c5,c6,c7,c8]/\BInv p n m W t r B l Wt)
  ((zgj n).map λ(i:Nat)=>D.int i) 0 [.val (.int p),.val (.int n),.val (dsq kk (zL m n W)),.val (.lst (zL m n λj i=>W j i%p)),.own [],.no,.no,.no,.no]
  ⟨0,λ_ _=>0,λ_=>0,λj i=>W j i%p,.no,.no,.no,.no,rfl,λj i _ _=>⟨zhd _ ⋯,zgV _ p0⟩,λj i _ hi=>absurd hi (zgx _),
   ⟨λk I=>absurd I (zgx _),λk q _ I=>absurd I (zgx _),λk I=>absurd I (zgx _),λk j I=>absurd I (zgx _),λk q I=>absurd I (zgx _),λk i I=>absurd I (zgx _)⟩,
   λk I=>absurd I (zgx _),λv=>⟨λhv=>hv.le λg hg=>by
    rcases hg with⟨k,I,_⟩ | ⟨j,O,rfl⟩
    ·exact absurd I (zgx _)
    ·exact(Span.gen (p:=p) (n:=n) (G:=Fam m W) (g:=W j) ⟨j,O,rfl⟩).congr λi _=>zgT _ _,λhv=>hv.le λg hg=>by
    obtain⟨j,O,rfl⟩:=hg;exact(Span.gen (p:=p) (n:=n) (G:=Un 0 (λ_ _=>0) m λj i=>W j i%p) (g:=λi=>W j i%p) (.inr ⟨j,O,rfl⟩)).congr λi _=>(zgT _ _).symm⟩⟩ (by
   rintro t d γ hd ⟨r,B,l,Wt,c5,c6,c7,c8,rfl,J⟩;rw [zhL]at J ⊢;have S:t<n:=by have:=(zgw.mp hd).1;simpa using this
   have a7:d = .int t:=by simp [S]at hd;exact hd.symm
   subst a7;have Z:zG (.nm 0) (sB (zm dNe (sIx (zf 0) (zc 1)) (zh (.int 0)))) (zc 0) [Cell.no,Cell.val (.int t)] (zL m n Wt)=some (((zgj m).filter λj=> !decide (Wt j t=0)).map λj=>D.tup (zA n (Wt j))):=by
    unfold zL;refine zP _ _ _ λj O=>⟨_,rfl,?_,λ_=>rfl⟩;simp [S]
   have hr:r<=t:=yZ J.isb.mono J.lt;have a8:r<=lim:=by omega
   cases hf:(zgj m).filter λj=> !decide (Wt j t=0)with
   | nil=>
    have hz : ∀j,j<m->Wt j t=0:=λj O=>by
     apply zg7;intro a3;have:j∈(zgj m).filter λj=> !decide (Wt j t=0):=zgC.mpr ⟨zgl.mpr O,by simp [a3]⟩;rw [hf]at this;simp at this
    rw [hf]at Z;refine⟨_,.inr ?_,r,B,l,Wt,.val (.int t),.val (.lst []),c7,c8,rfl,J.skip hz⟩;simp only [qF,zgq,zgN,zgM,yE];rw [zN];simp [zN,z4,j3,zgm,Z,hm]
   | cons z rest=>
    have a4:z∈(zgj m).filter λj=> !decide (Wt j t=0):=by rw [hf];exact zgI
    have a5:z<m:=zgl.mp (zgC.mp a4).1;have a3:Wt z t≠0:=by simpa using (zgC.mp a4).2
    have aa:=J.rng z t a5 S;obtain⟨y,ey,y1,y2,yy⟩:=yk U (x:=Wt z t) ⋯ aa.2;rw [hf]at Z;have nx:=J.next U S a5 yy (P:=λi=>y*Wt z i%p) λi _=>rfl;refine⟨_,.inl ?_,r+1,ZS p (λi=>y*Wt z i%p) t r B,VM t r l,λj=>clr p (λi=>y*Wt z i%p) t (Wt j),.val (.int t),.val (.lst ((z::rest).map λj=>D.tup (zA n (Wt j)))),.val (.int y),.val (.tup (zA n λi=>y*Wt z i%p)),rfl,nx⟩;have ao:=U.le;have cy : ∀x,vF y x=true:=λx=>qP _ _ ⋯ ⋯;have ae:zG (.nm 0) z6 (zm qi (zc 1) (zc 0)) [Cell.no,Cell.val (.int y)] (zA n (Wt z))=some (zA n λi=>y*Wt z i):=by
     rw [zU,zU];refine zo _ _ λi hi=>zq rfl rfl ?_;simp [cy]
    have af:zG (.nm 0) z6 (zw F_cleared (za (zc 1) (za (zc 0) (za (zc 3) (za (zc 2) zu))))) [Cell.no,Cell.val (.int p),Cell.val (.int t),Cell.val (.tup (zA n λi=>y*Wt z i%p))] (zL m n Wt)=some (zL m n λj=>clr p (λi=>y*Wt z i%p) t (Wt j)):=by
     unfold zL;refine zo _ _ λj O=>zq rfl rfl ?_;simp [yl U Y S (Wt j) (λi=>y*Wt z i%p) λi hi=>J.rng j i (zgl.mp O) hi];rfl
    have ag:zG (.nm 0) z6 (zw F_cleared (za (zc 1) (za (zc 0) (za (zc 3) (za (zc 2) zu))))) [Cell.no,Cell.val (.int p),Cell.val (.int t),Cell.val (.tup (zA n λi=>y*Wt z i%p))] (zL r n B)=some (zL r n λj=>clr p (λi=>y*Wt z i%p) t (B j)):=by
     unfold zL;refine zo _ _ λj O=>zq rfl rfl ?_;simp [yl U Y S (B j) (λi=>y*Wt z i%p) λi hi=>J.isb.rng j i (zgl.mp O) hi];rfl
    have ah:r+1<=lim:=by omega
    rw [Yt trivial];simp only [qF,zgq,zgN,zgM,yE];rw [zN];simp [zN,z4,j3,zgm,Z,hm,Y,S,ey,ae,vA _ p0 Y,af,ag,a8,ah])
 obtain⟨γ',e1,r,B,l,Wt,c5,c6,c7,c8,rfl,J⟩:=a6;simp only [zgH,zhz,zhL]at J;refine⟨r,B,l,?_,J.isb,J.done⟩;have ai:zG (.nm 0) z6 (zw F_rests (za (zc 1) (za (zc 0) zu))) [Cell.no,Cell.val (.int p)] (zL m n W)=some (zL m n λj i=>W j i%p):=by
  unfold zL;refine zo _ _ λj O=>zq rfl rfl ?_;simp [YX _ p0 Y]
 have e0:F_base_of [.int p,.int n,dsq kk (zL m n W)]=jb 9 (zF (zO 3 (ja (zC (zB (zf 2)) (.nm 0) 1 [0] z6 (zw F_rests (za (zc 1) (za (zc 0) zu)))))) (zF (qJ 4 (jX zu)) (zF (xK (zY (zc 1)) (.nm 5) yE) (yo 4)))) [.int p,.int n,dsq kk (zL m n W)]:=rfl;rw [e0];simp [jb,zV,zN,hm,z4,j3,zgm,ai,Y,jv];rw [zU n λi=>(i:Int),e1];simp
@[simp] theorem zdx(γ:Ctx)(f):Jr f γ=(f γ).bind λa=>match a.1 with
 | .L=>Vf a.2
 | _=>none:=rfl
def xS(n r:Nat)(B:Nat->Vc)(l:Nat->Nat):List D:=(zgj r).map λk=>D.tup [.int (l k),.lst (zA n (B k))]
@[simp] theorem QI(n r B l):(xS n r B l).length=r:=by simp [xS]
def xY{α:Type}(q:Nat)(x:α)(f:Nat->α):Nat->α:=λk=>if k<q then f k else if k=q then x else f (k - 1)
theorem KW(n:Nat)(B:Nat->Vc)(l:Nat->Nat)(ks:List Nat):vO (ks.map λk=>D.tup [.int (l k),.lst (zA n (B k))])=some (ks.map λk=>(l k:Int)):=by
 induction ks with
 | nil=>rfl
 | cons k ks z=>simp [vO,zdW,z]
theorem Qz : ∀(ds:List D) (e:D) (k:Int) (z:List Int),vO ds=some z->zdW e=some k->vO (ds++[e])=some (z++[k])
 | [],e,k,z,h,he=>by cases h;simp [vO,he]
 | d::ds,e,k,z,h,he=>by
  simp only [vO]at h;cases e1:zdW d with
  | none=>rw [e1]at h;simp at h
  | some a=>
   rw [e1]at h;cases e2:vO ds with
   | none=>rw [e2]at h;simp at h
   | some r=>
    rw [e2]at h;simp at h;subst h;simp [vO,e1,Qz ds e k r e2 he]
theorem Jd{l:Nat->Nat} : ∀(m a:Nat),(∀k,a<=k->k+1<a+m->l k<l (k+1))->zdu ((zh3 a m).map λk=>(l k:Int))=true
 | 0,a,_=>rfl
 | 1,a,_=>rfl
 | m+2,a,h=>by
  rw [zhJ,zgO];have e:zh3 (a+1) (m+1)=(a+1)::zh3 (a+1+1) m:=zhJ ..;rw [e,zgO];simp only [zdu];have h1:l a<l (a+1):=h a (zgp _) ⋯;rw [Bool.and_eq_true];refine⟨decide_eq_true ⋯,?_⟩;have:=Jd (m+1) (a+1) λk z I=>h k ⋯ ⋯;rw [e,zgO]at this;exact this
def kN(l:Nat->Nat)(r x:Nat):Nat:=((zgj r).filter λk=>decide (l k<x)).length
theorem yB{l:Nat->Nat}{x:Nat} : ∀{r:Nat},(∀k m,k<m->m<r->l k<l m)->(∀k,k<r->l k≠x)->kN l r x<=r/\(∀k,k<kN l r x->l k<x)/\∀k,kN l r x<=k->k<r->x<l k
 | 0,_,_=>⟨zgp _,λk I=>absurd I (by simp [kN]),λk _ I=>absurd I (zgx _)⟩
 | r+1,hm,hne=>by
  obtain⟨h1,h2,J⟩:=yB (r:=r) (x:=x) (λk m a b=>hm k m a ⋯) λk I=>hne k ⋯;have e:kN l (r+1) x=kN l r x+if l r<x then 1 else 0:=by
   unfold kN;rw [zhi,ziQ,zhq];by_cases q:l r<x<;>simp [q]
  by_cases q:l r<x
  ·rw [e,if_pos q]
   have O:kN l r x=r:=by
    rcases zgF (kN l r x) r with z | z
    ·have S:=J (kN l r x) (zgp _) z
     have U:=hm (kN l r x) r z (zhx r);omega
    ·omega
   rw [O];refine⟨zgp _,λk I=>?_,λk a b=>absurd b ⋯⟩;rcases zgF k r with z | z
   ·exact h2 k ⋯
   ·have:k=r:=by omega
    subst this;exact q
  ·rw [e,if_neg q,zjK]
   refine⟨by omega,h2,λk a b=>?_⟩;rcases zgF k r with z | z
   ·exact J k a z
   ·have:k=r:=by omega
    subst this;have:=hne k b;omega
theorem K7{α:Type}(f:Nat->α)(x:α){q r:Nat}(U:q<=r):((zgj r).map f).take q++(x::((zgj r).map f).drop q)=(zgj (r+1)).map (xY q x f):=by
 apply zjD;intro i;have I:(((zgj r).map f).take q).length=q:=by simp;omega
 have O : ∀k,((zgj (r+1)).map (xY q x f))[k]? = if k<r+1 then some (xY q x f k)else none:=λk=>by
  by_cases z:k<r+1
  ·rw [if_pos z,zgn (by simpa using z)];simp
  ·rw [if_neg z,List.getElem?_eq_none (by simpa using z)]
 have J : ∀k,((zgj r).map f)[k]? = if k<r then some (f k)else none:=λk=>by
  by_cases z:k<r
  ·rw [if_pos z,zgn (by simpa using z)];simp
  ·rw [if_neg z,List.getElem?_eq_none (by simpa using z)]
 rw [O];rcases ziz i q with h | h | h
 ·rw [zhl ⋯,List.getElem?_take,if_pos h,J,if_pos ⋯,if_pos ⋯]
  unfold xY;rw [if_pos h]
 ·subst h
  rw [zg5 ⋯,I,Nat.sub_self,if_pos ⋯];unfold xY;rw [if_neg (zgZ _),if_pos rfl];rfl
 ·obtain⟨d,rfl⟩ : ∃d,i=q+1+d:=⟨i - (q+1),by omega⟩
  rw [zg5 ⋯,I,show q+1+d - q=d+1 by omega,zgE,List.getElem?_drop,J];have S:q+1+d - 1=q+d:=by omega
  by_cases hd:q+d<r
  ·rw [if_pos hd,if_pos ⋯]
   unfold xY;rw [if_neg ⋯,if_neg ⋯,S]
  ·rw [if_neg hd,if_neg ⋯]
theorem Kb{n r x:Nat}{B:Nat->Vc}{l:Nat->Nat}{R:Vc}(hr:r<=7)(hm : ∀k m,k<m->m<r->l k<l m)(z : ∀k,k<r->l k≠x) :
 Vf (xS n r B l++[.tup [.int x,.lst (zA n R)]])=some (xS n (r+1) (xY (kN l r x) R B) (xY (kN l r x) x l)):=by
 have S:=Qz (xS n r B l) (.tup [.int x,.lst (zA n R)]) x _ (KW n B l (zgj r)) rfl;unfold Vf;rw [S];simp only [zgq];have U:zdu ((zgj r).map λk=>(l k:Int))=true:=by
  rw [zhA];exact Jd r 0 λk _ I=>hm k (k+1) ⋯ ⋯
 have Y : ¬((x:Int)∈(zgj r).map λk=>(l k:Int)):=by
  intro h;obtain⟨k,I,e⟩:=zg1.mp h;exact z k (zgl.mp I) ⋯
 have J:((zgj r).map (λk=>(l k:Int))++[(x:Int)]).dropLast=(zgj r).map λk=>(l k:Int):=by simp
 have O:((zgj r).map (λk=>(l k:Int))++[(x:Int)]).getLast?.getD 0=(x:Int):=by simp
 rw [J,O,if_pos ⟨⟨by simp,by simp;omega⟩,U,decide_eq_false Y⟩];have Z:zeA ((zgj r).map (λk=>(l k:Int))++[(x:Int)])=kN l r x:=by
  unfold zeA kN;rw [J,O,List.filter_map,zgH];congr 1;apply zjC;intro k _;simp
 rw [Z];unfold zfA;have hq:=(yB hm z).1;have e1:(xS n r B l++[D.tup [.int x,.lst (zA n R)]]).dropLast=xS n r B l:=by simp
 have e2:(xS n r B l++[D.tup [.int x,.lst (zA n R)]]).drop ((xS n r B l++[D.tup [.int x,.lst (zA n R)]]).length - 1)=[D.tup [.int x,.lst (zA n R)]]:=by simp
 rw [e1,e2];have:=K7 (λk=>D.tup [.int (l k),.lst (zA n (B k))]) (D.tup [.int x,.lst (zA n R)]) hq;unfold xS;refine congrArg some (Eq.trans this ?_);apply zgD;intro k _;unfold xY;split
 ·rfl
 ·split<;>rfl
section
variable{p:Int}{n r:Nat}{B:Nat->Vc}{l:Nat->Nat}{w:Vc}
structure RInv(p:Int)(n r:Nat)(B:Nat->Vc)(l:Nat->Nat)(w:Vc)(k:Nat)(R:Vc):Prop where
 rng : ∀i,i<n->0<=R i/\R i<p
 zer : ∀q,q<k->R (l q)=0
 eqv : ∀G,(∀k,k<r->Span p n G (B k))->(Span p n G w↔Span p n G R)
theorem RInv.next(U:Pr p)(S:IsB p n r B l){k:Nat}{R:Vc}(h:RInv p n r B l w k R)(I:k<r):RInv p n r B l w (k+1) (clr p (B k) (l k) R):=by
 have Y:=U.pos;refine⟨λi _=>⟨zhd _ ⋯,zgV _ Y⟩,λq Z=>?_,λG J=>?_⟩
 ·unfold clr
  rcases zgF q k with z | z
  ·rw [h.zer q z,S.oth k q I ⋯ ⋯];simp
  ·have:q=k:=by omega
   subst this;rw [S.one q I];simp
 ·rw [h.eqv G J]
  exact⟨λO=>yC (J k I) O,λO=>J8 (J k I) O⟩
theorem ZX{α:Type}{q:Nat}{x:α}{f:Nat->α}{k:Nat}(J:q<=r)(O:k<r+1):(k=q/\xY q x f k=x)\/∃I,I<r/\xY q x f k=f I/\((k<q/\I=k)\/(q<k/\I+1=k)):=by
 unfold xY;rcases ziz k q with z | z | z
 ·right;exact⟨k,by omega,by rw [if_pos z],.inl ⟨z,rfl⟩⟩
 ·left;subst z;exact⟨rfl,by rw [if_neg (zgZ _),if_pos rfl]⟩
 ·right;exact⟨k - 1,by omega,by rw [if_neg ⋯,if_neg ⋯],.inr ⟨z,by omega⟩⟩
theorem ins_at_q{α:Type}{q:Nat}{x:α}{f:Nat->α}:xY q x f q=x:=by unfold xY;rw [if_neg (zgZ _),if_pos rfl]
theorem za9{α:Type}{q:Nat}{x:α}{f:Nat->α}{k:Nat} : ∃I,(I<q/\I=k\/q<I/\I=k+1)/\xY q x f I=f k:=by
 rcases zgF k q with z | z
 ·exact⟨k,.inl ⟨z,rfl⟩,by unfold xY;rw [if_pos z]⟩
 ·exact⟨k+1,.inr ⟨by omega,rfl⟩,by unfold xY;rw [if_neg ⋯,if_neg ⋯];rfl⟩
theorem zba(hp:Pr p)(U:IsB p n r B l){a:Nat}{R:Vc}(ha:a<n)(h1:R a=1)(hz : ∀i,i<a->R i=0)(hl : ∀k,k<r->R (l k)=0)(hR : ∀i,i<n->0<=R i/\R i<p) :
 IsB p n (r+1) (xY (kN l r a) R λk=>clr p R a (B k)) (xY (kN l r a) a l):=by
 have p0:=hp.pos;have a8 : ∀k,k<r->l k≠a:=λk J e=>by have:=hl k J;rw [e,h1]at this;omega
 obtain⟨hq,q1,q2⟩:=yB U.mono a8;have cr : ∀(w:Vc) i,0<=clr p R a w i/\clr p R a w i<p:=λw i=>⟨zhd _ ⋯,zgV _ p0⟩;have ca : ∀w:Vc,clr p R a w a=0:=λw=>by unfold clr;rw [h1,Int.mul_one,Int.sub_self];simp
 have cl : ∀(w:Vc) k,k<r->0<=w (l k)->w (l k)<p->clr p R a w (l k)=w (l k):=λw k J h1 h2=>by
  unfold clr;rw [hl k J,zjN,Int.sub_zero];exact zhG h1 h2
 have cb : ∀k j,k<r->j<l k->clr p R a (B k) j=0:=λk j J Z=>by
  unfold clr;rw [U.bef k j J Z];rcases zgF a (l k)with z | z
  ·rw [U.bef k a J z];simp
  ·rw [hz j ⋯];simp
 have two:=hp.two;have S : ∀k,k<r+1->(k=kN l r a/\xY (kN l r a) R (λk=>clr p R a (B k)) k=R/\xY (kN l r a) a l k=a)\/
  ∃I,I<r/\xY (kN l r a) R (λk=>clr p R a (B k)) k=clr p R a (B I)/\xY (kN l r a) a l k=l I/\((k<kN l r a/\I=k)\/(kN l r a<k/\I+1=k)):=by
  intro k J;rcases ZX (x:=R) (f:=λk=>clr p R a (B k)) hq J with⟨e1,e2⟩ | ⟨I,O,e1,e2⟩
  ·left;refine⟨e1,e2,?_⟩;subst e1;exact ins_at_q
  ·right
   refine⟨I,O,e1,?_,e2⟩;rcases e2 with⟨z1,z2⟩ | ⟨z1,z2⟩
   ·unfold xY;rw [if_pos z1,z2]
   ·unfold xY;rw [if_neg ⋯,if_neg ⋯];congr 1;omega
 refine⟨λk J=>?_,λk m ae hm=>?_,λk J=>?_,λk j J Z=>?_,λk m J hm af=>?_,λk i J hi=>?_⟩
 ·rcases S k J with⟨_,_,e⟩ | ⟨I,O,_,e,_⟩
  ·rw [e];exact ha
  ·rw [e];exact U.lt I O
 ·rcases S k ⋯with⟨z,_,e⟩ | ⟨I,O,_,e,z⟩<;>rcases S m hm with⟨z',_,e'⟩ | ⟨m',Y,_,e',z'⟩<;>rw [e,e']
  ·omega
  ·exact q2 m' ⋯ Y
  ·exact q1 I ⋯
  ·exact U.mono I m' ⋯ Y
 ·rcases S k J with⟨_,e1,e⟩ | ⟨I,O,e1,e,_⟩<;>rw [e1,e]
  ·exact h1
  ·have o:=U.one I O
   rw [cl _ I O ⋯ ⋯];exact o
 ·rcases S k J with⟨_,e1,e⟩ | ⟨I,O,e1,e,_⟩<;>rw [e1]<;>rw [e]at Z
  ·exact hz j Z
  ·exact cb I j O Z
 ·rcases S k J with⟨z,e1,_⟩ | ⟨I,O,e1,_,z⟩<;>rcases S m hm with⟨z',_,e'⟩ | ⟨m',Y,_,e',z'⟩<;>rw [e1,e']
  ·omega
  ·exact hl m' Y
  ·exact ca _
  ·have o:=U.oth I m' O Y ⋯
   rw [cl _ m' Y ⋯ ⋯];exact o
 ·rcases S k J with⟨_,e1,_⟩ | ⟨I,O,e1,_,_⟩<;>rw [e1]
  ·exact hR i hi
  ·exact cr _ _
theorem zbb{G:Vc->Prop}{q:Nat}{R:Vc}{F:Nat->Vc}(z:q<=r)(I:Span p n G R)(J : ∀k,k<r->Span p n G (F k)) : ∀g,Fam (r+1) (xY q R F) g->Span p n G g:=by
 rintro g ⟨k,O,rfl⟩;rcases ZX (x:=R) (f:=F) z O with⟨_,e⟩ | ⟨S,U,e,_⟩<;>rw [e]
 ·exact I
 ·exact J S U
theorem za4{q:Nat}{R:Vc}{F:Nat->Vc}(I:q<=r):Fam (r+1) (xY q R F) R/\∀k,k<r->Fam (r+1) (xY q R F) (F k):=by
 refine⟨⟨q,by omega,ins_at_q.symm⟩,λk J=>?_⟩;obtain⟨z,h,e⟩:=za9 (q:=q) (x:=R) (f:=F) (k:=k);exact⟨z,by omega,e.symm⟩
theorem V1(hp:Pr p){W:Nat->Vc}{j a:Nat}{R R':Vc}{y:Int}(hb:IsB p n r B l)(ha:a<n)(O : ∀v,Span p n (Fam r B) v↔Span p n (Fam j W) v)(S:RInv p n r B l (W j) r R)(hy:y*R a%p=1)(U : ∀i,i<n->R' i=y*R i%p)(Y:kN l r a<=r)(v:Vc) :
 Span p n (Fam (r+1) (xY (kN l r a) R' λk=>clr p R' a (B k))) v↔Span p n (Fam (j+1) W) v:=by
 have up : ∀v,Span p n (Fam j W) v->Span p n (Fam (j+1) W) v:=λv J=>J.le λg ⟨i,hi,e⟩=> .gen ⟨i,by omega,e⟩;have Z : ∀k,k<r->Span p n (Fam (j+1) W) (B k):=λk I=>up _ ((O _).mp (.gen ⟨k,I,rfl⟩));have a5:Span p n (Fam (j+1) W) R:=(S.eqv _ Z).mp (.gen ⟨j,by omega,rfl⟩);have a0:Span p n (Fam (j+1) W) R':=(a5.smul y).congr λi hi=>by rw [U i hi,zgT]
 obtain⟨m1,m2⟩:=za4 (R:=R') (F:=λk=>clr p R' a (B k)) Y;have a1:Span p n (Fam (r+1) (xY (kN l r a) R' λk=>clr p R' a (B k))) R':= .gen m1;have gB : ∀k,k<r->Span p n (Fam (r+1) (xY (kN l r a) R' λk=>clr p R' a (B k))) (B k):=λk I=>J8 (t:=a) a1 (.gen (m2 k I));have gR:Span p n (Fam (r+1) (xY (kN l r a) R' λk=>clr p R' a (B k))) R:=(a1.smul (R a)).congr λi hi=>by
  rw [U i hi,KM,<- zie,zhH (R a) y,zgt,hy,Int.one_mul,zgT]
 constructor
 ·exact λJ=>J.le (zbb Y a0 λk I=>yC a0 (Z k I))
 ·refine λJ=>J.le ?_
  rintro g ⟨i,hi,rfl⟩;rcases zgF i j with z | z
  ·exact((O _).mpr (.gen ⟨i,z,rfl⟩)).le λg hZ=>by obtain⟨k,I,e⟩:=hZ;rw [e];exact gB k I
  ·have:i=j:=by omega
   subst this;exact(S.eqv _ gB).mpr gR
theorem Kg{W:Nat->Vc}{j:Nat}{R:Vc}(J : ∀v,Span p n (Fam r B) v↔Span p n (Fam j W) v)(O:RInv p n r B l (W j) r R)(S : ∀i,i<n->R i=0)(v:Vc):Span p n (Fam r B) v↔Span p n (Fam (j+1) W) v:=by
 constructor
 ·exact λI=>((J v).mp I).le λg ⟨i,hi,e⟩=> .gen ⟨i,by omega,e⟩
 ·refine λI=>I.le ?_
  rintro g ⟨i,hi,rfl⟩;rcases zgF i j with z | z
  ·exact(J _).mpr (.gen ⟨i,z,rfl⟩)
  ·have:i=j:=by omega
   subst this;exact(O.eqv _ λk U=> .gen ⟨k,U,rfl⟩).mpr (.zero λi hi=>by rw [S i hi];simp)
end
def Zh:CO Fl:=(zF (zO 8 (sIx (zf 5) (zc 6))) (zO 5 (ja (zC (Jq (zc 5) (zc 7)) (.tp [0,1]) 2 [0,8] z6 (zm qa (zm kf (zc 0) (zm qi (zc 3) (zc 1))) (zc 2))))))
def yD:CO Fl:=(zF (zO 8 (sIx (zf 7) (zc 6))) (qp 11 (ju (za (zc 12) (za (ja (zC (Jq (zc 7) (zc 5)) (.tp [0,1]) 2 [0,8] z6 (zm qa (zm kf (zc 0) (zm qi (zc 3) (zc 1))) (zc 2)))) zu)))))
def YJ:CO Fl:=(zF (zO 6 (sIx (zf 9) (zh (.int 0)))) (zF (zO 10 (sIx (jh (zC (x6 (zh (.int 1)) (zc 0)) (.nm 0) 1 [0,5,6] (sB (zm dEq (zm qa (zm qi (zc 0) (sIx (zf 2) (zc 3))) (zc 1)) (zh (.int 1)))) (zc 0))) (zh (.int 0)))) (zF (zO 5 (ja (zC (zB (zf 5)) (.nm 0) 1 [0,10] z6 (zm qa (zm qi (zc 2) (zc 0)) (zc 1))))) (zF (qJ 11 (jX zu)) (zF (xK (zB (zz (zc 3))) (.tp [12,7]) yD) (zO 3 (ja (Jr (jh (xQ (zf 11) (jh (jX (za (ju (za (zc 6) (za (zc 5) zu))) zu)))))))))))))
def QR:CO Fl:=(zF (zO 5 (ja (x9 (zf 4)))) (zF (xK (zB (zz (zc 3))) (.tp [6,7]) Zh) (zF (zO 9 (ja (zC (zY (zc 1)) (.nm 0) 1 [5] (sB (zm dNe (sIx (zf 1) (zc 0)) (zh (.int 0)))) (zc 0)))) (sIf (sB (zm dGt (xV (zf 9)) (zh (.int 0)))) YJ jP))))
section
variable{p:Int}{n m:Nat}{kk:Sk}{W:Nat->Vc}{r:Nat}{B:Nat->Vc}{l:Nat->Nat}
theorem QO{n:Nat}{p:Int}(z:Pr p)(hn:n<=lim)(x y:Vc)(t:Nat)(J:0<=x t/\x t<p) :
 zG (.tp [0,1]) z6 (zm qa (zm kf (zc 0) (zm qi (zc 3) (zc 1))) (zc 2)) [Cell.no,Cell.no,Cell.val (.int p),Cell.val (.int (x t))] ((zgj n).map λi=>D.tup [.int (x i),.int (y i)])=some (zA n (clr p y t x)):=by
 have I:=z.pos;have O:=z.le;rw [zU];refine zo _ _ λi hi=>zq rfl rfl ?_;simp [qP (x t) (y i) ⋯ ⋯,I,clr]
theorem Vq(Y:Pr p)(hn:n<=lim)(Z:IsB p n r B l)(w:Vc)(hw : ∀i,i<n->0<=w i/\w i<p)(I J c6 c7 c8 c9 c10 O S:Cell) :
 ∃R d6 d7 d8,RInv p n r B l w r R/\qh (.tp [6,7]) Zh (xS n r B l) [.val (.int p),.val (.int n),I,.val (.lst (xS n r B l)),J,.val (.lst (zA n w)),c6,c7,c8,c9,c10,O,S] =
  some (.next [.val (.int p),.val (.int n),I,.val (.lst (xS n r B l)),J,.val (.lst (zA n R)),d6,d7,d8,c9,c10,O,S]):=by
 have a5:=qr (T:= .tp [6,7]) (F:=Zh)
  (λk γ=>∃R c6 c7 c8,γ=[.val (.int p),.val (.int n),I,.val (.lst (xS n r B l)),J,.val (.lst (zA n R)),c6,c7,c8,c9,c10,O,S]/\RInv p n r B l w k R)
  (xS n r B l) 0 [.val (.int p),.val (.int n),I,.val (.lst (xS n r B l)),J,.val (.lst (zA n w)),c6,c7,c8,c9,c10,O,S]
  ⟨w,c6,c7,c8,rfl,hw,λq hq=>absurd hq (zgx _),λG _=>Iff.rfl⟩ (by
   rintro k d γ hd ⟨R,c6,c7,c8,rfl,z⟩;rw [zhL]at z ⊢;have U:k<r:=by have:=(zgw.mp hd).1;simpa using this
   have a7:d = .tup [.int (l k),.lst (zA n (B k))]:=by simp [xS,U]at hd;exact hd.symm
   subst a7;have a0:=Z.lt k U;refine⟨_,.inl ?_,clr p (B k) (l k) R,.val (.int (l k)),.val (.lst (zA n (B k))),.val (.int (R (l k))),rfl,z.next Y Z U⟩;have cc:=QO Y hn R (B k) (l k) (z.rng _ a0);simp only [kO,zgq,zgN,zgM,Zh];simp [zN,a0,ki,hn,z4,j3,zgm,cc])
 obtain⟨γ',e,R,c6,c7,c8,rfl,z⟩:=a5;rw [zhL,QI]at z;exact⟨R,c6,c7,c8,z,e⟩
theorem X9(S:Pr p)(hn:n<=lim)(hr:r<=8)(U:IsB p n r B l)(R:Vc){a:Nat}(ha:a<n)(I J c7 c8 c9 c10 z:Cell) :
 ∃Y Z a0,qh (.tp [12,7]) yD (xS n r B l) [.val (.int p),.val (.int n),I,.val (.lst (xS n r B l)),J,.val (.lst (zA n R)),.val (.int a),c7,c8,c9,c10,.own [],z] =
  some (.next [.val (.int p),.val (.int n),I,.val (.lst (xS n r B l)),J,.val (.lst (zA n R)),.val (.int a),Y,Z,c9,c10,.own (xS n r (λk=>clr p R a (B k)) l),a0]):=by
 have hl:=jf;have a1:=qr (T:= .tp [12,7]) (F:=yD)
  (λk γ=>∃c7 c8 z,γ=[.val (.int p),.val (.int n),I,.val (.lst (xS n r B l)),J,.val (.lst (zA n R)),.val (.int a),c7,c8,c9,c10,.own (xS n k (λk=>clr p R a (B k)) l),z])
  (xS n r B l) 0 [.val (.int p),.val (.int n),I,.val (.lst (xS n r B l)),J,.val (.lst (zA n R)),.val (.int a),c7,c8,c9,c10,.own [],z]
  ⟨c7,c8,z,rfl⟩ (by
   rintro k d γ hd ⟨c7,c8,z,rfl⟩;have O:k<r:=by have:=(zgw.mp hd).1;simpa using this
   have a3:d = .tup [.int (l k),.lst (zA n (B k))]:=by simp [xS,O]at hd;exact hd.symm
   subst a3;refine⟨_,.inl ?_,.val (.lst (zA n (B k))),.val (.int (B k a)),.val (.int (l k)),rfl⟩;have cc:=QO S hn (B k) R a (U.rng k a O ha);have a5:xS n (0+k+1) (λk=>clr p R a (B k)) l=xS n (0+k) (λk=>clr p R a (B k)) l++[.tup [.int (l k),.lst (zA n (clr p R a (B k)))]]:=by
    simp [xS,zhi]
   rw [a5];have a6:k<lim:=by omega
   simp only [kO,zgq,zgN,zgM,yD];simp [zN,ha,ki,hn,z4,j3,zgm,cc,a6])
 obtain⟨γ',e,c7,c8,z,rfl⟩:=a1;rw [zhL,QI]at e;exact⟨c7,c8,z,e⟩
theorem Zo(J:Pr p)(hn:n<=100)(hm:m<=8)(kk:Sk)(W:Nat->Vc)(hW : ∀j i,j<m->i<n->0<=W j i/\W j i<p) :
 ∃r B l,wv [.int p,.int n,dsq kk (zL m n W)]=some (.own (zL r n B))/\IsB p n r B l/\r<=m/\∀v,Span p n (Fam r B) v↔Span p n (Fam m W) v:=by
 have hl:=jf;have U:n<=lim:=by omega
 have p0:=J.pos;have two:=J.two;have bf:=J.le;have ag:=qr (T:= .nm 4) (F:=QR)
  (λj γ=>∃r B l c4 c5 c6 c7 c8 c9 c10 Y O,γ=[.val (.int p),.val (.int n),.val (dsq kk (zL m n W)),.val (.lst (xS n r B l)),c4,c5,c6,c7,c8,c9,c10,Y,O]/\IsB p n r B l/\r<=j/\∀v,Span p n (Fam r B) v↔Span p n (Fam j W) v)
  (zL m n W) 0 [.val (.int p),.val (.int n),.val (dsq kk (zL m n W)),.val (.lst []),.no,.no,.no,.no,.no,.no,.no,.no,.no]
  ⟨0,λ_ _=>0,λ_=>0,.no,.no,.no,.no,.no,.no,.no,.no,.no,rfl,
   ⟨λk z=>absurd z (zgx _),λk q _ z=>absurd z (zgx _),λk z=>absurd z (zgx _),λk j z=>absurd z (zgx _),λk q z=>absurd z (zgx _),λk i z=>absurd z (zgx _)⟩,
   zgp _,λv=>⟨λhv=>hv.le λg ⟨k,z,_⟩=>absurd z (zgx _),λhv=>hv.le λg ⟨k,z,_⟩=>absurd z (zgx _)⟩⟩ (by
   rintro j d γ hd ⟨r,B,l,c4,c5,c6,c7,c8,c9,c10,Y,O,rfl,I,a0,S⟩;rw [zhL]at a0 S ⊢;have hj:j<m:=by have:=(zgw.mp hd).1;simpa using this
   have ah:d = .tup (zA n (W j)):=by simp [hj]at hd;exact hd.symm
   subst ah;have ai:r<=7:=by omega
   obtain⟨R,aj,a9,aa,Z,el⟩:=Vq J U I (W j) (λi hi=>hW j i hj hi) (.val (dsq kk (zL m n W))) (.val (.tup (zA n (W j)))) c6 c7 c8 c9 c10 Y O;have a1:zG (.nm 0) (sB (zm dNe (sIx (zf 1) (zc 0)) (zh (.int 0)))) (zc 0) [Cell.no,Cell.val (.lst (zA n R))] ((zgj n).map λ(i:Nat)=>D.int i)=some (((zgj n).filter λi=> !decide (R i=0)).map λ(i:Nat)=>D.int i):=by
    refine zP _ _ _ λi hi=>⟨_,rfl,?_,λ_=>rfl⟩;simp [zgl.mp hi]
   cases hf:(zgj n).filter λi=> !decide (R i=0)with
   | nil=>
    have h0 : ∀i,i<n->R i=0:=λi hi=>by have:=yX hf i hi;simpa using this
    rw [hf]at a1;refine⟨_,.inl ?_,r,B,l,.val (.tup (zA n (W j))),.val (.lst (zA n R)),aj,a9,aa,.val (.lst []),c10,Y,O,rfl,I,by omega,Kg S Z h0⟩;simp only [qF,zgq,zgN,zgM,QR];rw [zN];simp [zN];rw [el];simp [U,jv,z4,j3,zgm];rw [zU n λi=>(i:Int),a1];simp
   | cons a rest=>
    obtain⟨ha,al,am⟩:=xt hf;have an:R a≠0:=by simpa using al
    have ao : ∀i,i<a->R i=0:=λi hi=>by have:=am i hi;simpa using this
    have ap:=Z.rng a ha;rw [hf]at a1;have a5:zG (.nm 0) (sB (zm dEq (zm qa (zm qi (zc 0) (sIx (zf 2) (zc 3))) (zc 1)) (zh (.int 1)))) (zc 0) [Cell.no,Cell.val (.int p),Cell.val (.lst (zA n R)),Cell.val (.int a)] (qB 1 (p - 1).toNat)=some (((zgj (p - 1).toNat).filter λ(i:Nat)=>decide ((1+(i:Int))*R a%p=1)).map λ(i:Nat)=>D.int (1+(i:Int))):=by
     unfold qB;refine zP _ _ _ λi hi=>⟨_,rfl,?_,λ_=>rfl⟩;have bg:=zgl.mp hi;simp [ha,qP (1+(i:Int)) (R a) ⋯ ⋯,p0]
    obtain⟨y0,bh,bi,aq⟩:=zdf J (x:=R a) ⋯ ap.2;cases hg:(zgj (p - 1).toNat).filter λ(i:Nat)=>decide ((1+(i:Int))*R a%p=1)with
    | nil=>
     have:=yX hg (y0 - 1) ⋯;rw [show(1:Int)+((y0 - 1:Nat):Int)=y0 by omega]at this;simp [aq]at this
    | cons b bj=>
     obtain⟨bl,ar,_⟩:=xt hg;rw [hg]at a5;have ac:(1+(b:Int))*R a%p=1:=by simpa using ar
     have cy : ∀x,vF (1+(b:Int)) x=true:=λx=>qP _ _ ⋯ ⋯;have au:zG (.nm 0) z6 (zm qa (zm qi (zc 2) (zc 0)) (zc 1)) [Cell.no,Cell.val (.int p),Cell.val (.int (1+(b:Int)))] (zA n R)=some (zA n λi=>(1+(b:Int))*R i%p):=by
      rw [zU,zU];refine zo _ _ λi hi=>zq rfl rfl ?_;simp [cy,p0]
     have av:(1+(b:Int))*R a%p=1:=ac;have ad : ∀k,k<r->l k≠a:=λk z e=>by have:=Z.zer k z;rw [e]at this;exact an this
     have isb:=zba J I (R:=λi=>(1+(b:Int))*R i%p) ha av (λi hi=>by rw [ao i hi];simp) (λk z=>by rw [Z.zer k z];simp) λi _=>⟨zhd _ ⋯,zgV _ p0⟩;have sp:=V1 J (R':=λi=>(1+(b:Int))*R i%p) I ha S Z ac (λi _=>rfl) (yB I.mono ad).1;obtain⟨aw,ax,ay,es⟩:=X9 J U ⋯ I (λi=>(1+(b:Int))*R i%p) ha (.val (dsq kk (zL m n W))) (.val (.tup (zA n (W j)))) a9 aa (.val (.lst ((a::rest).map λ(i:Nat)=>D.int i))) (.val (.int (1+(b:Int)))) O;have so:=Kb (n:=n) (x:=a) (B:=λk=>clr p (λi=>(1+(b:Int))*R i%p) a (B k)) (R:=λi=>(1+(b:Int))*R i%p) ai I.mono ad;refine⟨_,.inl ?_,r+1,_,_,.val (.tup (zA n (W j))),.val (.lst (zA n λi=>(1+(b:Int))*R i%p)),.val (.int a),aw,ax,.val (.lst ((a::rest).map λ(i:Nat)=>D.int i)),.val (.int (1+(b:Int))),.own (xS n r (λk=>clr p (λi=>(1+(b:Int))*R i%p) a (B k)) l),ay,rfl,isb,by omega,sp⟩;simp only [qF,zgq,zgN,zgM,QR];rw [zN];simp [zN];rw [el];simp [U,jv,z4,j3,zgm];rw [zU n λi=>(i:Int),a1];have b0:inR p=true:=QC ⋯ ⋯;have i1:inR 1=true:=by decide
     have lp:(qB 1 (p - 1).toNat).length<=lim:=by simp [qB];omega
     have ba:(0:Int)<(rest.length:Int)+1:=by omega
     have bb:(p - 1).toNat=p.toNat - 1:=by omega
     rw [bb]at a5 lp;simp [YJ,zN,ba,b0,i1,lp,z4,j3,zgm,a5,au,U];simp at es;rw [es];have a7:r+1<=lim:=by omega
     simp [a7,so])
 obtain⟨γ',e1,r,B,l,c4,c5,c6,c7,c8,c9,c10,Y,O,rfl,I,a0,S⟩:=ag;rw [zhL,Zb]at a0 S;refine⟨r,B,l,?_,I,a0,S⟩;have e0:wv [.int p,.int n,dsq kk (zL m n W)]=jb 13 (zF (zO 3 (ja (jX zu))) (zF (xK (zB (zz (zc 2))) (.nm 4) QR) (qy (zC (zB (zf 3)) (.tp [0,1]) 2 [] z6 (zM (zf 1)))))) [.int p,.int n,dsq kk (zL m n W)]:=rfl;have bd:zG (.tp [0,1]) z6 (zM (zf 1)) [Cell.no,Cell.no] (xS n r B l)=some (zL r n B):=by
  unfold xS zL;refine zo _ _ λk z=>zq rfl rfl ?_;simp
 have a7:r<=lim:=by omega
 rw [e0];simp [jb,zV,zN,zgm];rw [e1];simp [a7,z4,zgm,bd]
end
def QS:CO Fl:=(zF (zO 6 (ja (zC (zB (zf 3)) (.nm 0) 1 [5] (sB (zm dNe (sIx (zf 0) (zc 1)) (zh (.int 0)))) (zc 0)))) (sIf (sB (zm dGt (xV (zf 6)) (zh (.int 0)))) (zF (zO 7 (sIx (jh (zC (zY (zc 0)) (.nm 0) 1 [0,5,6] (sB (zm dEq (zm qa (zm qi (zc 0) (sIx (zz (sIx (zf 3) (zh (.int 0)))) (zc 2))) (zc 1)) (zh (.int 1)))) (zc 0))) (zh (.int 0)))) (zF (zO 8 (ja (zC (zB (zz (sIx (zf 6) (zh (.int 0))))) (.nm 0) 1 [0,7] z6 (zm qa (zm qi (zc 2) (zc 0)) (zc 1))))) (zF (zO 3 (ja (zC (zB (zf 3)) (.nm 0) 1 [0,5,8] z6 (ja (zQ F_law_less_k22 (za (zc 1) (za (zc 0) (za (zc 3) (za (sIx (zf 0) (zc 2)) zu))))))))) (zO 4 (ja (xQ (jh (zC (zB (zf 4)) (.nm 0) 1 [0,5,8] z6 (ja (zQ F_law_less_k22 (za (zc 1) (za (zc 0) (za (zc 3) (za (sIx (zf 0) (zc 2)) zu)))))))) (jh (jX (za (zc 8) zu))))))))) jP))
theorem XL:F_law_base_k22=jb 9 (zF (zO 3 (ja (zC (zB (zf 2)) (.nm 0) 1 [] z6 (ja (x9 (zf 0)))))) (zF (zO 4 (ja (jX zu))) (zF (xK (zY (zc 1)) (.nm 5) QS) (qy (zC (zB (zf 4)) (.nm 0) 1 [] z6 (zM (zf 0))))))):=rfl
@[simp] theorem wq(h w f):(jG h w f).length=h:=by simp [jG]
theorem za6{p:Int}(I:Pr p){n:Nat}(hn:n<=lim)(w P:Vc){x:Int}(hx:0<=x/\x<p):F_law_less_k22 [.int p,.lst (zA n w),.lst (zA n P),.int x]=some (.own (zA n λi=>(w i - x*P i)%p)):=by
 have J:=I.pos;have U:=I.le;have O : ∀z,vF x z=true:=λz=>qP _ _ ⋯ ⋯;have S:zG (.tp [0,1]) z6 (zm qa (zm kf (zc 0) (zm qi (zc 3) (zc 1))) (zc 2)) [Cell.no,Cell.no,Cell.val (.int p),Cell.val (.int x)] ((zgj n).map λi=>D.tup [.int (w i),.int (P i)])=some (zA n λi=>(w i - x*P i)%p):=by
  rw [zU];refine zo _ _ λi hi=>zq rfl rfl ?_;simp [O,J]
 simp [F_law_less_k22,jb,zV,ki,hn,z4,j3,zgm,S]
theorem XH{p:Int}{n t r:Nat}{B:Nat->Vc}(P:Vc):jG (r+1) n (ZS p P t r B)=jG r n (λk=>clr p P t (B k))++[.lst (zA n P)]:=by
 unfold jG;rw [zhi,zg4];congr 1
 ·apply zgD
  intro k z;have:=zgl.mp z;simp [ZS,this]
 ·simp [ZS]
theorem yu{p:Int}(Y:Pr p){n m:Nat}(hn:n<=100)(hm:m<=lim)(kk:Sk)(W:Nat->Vc)(hW : ∀j i,j<m->i<n->0<=W j i/\W j i<p) :
 ∃r B l,F_law_base_k22 [.int p,.int n,dsq kk (zL m n W)]=some (.own (zL r n B))/\IsB p n r B l/\r<=n/\∀v,Span p n (Fam r B) v↔Span p n (Fam m W) v:=by
 have hl:=jf;have a0:n<=lim:=by omega
 have p0:=Y.pos;have ay:=Y.le;obtain⟨pn,ab⟩:=zhB (show 0<=p by omega);have a5:pn<=lim:=by omega
 have ac:=qr (T:= .nm 5) (F:=QS)
  (λt γ=>∃r B l Wt c5 c6 c7 c8,γ=[.val (.int p),.val (.int n),.val (dsq kk (zL m n W)),.val (.lst (jG m n Wt)),.val (.lst (jG r n B)),c5,c6,c7,c8]/\BInv p n m W t r B l Wt)
  ((zgj n).map λ(i:Nat)=>D.int i) 0 [.val (.int p),.val (.int n),.val (dsq kk (zL m n W)),.val (.lst (jG m n W)),.val (.lst []),.no,.no,.no,.no]
  ⟨0,λ_ _=>0,λ_=>0,W,.no,.no,.no,.no,rfl,hW,λj i _ hi=>absurd hi (zgx _),
   ⟨λk I=>absurd I (zgx _),λk q _ I=>absurd I (zgx _),λk I=>absurd I (zgx _),λk j I=>absurd I (zgx _),λk q I=>absurd I (zgx _),λk i I=>absurd I (zgx _)⟩,
   λk I=>absurd I (zgx _),λv=>⟨λhv=>hv.le λg S=>by
    rcases S with⟨k,I,_⟩ | S
    ·exact absurd I (zgx _)
    ·exact .gen S,λhv=>hv.le λg S=> .gen (.inr S)⟩⟩ (by
   rintro t d γ hd ⟨r,B,l,Wt,c5,c6,c7,c8,rfl,J⟩;rw [zhL]at J ⊢;have U:t<n:=by have:=(zgw.mp hd).1;simpa using this
   have ad:d = .int t:=by simp [U]at hd;exact hd.symm
   subst ad;have Z:zG (.nm 0) (sB (zm dNe (sIx (zf 0) (zc 1)) (zh (.int 0)))) (zc 0) [Cell.no,Cell.val (.int t)] (jG m n Wt)=some (((zgj m).filter λj=> !decide (Wt j t=0)).map λj=>D.lst (zA n (Wt j))):=by
    unfold jG;refine zP _ _ _ λj O=>⟨_,rfl,?_,λ_=>rfl⟩;simp [U]
   have hr:r<=t:=yZ J.isb.mono J.lt;have a2:r<=lim:=by omega
   cases hf:(zgj m).filter λj=> !decide (Wt j t=0)with
   | nil=>
    have hz : ∀j,j<m->Wt j t=0:=λj O=>by
     apply zg7;intro a6;have:j∈(zgj m).filter λj=> !decide (Wt j t=0):=zgC.mpr ⟨zgl.mpr O,by simp [a6]⟩;rw [hf]at this;simp at this
    rw [hf]at Z;refine⟨_,.inl ?_,r,B,l,Wt,.val (.int t),.val (.lst []),c7,c8,rfl,J.skip hz⟩;simp only [qF,zgq,zgN,zgM,QS];rw [zN];simp [zN,z4,j3,zgm,Z,hm]
   | cons z rest=>
    have a7:z∈(zgj m).filter λj=> !decide (Wt j t=0):=by rw [hf];exact zgI
    have a8:z<m:=zgl.mp (zgC.mp a7).1;have a6:Wt z t≠0:=by simpa using (zgC.mp a7).2
    have af:=J.rng z t a8 U;obtain⟨y',ey,y1,y2,ah⟩:=yk Y (x:=Wt z t) ⋯ af.2;have a3:zG (.nm 0) (sB (zm dEq (zm qa (zm qi (zc 0) (sIx (zz (sIx (zf 3) (zh (.int 0)))) (zc 2))) (zc 1)) (zh (.int 1)))) (zc 0) [Cell.no,Cell.val (.int p),Cell.val (.int t),Cell.val (.lst ((z::rest).map λj=>D.lst (zA n (Wt j))))] (zA pn λi=>(i:Int)) =
     some (((zgj pn).filter λ(x:Nat)=>decide ((x:Int)*Wt z t%p=1)).map λ(x:Nat)=>D.int x):=by
     rw [zU];refine zP _ _ _ λx hx=>⟨_,rfl,?_,λ_=>rfl⟩;have hx:=zgl.mp hx;have cx:vF (x:Int) (Wt z t)=true:=qP _ _ ⋯ ⋯;simp [U,cx,p0]
    cases S:(zgj pn).filter λ(x:Nat)=>decide ((x:Int)*Wt z t%p=1)with
    | nil=>
     exfalso;obtain⟨yn,ak⟩:=zhB (show 0<=y' by omega);have:yn∈(zgj pn).filter λ(x:Nat)=>decide ((x:Int)*Wt z t%p=1):=zgC.mpr ⟨zgl.mpr ⋯,by rw [<- ak,zhH];simp [ah]⟩;rw [S]at this;simp at this
    | cons y ys=>
     have a9:y∈(zgj pn).filter λ(x:Nat)=>decide ((x:Int)*Wt z t%p=1):=by rw [S];exact zgI
     have bb:y<pn:=zgl.mp (zgC.mp a9).1;have yy:Wt z t*(y:Int)%p=1:=by rw [zhH];simpa using (zgC.mp a9).2
     rw [S]at a3;rw [hf]at Z;have nx:=J.next Y U a8 yy (P:=λi=>(y:Int)*Wt z i%p) λi _=>rfl;refine⟨_,.inl ?_,r+1,ZS p (λi=>(y:Int)*Wt z i%p) t r B,VM t r l,λj=>clr p (λi=>(y:Int)*Wt z i%p) t (Wt j),.val (.int t),.val (.lst ((z::rest).map λj=>D.lst (zA n (Wt j)))),.val (.int y),.val (.lst (zA n λi=>(y:Int)*Wt z i%p)),rfl,nx⟩;have cy : ∀x,vF (y:Int) x=true:=λx=>qP _ _ ⋯ ⋯;have an:zG (.nm 0) z6 (zm qa (zm qi (zc 2) (zc 0)) (zc 1)) [Cell.no,Cell.val (.int p),Cell.val (.int y)] (zA n (Wt z))=some (zA n λi=>(y:Int)*Wt z i%p):=by
      rw [zU,zU];refine zo _ _ λi hi=>zq rfl rfl ?_;simp [cy,p0]
     have cl : ∀(k:Nat) (V:Nat->Vc),(∀j,j<k->0<=V j t/\V j t<p)->zG (.nm 0) z6 (ja (zQ F_law_less_k22 (za (zc 1) (za (zc 0) (za (zc 3) (za (sIx (zf 0) (zc 2)) zu)))))) [Cell.no,Cell.val (.int p),Cell.val (.int t),Cell.val (.lst (zA n λi=>(y:Int)*Wt z i%p))] (jG k n V)=some (jG k n λj=>clr p (λi=>(y:Int)*Wt z i%p) t (V j)):=λk V hV=>by
      unfold jG;refine zo _ _ λj O=>zq rfl rfl ?_;have:=za6 Y a0 (V j) (λi=>(y:Int)*Wt z i%p) (hV j (zgl.mp O));simp [U,this];rfl
     have ap:=cl m Wt λj O=>J.rng j t O U;have aq:=cl r B λj O=>J.isb.rng j t O U;have ar:r+1<=lim:=by omega
     have lp:(0:Int)<((z::rest).map λj=>D.lst (zA n (Wt j))).length:=by simp
     rw [XH];simp only [qF,zgq,zgN,zgM,QS];simp only [zgO]at a3;have as:inR p=true:=by rw [ab];exact vi a5
     have tn:p.toNat=pn:=by omega
     simp [zN,z4,j3,zgm,Z,hm,as,tn,a5,jv,a3,a0,an,ap,aq,a2,ar])
 obtain⟨γ',e1,r,B,l,Wt,c5,c6,c7,c8,rfl,J⟩:=ac;simp only [zgH,zhz,zhL]at J;have au:r<=n:=yZ J.isb.mono J.lt;have a2:r<=lim:=by omega
 refine⟨r,B,l,?_,J.isb,au,J.done⟩;have av:zG (.nm 0) z6 (ja (x9 (zf 0))) [Cell.no] (zL m n W)=some (jG m n W):=by
  unfold zL jG;refine zo _ _ λj O=>zq rfl rfl ?_;simp
 have aw:zG (.nm 0) z6 (zM (zf 0)) [Cell.no] (jG r n B)=some (zL r n B):=by
  unfold zL jG;refine zo _ _ λj O=>zq rfl rfl ?_;simp
 rw [XL];have sq:js (dsq kk (zL m n W))=some (kk,zL m n W):=by cases kk<;>rfl
 simp [jb,zV,zN,hm,z4,j3,zgm,av,a0,jv,sq];rw [zU n λi=>(i:Int),e1];simp [a2,z4,zgm,aw]
section
variable{p:Int}{n m r:Nat}{G:Vc->Prop}
theorem Span.sum{u:Nat->Vc}(c:Nat->Int) : ∀{m:Nat},(∀k,k<m->Span p n G (u k))->Span p n G λi=>sumTo (λk=>c k*u k i) m
 | 0,_=> .zero λi _=>by simp [sumTo]
 | m+1,h=>(((h m ⋯).add (Span.sum c (m:=m) λk z=>h k ⋯) (c m))).congr λi _=>by simp [sumTo]
def Rk(p:Int)(n m:Nat)(W:Nat->Vc)(r:Nat):Prop:=∃B l,IsB p n r B l/\∀v,Span p n (Fam r B) v↔Span p n (Fam m W) v
theorem xl(O:Pr p){W:Nat->Vc}{r r':Nat}(h:Rk p n m W r)(h':Rk p n m W r'):r=r':=by
 obtain⟨B,l,S,I⟩:=h;obtain⟨B',l',U,J⟩:=h';exact(kP O S U (λv z=>(J v).mpr ((I v).mp z)) (λv z=>(I v).mpr ((J v).mp z))).1
theorem ZE(z:Pr p)(hn:n<=100)(hm:m<=8)(W:Nat->Vc) : ∃r,r<=m/\Rk p n m W r:=by
 obtain⟨r,B,l,_,J,O,S⟩:=Zo z hn hm .L (λj i=>W j i%p) (λj i _ _=>⟨zhd _ (by have:=z.pos;omega),zgV _ z.pos⟩);refine⟨r,O,B,l,J,λv=>(S v).trans ⟨λh=>h.le λg ⟨k,I,e⟩=>?_,λh=>h.le λg ⟨k,I,e⟩=>?_⟩⟩
 ·subst e;exact(Span.gen (g:=W k) ⟨k,I,rfl⟩).congr λi _=>by rw [zgT]
 ·subst e;exact(Span.gen (g:=λi=>W k i%p) ⟨k,I,rfl⟩).congr λi _=>by rw [zgT]
theorem WL(hp:Pr p){m' r r':Nat}{W S:Nat->Vc}(h:Rk p n m W r)(h':Rk p n m' S r')(hw : ∀j,j<m->Span p n (Fam m' S) (W j)):r<=r':=by
 obtain⟨B,l,O,hs⟩:=h;obtain⟨B',l',U,a2⟩:=h';have s1 : ∀k,k<r->∃q,q<r'/\l' q=l k:=λk I=>JJ U ((a2 _).mpr (((hs _).mp (.gen ⟨k,I,rfl⟩)).le λg ⟨j,hj,e⟩=>e ▸ hw j hj)) (O.lt k I) (by rw [O.one k I,hp.one];decide) λi hi=>by rw [O.bef k i I hi];simp
 have a4 : ∀k,k<r->∀q,q<r'->l' q=l k->k<=q:=by
  intro k
  induction k with
  | zero=>intro _ q _ _;exact zh5 _
  | succ k ih=>
   intro I q Y e;obtain⟨J,Z,e0⟩:=s1 k ⋯;have h1:=ih ⋯ J Z e0;have h2:=O.mono k (k+1) ⋯ I;rcases zgF J q with z | z
   ·omega
   ·rcases zgF q J with y | y
    ·have:=U.mono q J y Z
     omega
    ·have:q=J:=by omega
     subst this;omega
 rcases ziR r with z | z
 ·omega
 ·obtain⟨q,Y,e⟩:=s1 (r - 1) ⋯
  have:=a4 (r - 1) ⋯ q Y e;omega
theorem Kn(z:Pr p){h w:Nat}{f:Nat->Nat->Int}{rc I:Nat}(hh:h<=8)(hw:w<=8)(J:Rk p h w (λj i=>f i j) rc)(O:Rk p w h f I):I<=rc:=by
 have a2:rc<=w:=by
  obtain⟨r',h1,h2⟩:=ZE z (n:=h) ⋯ hw λj i=>f i j;rw [xl z J h2];exact h1
 obtain⟨B,l,S,U⟩:=J;obtain⟨r2,h2,Y⟩:=ZE z (n:=w) ⋯ (show rc<=8 by omega) λk=>f (l k);refine zhh (WL z O Y λi hi=>?_) h2;refine(Span.sum (u:=λk=>f (l k)) (λk=>B k i) (m:=rc) λk Z=> .gen ⟨k,Z,rfl⟩).congr λj hj=>?_;have:=ya S ((U λi=>f i j).mpr (.gen ⟨j,hj,rfl⟩)) i hi;rw [this];congr 1;exact zy λk _=>zhH _ _
theorem Ko(z:Pr p){h w:Nat}{f:Nat->Nat->Int}{rc I:Nat}(J:h<=8)(hw:w<=8)(O:Rk p h w (λj i=>f i j) rc)(S:Rk p w h f I):I=rc:=
 Nat.le_antisymm (Kn z J hw O S) (Kn z (f:=λi j=>f j i) hw J S O)
end
section
variable{p:Int}{n m r h w:Nat}
theorem xJ{l:Nat->Nat}(h:Nat) : ∀{r:Nat},(∀k m,k<m->m<r->l k<l m)->∃s,s<=r/\(∀k,k<s->l k<h)/\∀k,s<=k->k<r->h<=l k
 | 0,_=>⟨0,zgp _,λk I=>absurd I (zgx _),λk _ I=>absurd I (zgx _)⟩
 | r+1,hm=>by
  obtain⟨s,h1,h2,J⟩:=xJ h (r:=r) λk m I O=>hm k m I ⋯;by_cases e:l r<h
  ·refine⟨r+1,zgp _,λk I=>?_,λk h1 h2=>by omega⟩
   rcases zgF k r with z | z
   ·have:=hm k r z ⋯;omega
   ·have:k=r:=by omega
    subst this;exact e
  ·refine⟨s,by omega,h2,λk I S=>?_⟩
   rcases zgF k r with z | z
   ·exact J k I z
   ·have:k=r:=by omega
    subst this;omega
theorem JN{q:Nat->Bool}{s r:Nat}(J:s<=r)(h1 : ∀k,k<s->q k=false)(h2 : ∀k,s<=k->k<r->q k=true):(zgj r).filter q=(zgj (r - s)).map (s + ·):=by
 obtain⟨d,rfl⟩ : ∃d,r=s+d:=⟨r - s,by omega⟩;rw [ziA,ziQ];have e1:(zgj s).filter q=[]:=List.filter_eq_nil_iff.mpr λk z=>by rw [h1 k (zgl.mp z)];decide
 have I:((zgj d).map (s + ·)).filter q=(zgj d).map (s + ·):=List.filter_eq_self.mpr λk z=>by
  obtain⟨i,hi,rfl⟩:=zg1.mp z;exact h2 _ ⋯ (by have:=zgl.mp hi;omega)
 rw [e1,I,zgS];rfl
def jT(h:Nat)(u v:Vc):Vc:=λi=>if i<h then u i else v (i - h)
def jt(j:Nat):Vc:=λk=>if j=k then 1 else 0
theorem zR{u v:Vc}{i:Nat}(hi:i<h):jT h u v i=u i:=if_pos hi
theorem jd{u v:Vc}(i:Nat):jT h u v (h+i)=v i:=by unfold jT;rw [if_neg ⋯,zgS]
theorem qY(h w:Nat)(u v:Vc):zA h u++zA w v=zA (h+w) (jT h u v):=by
 unfold zA;rw [ziA,zg4];congr 1
 ·exact zgD λi hi=>by rw [zR (zgl.mp hi)]
 ·rw [zhf]
  exact zgD λi _=>by simp only [Function.comp];rw [jd]
theorem Yo(h w:Nat)(v:Vc):(zA (h+w) v).take h=zA h v:=by
 unfold zA;rw [<- List.map_take,List.take_range,Nat.min_eq_left (zhk h w)]
theorem Yp(h w:Nat)(v:Vc):(zA (h+w) v).drop h=zA w λj=>v (h+j):=by
 unfold zA;rw [ziA,zg4,List.drop_append_of_le_length ⋯,List.drop_eq_nil_of_le ⋯,zhf];rfl
theorem QL(h w:Nat)(v:Vc):QM (zA (h+w) v) none (some (h:Int))=zA h v:=by
 have c : ¬((h:Int)<0):=by omega
 have e:min h (h+w)=h:=Nat.min_eq_left (zhk h w);simp [QM,JT,c,e,Yo]
theorem QK(h w:Nat)(v:Vc):QM (zA (h+w) v) (some (h:Int)) none=zA w λj=>v (h+j):=by
 have c : ¬((h:Int)<0):=by omega
 have e:min h (h+w)=h:=Nat.min_eq_left (zhk h w);have t : ∀g:Vc,(zA w g).take w=zA w g:=λg=>zhR ⋯;simp [QM,JT,c,e,Yp,t]
theorem Qa(v:Vc) : ∀n,kY (zA n v)=some ((zgj n).map λi=>v i != 0)
 | 0=>rfl
 | n+1=>by
  have z : ∀l:List Nat,kY (l.map λi=>D.int (v i))=some (l.map λi=>v i != 0):=by
   intro l
   induction l with
   | nil=>rfl
   | cons a l I=>simp [kY,zdF,I]
  exact z _
theorem xf{B:Nat->Vc}{l:Nat->Nat}(I:IsB p (h+w) r B l)(O:r<=lim){s:Nat}(S:s<=r)(h1 : ∀k,k<s->l k<h)(h2 : ∀k,s<=k->k<r->h<=l k) :
 F_behind_noughts [.int h,.lst (zL r (h+w) B)]=some (.own (zL (r - s) w λk j=>B (s+k) (h+j))):=by
 have J:zG (.nm 0) (qN (sB (WJ (zz (Qd (zc 0) XT (sBd (zc 1))))))) (Qd (zc 0) (sBd (zc 1)) XT) [Cell.no,Cell.val (.int h)] (zL r (h+w) B)=some (((zgj r).filter λk=>decide (h<=l k)).map λk=>D.tup (zA w λj=>B k (h+j))):=by
  unfold zL;refine zP (λk=>decide (h<=l k)) _ _ λk z=>⟨_,rfl,?_,λU=>?_⟩
  ·have z:=zgl.mp z
   simp [QL,Qa];by_cases e:h<=l k
   ·simp [e]
    intro i hi;have:=I.bef k i z ⋯;simp [this]
   ·simp [e]
    exact⟨l k,by omega,by rw [I.one k z];decide⟩
  ·simp [QK]
 rw [JN S (λk z=>decide_eq_false (by have:=h1 k z;omega)) (λk a b=>decide_eq_true (h2 k a b))]at J;simp [F_behind_noughts,jb,zV,O,z4,j3,zgm,J];unfold zL;rfl
def Ker(p:Int)(h w:Nat)(f:Nat->Nat->Int)(v:Vc):Prop:=∀i,i<h->sumTo (λj=>f i j*v j) w%p=0
theorem VE{f:Nat->Nat->Int}{v:Vc}(J:Span p (h+w) (Fam w λj=>jT h (λi=>f i j) (jt j)) v) : ∀i,i<h->v i%p=sumTo (λj=>f i j*v (h+j)) w%p:=by
 induction J with
 | @zero v z=>
  intro i hi;rw [z i ⋯];have:sumTo (λj=>f i j*v (h+j)) w%p=sumTo (λ_=>0) w%p:=zW λj O=>by rw [zgt,z (h+j) ⋯];simp
  rw [this,zI];rfl
 | @step v u g c S Z I U=>
  intro i hi;obtain⟨m,hm,rfl⟩:=S;rw [I i ⋯,zgL,U i hi,<- zgL];have e1:sumTo (λj=>f i j*v (h+j)) w%p=sumTo (λj=>f i j*u (h+j)+c*(f i j*jt m j)) w%p:=zW λj O=>by
   rw [zgt,I (h+j) ⋯,<- zgt];simp only [jd];rw [zi4,zjH]
  rw [e1,jC,jK,je (f:=λj=>f i j*jt m j) hm λj _ Y=>by simp [jt,zht Y]];simp [jt,zR hi]
theorem wC(I:Pr p)(w:Nat):IsB p w w jt id where
 lt:=λk z=>z
 mono:=λk m z _=>z
 one:=λk _=>if_pos rfl
 bef:=λk j _ J=>if_neg (by simp only [id]at J;omega)
 oth:=λk m _ _ O=>if_neg (by simp only [id];omega)
 rng:=λk i _ _=>by have:=I.two;unfold jt;split<;>omega
theorem Span.map{n':Nat}{G G':Vc->Prop}(t:Nat->Nat)(z : ∀i,i<n'->t i<n)(I : ∀g,G g->Span p n' G' λi=>g (t i)){v:Vc}(J:Span p n G v):Span p n' G' λi=>v (t i):=by
 induction J with
 | @zero v O=>exact .zero λi hi=>O _ (z i hi)
 | @step v u g c S Z U Y=>exact((I _ S).add Y c).congr λi hi=>U _ (z i hi)
theorem qc(Y:Pr p)(hh:h<=20)(hw:w<=8)(f:Nat->Nat->Int) :
 ∃q K l s,xc [.int p,j5 h w f]=some (.own (zL q w K))/\IsB p w q K l/\(∀v,Span p w (Fam q K) v↔Ker p h w f v)/\Rk p h w (λj i=>f i j) s/\q+s=w:=by
 have hl:=jf;have a6:h<=lim:=by omega
 have a0:w<=lim:=by omega
 have a7:h+w<=lim:=by omega
 obtain⟨r,B,l,e,J,Z⟩:=jV Y (show h+w<=100 by omega) a0 .L λj=>jT h (λi=>f i j) (jt j);have a8 : ∀v,Span p (h+w) (Fam r B) v->∀i,i<h->v i%p=sumTo (λj=>f i j*v (h+j)) w%p:=λv S=>VE ((Z v).mp S);have a9:r<=w:=by
  obtain⟨r',h1,h2⟩:=ZE Y (n:=h+w) ⋯ hw λj=>jT h (λi=>f i j) (jt j);rw [xl Y ⟨B,l,J,Z⟩ h2];exact h1
 have aa:w<=r:=by
  obtain⟨r',h1,h2⟩:=ZE Y (n:=w) ⋯ (show r<=8 by omega) λk j=>B k (h+j);refine zhh (WL Y (m:=w) (W:=jt) ⟨jt,id,wC Y w,λv=>Iff.rfl⟩ h2 λj O=>?_) h1;have:=Span.map (n':=w) (G':=Fam r λk j=>B k (h+j)) (λi=>h+i) (λi hi=>by omega) (λg ⟨k,I,U⟩=> .gen ⟨k,I,by rw [U]⟩) ((Z (jT h (λi=>f i j) (jt j))).mpr (.gen ⟨j,O,rfl⟩));exact this.congr λi _=>by rw [jd]
 have er:r=w:=Nat.le_antisymm a9 aa;subst er;obtain⟨s,hs,s1,s2⟩:=xJ h J.mono;have eb:=xf J a0 hs s1 s2;have ae:IsB p r (r - s) (λk j=>B (s+k) (h+j)) (λk=>l (s+k) - h):={
  lt:=λk I=>by have:=J.lt (s+k) ⋯;have:=s2 (s+k) ⋯ ⋯;omega
  mono:=λk m I hm=>by have:=J.mono (s+k) (s+m) ⋯ ⋯;have:=s2 (s+k) ⋯ ⋯;omega
  one:=λk I=>by
   have:=s2 (s+k) ⋯ ⋯;rw [show h+(l (s+k) - h)=l (s+k)by omega];exact J.one _ ⋯
  bef:=λk j I O=>J.bef _ _ ⋯ ⋯
  oth:=λk m I hm a1=>by
   have:=s2 (s+m) ⋯ ⋯;rw [show h+(l (s+m) - h)=l (s+m)by omega];exact J.oth _ _ ⋯ ⋯ ⋯
  rng:=λk i I hi=>J.rng _ _ ⋯ ⋯}
 refine⟨r - s,_,_,s,?_,ae,λv=>⟨λS=>?_,λS=>?_⟩,?_,by omega⟩
 ·have ov:=kU f a6 a0
  have sm:=xB (n:=r) a0;have af:zG (.tp [0,1]) z6 (zm jo (zc 0) (zc 1)) [Cell.no,Cell.no] ((zgj r).map λj=>D.tup [.tup (zA h λi=>f i j),.tup (zA r λk=>if j=k then 1 else 0)])=some (zL r (h+r) λj=>jT h (λi=>f i j) (jt j)):=by
   unfold zL;refine zo _ _ λj O=>zq rfl rfl ?_;simp [jo,a7,qY];rfl
  have zp:vH (zL r h λi j=>f j i) (zL r r λi j=>if i=j then 1 else 0)=(zgj r).map λj=>D.tup [.tup (zA h λi=>f i j),.tup (zA r λk=>if j=k then 1 else 0)]:=by
   unfold vH zL;rw [zi2];simp
  have c1:((h:Int)+(r:Int))=((h+r:Nat):Int):=by omega
  simp only [dsq]at e;rw [<- c1]at e;unfold j5 at ov sm ⊢;have nl : ∀T t f γ,zG T t f γ []=some []:=λ_ _ _ _=>rfl;simp [xc,F_led_into,jb,zV,zN,ov,sm,zp,a0,z4,zgm,af,nl,e,eb]
 ·intro i hi
  induction S with
  | @zero v hz=>
   have:sumTo (λj=>f i j*v j) r%p=sumTo (λ_=>0) r%p:=zW λj O=>by rw [zgt,hz j O];simp
   rw [this,zI];rfl
  | @step v u g c hg hu he ih=>
   obtain⟨k,I,rfl⟩:=hg;have e1:sumTo (λj=>f i j*v j) r%p=sumTo (λj=>f i j*u j+c*(f i j*B (s+k) (h+j))) r%p:=zW λj O=>by
    rw [zgt,he j O,<- zgt,zi4,zjH]
   have e2:=a8 (B (s+k)) (.gen ⟨s+k,by omega,rfl⟩) i hi;have e3:B (s+k) i=0:=J.bef _ _ ⋯ (by have:=s2 (s+k) ⋯ ⋯;omega);rw [e3]at e2;rw [e1,jC,jK,zgL,ih,zgt,<- e2];simp
 ·
  have an:Span p (h+r) (Fam r B) (jT h (λ_=>0) v):=by
   refine(Z _).mpr ((Span.sum (u:=λj=>jT h (λi=>f i j) (jt j)) v (m:=r) λj O=> .gen ⟨j,O,rfl⟩).congr λi hi=>?_);rcases zgF i h with z | z
   ·simp only [zR z]
    rw [zy (g:=λj=>f i j*v j) λj _=>zhH _ _,S i z];simp
   ·obtain⟨k,rfl⟩ : ∃k,i=h+k:=⟨i - h,by omega⟩
    simp only [jd];rw [je (f:=λj=>v j*jt j k) (i:=k) ⋯ λj _ a1=>by simp [jt,a1]];simp [jt]
  have co:=ya J an;refine(Span.sum (u:=λk j=>B (s+k) (h+j)) (λk=>jT h (λ_=>0) v (l (s+k))) (m:=r - s) λk I=> .gen ⟨k,I,rfl⟩).congr λj O=>?_;have:=co (h+j) ⋯;rw [jd]at this;rw [this];obtain⟨d,rfl⟩ : ∃d,r=s+d:=⟨r - s,by omega⟩;rw [zgS];have sp : ∀(F:Nat->Int) (d:Nat),(∀k,k<s->F k=0)->sumTo F (s+d)=sumTo (λk=>F (s+k)) d:=by
   intro F d hF
   induction d with
   | zero=>
    show sumTo F s=0;rw [zy (g:=λ_=>0) hF,zI]
   | succ d ih=>rw [<- zi3];simp only [sumTo];rw [ih]
  rw [sp _ d λk I=>by rw [zR (s1 k I)];simp]
 ·
  refine⟨λk i=>B k i,l,⟨λk I=>s1 k I,λk m I hm=>J.mono k m I ⋯,λk I=>J.one k ⋯,λk j I O=>J.bef k j ⋯ O,λk m I hm a1=>J.oth k m ⋯ ⋯ a1,λk i I hi=>J.rng k i ⋯ ⋯⟩,λv=>⟨λS=>S.le λg ⟨k,I,U⟩=>?_,λS=>S.le λg ⟨j,O,U⟩=>?_⟩⟩
  ·subst U
   exact Span.map (n':=h) (G':=Fam r λj i=>f i j) (λi=>i) (λi hi=>by omega) (λg ⟨j,O,U⟩=>(Span.gen (g:=λi=>f i j) ⟨j,O,rfl⟩).congr λi hi=>by rw [U];simp only [zR hi]) ((Z (B k)).mp (.gen ⟨k,by omega,rfl⟩))
  ·subst U
   have:=Span.map (n':=h) (G':=Fam s λk i=>B k i) (λi=>i) (λi hi=>by omega) (λg hZ=>by
    obtain⟨k,I,U⟩:=hZ;subst U;rcases zgF k s with z | z
    ·exact .gen ⟨k,z,rfl⟩
    ·exact .zero λi hi=>by rw [J.bef k i I (by have:=s2 k z I;omega)];simp) ((Z (jT h (λi=>f i j) (jt j))).mpr (.gen ⟨j,O,rfl⟩))
   exact this.congr λi hi=>by rw [zR hi]
end
section
variable{p:Int}{h w q r:Nat}
def app(f:Nat->Nat->Int)(w:Nat)(v:Vc):Vc:=λi=>sumTo (λj=>f i j*v j) w
theorem vw{f:Nat->Nat->Int}{u g v:Vc}{c:Int}(z : ∀j,j<w->v j%p=(u j+c*g j)%p)(i:Nat):app f w v i%p=(app f w u i+c*app f w g i)%p:=by
 unfold app;have e:sumTo (λj=>f i j*v j) w%p=sumTo (λj=>f i j*u j+c*(f i j*g j)) w%p:=zW λj I=>by
  rw [zgt,z j I,<- zgt,zi4,zjH]
 rw [e,jC,jK]
theorem kQ{f:Nat->Nat->Int}{v:Vc}(z : ∀j,j<w->v j%p=0)(i:Nat):app f w v i%p=0:=by
 unfold app;have:sumTo (λj=>f i j*v j) w%p=sumTo (λ_=>0) w%p:=zW λj I=>by rw [zgt,z j I];simp
 rw [this,zI];rfl
theorem jH{f:Nat->Nat->Int}{u v:Vc}(z : ∀j,j<w->v j%p=u j%p)(i:Nat):app f w v i%p=app f w u i%p:=by
 unfold app;exact zW λj I=>by rw [zgt,z j I,<- zgt]
theorem J2(Z:Pr p)(hh:h<=100)(hw:w<=lim)(hq:q<=lim)(f:Nat->Nat->Int)(hf : ∀i j,i<h->j<w->0<=f i j/\f i j<100)(K:Nat->Vc) :
 ∃r B l,F_led_on [.int p,j5 h w f,.lst (zL q w K)]=some (.own (zL r h B))/\IsB p h r B l/\∀v,Span p h (Fam r B) v ↔ ∃y,Span p w (Fam q K) y/\∀i,i<h->v i%p=app f w y i%p:=by
 have hl:=jf;obtain⟨r,B,l,e,hb,a5⟩:=jV Z hh hq .L λk i=>app f w (K k) i%p;refine⟨r,B,l,?_,hb,λv=>(a5 v).trans ⟨λz=>?_,λ⟨y,J,z⟩=>?_⟩⟩
 ·have a6:zG (.nm 0) z6 (zw F_led (za (zc 1) (za (zc 2) (za (zc 0) zu)))) [Cell.no,Cell.val (.int p),Cell.val (j5 h w f)] (zL q w K)=some (zL q h λk i=>app f w (K k) i%p):=by
   unfold zL;refine zo _ _ λk I=>zq rfl rfl ?_;have:=Zn (p:=p) .T f (K k) Z.pos (show h<=lim by omega) hw hf;simp only [dsq]at this;simp [this];rfl
  simp only [dsq]at e;have sq:js (j5 h w f)=some (.T,[.int h,.int w,.tup (zL h w f)]):=rfl;simp [F_led_on,jb,zV,hq,z4,j3,zgm,a6,sq,e]
 ·induction z with
  | @zero v O=>exact⟨λ_=>0,.zero λi _=>by simp,λi hi=>by rw [O i hi,kQ (p:=p) (λ_ _=>by simp)]⟩
  | @step v u g c S hu U Y=>
   obtain⟨y,J,a7⟩:=Y;obtain⟨k,I,rfl⟩:=S;refine⟨λj=>y j+c*K k j,(Span.gen (g:=K k) ⟨k,I,rfl⟩).add J c,λi hi=>?_⟩;rw [vw (p:=p) (u:=y) (g:=K k) (c:=c) (λ_ _=>rfl) i,U i hi,zgL,a7 i hi,zgt,zgT,<- zgt,<- zgL]
 ·induction J generalizing v with
  | @zero y O=>exact .zero λi hi=>by rw [z i hi];exact kQ O i
  | @step y u g c S hu U Y=>
   obtain⟨k,I,rfl⟩:=S;have h1:=Y (app f w u) ⟨u,hu,λ_ _=>rfl⟩ λi hi=>rfl;refine((Span.gen (g:=λi=>app f w (K k) i%p) ⟨k,I,rfl⟩).add h1 c).congr λi hi=>?_;rw [z i hi,vw (p:=p) U i,zgL,zgt,<- zgT (app f w (K k) i),<- zgt,<- zgL,zgT]
theorem vX(J:IsB p (h+w) r B l){s:Nat}(hs:s<=r)(s1 : ∀k,k<s->l k<h)(s2 : ∀k,s<=k->k<r->h<=l k) :
 IsB p w (r - s) (λk j=>B (s+k) (h+j)) (λk=>l (s+k) - h)/\∀v,Span p w (Fam (r - s) λk j=>B (s+k) (h+j)) v↔Span p (h+w) (Fam r B) (jT h (λ_=>0) v):=by
 refine⟨{
  lt:=λk I=>by have:=J.lt (s+k) ⋯;have:=s2 (s+k) ⋯ ⋯;omega
  mono:=λk m I hm=>by have:=J.mono (s+k) (s+m) ⋯ ⋯;have:=s2 (s+k) ⋯ ⋯;omega
  one:=λk I=>by
   have:=s2 (s+k) ⋯ ⋯;rw [show h+(l (s+k) - h)=l (s+k)by omega];exact J.one _ ⋯
  bef:=λk j I U=>J.bef _ _ ⋯ ⋯
  oth:=λk m I hm a3=>by
   have:=s2 (s+m) ⋯ ⋯;rw [show h+(l (s+m) - h)=l (s+m)by omega];exact J.oth _ _ ⋯ ⋯ ⋯
  rng:=λk i I hi=>J.rng _ _ ⋯ ⋯},λv=>⟨λO=>?_,λO=>?_⟩⟩
 ·induction O with
  | @zero v Y=>
   refine .zero λi hi=>?_;rcases zgF i h with z | z
   ·rw [zR z];simp
   ·obtain⟨k,rfl⟩ : ∃k,i=h+k:=⟨i - h,by omega⟩
    rw [jd];exact Y k ⋯
  | @step v u g c Z hu he S=>
   obtain⟨k,I,rfl⟩:=Z;refine .step (g:=B (s+k)) (c:=c) ⟨s+k,by omega,rfl⟩ S λi hi=>?_;rcases zgF i h with z | z
   ·rw [zR z,zR z,J.bef (s+k) i ⋯ (by have:=s2 (s+k) ⋯ ⋯;omega)];simp
   ·obtain⟨j,rfl⟩ : ∃k,i=h+k:=⟨i - h,by omega⟩
    rw [jd,jd];exact he j ⋯
 ·have co:=ya J O
  refine(Span.sum (u:=λk j=>B (s+k) (h+j)) (λk=>jT h (λ_=>0) v (l (s+k))) (m:=r - s) λk I=> .gen ⟨k,I,rfl⟩).congr λj U=>?_;have:=co (h+j) ⋯;rw [jd]at this;rw [this];obtain⟨d,rfl⟩ : ∃d,r=s+d:=⟨r - s,by omega⟩;rw [zgS];have sp : ∀(F:Nat->Int) (d:Nat),(∀k,k<s->F k=0)->sumTo F (s+d)=sumTo (λk=>F (s+k)) d:=by
   intro F d hF
   induction d with
   | zero=>
    show sumTo F s=0;rw [zy (g:=λ_=>0) hF,zI]
   | succ d S=>rw [<- zi3];simp only [sumTo];rw [S]
  rw [sp _ d λk I=>by rw [zR (s1 k I)];simp]
end
section
variable{p:Int}{h w q:Nat}
def jW(h w:Nat)(f:Nat->Nat->Int)(g:Nat->Vc):Nat->Vc:=λm=>if m<w then jT h (λi=>f i m) (jt m)else jT h (g (m - w)) (λ_=>0)
theorem Ys(f:Nat->Nat->Int)(g:Nat->Vc):zL w (h+w) (λj=>jT h (λi=>f i j) (jt j))++zL q (h+w) (λk=>jT h (g k) λ_=>0)=zL (w+q) (h+w) (jW h w f g):=by
 unfold zL;rw [ziA,zg4,zhf];congr 1
 ·refine zgD λm hm=>?_
  unfold jW;rw [if_pos (zgl.mp hm)]
 ·refine zgD λm hm=>?_
  simp only [Function.comp];unfold jW;rw [if_neg ⋯,zgS]
theorem Zj(f:Nat->Nat->Int){j:Nat}(z:j<w)(i:Nat):app f w (jt j) i=f i j:=by
 unfold app;rw [je (f:=λk=>f i k*jt j k) z λk _ I=>by simp [jt,zht I]];simp [jt]
theorem KH{f:Nat->Nat->Int}{g:Nat->Vc}{z:Vc}(I:Span p (h+w) (Fam (w+q) (jW h w f g)) z):Span p h (Fam q g) λi=>z i - app f w (λj=>z (h+j)) i:=by
 induction I with
 | @zero z I=>
  refine .zero λi hi=>?_;rw [zhO,I i ⋯,kQ (p:=p) (λj Z=>I (h+j) ⋯) i];simp
 | @step z u g' c hg hu S U=>
  obtain⟨m,hm,rfl⟩:=hg;have e2:=λi=>vw (p:=p) (w:=w) (f:=f) (u:=λj=>u (h+j)) (g:=λj=>jW h w f g m (h+j)) (v:=λj=>z (h+j)) (c:=c) (λj Z=>S (h+j) ⋯) i;have Y : ∀i,i<h->(z i - app f w (λj=>z (h+j)) i)%p=((u i - app f w (λj=>u (h+j)) i)+c*(jW h w f g m i - app f w (λj=>jW h w f g m (h+j)) i))%p:=λi hi=>by
   rw [zhO,S i ⋯,e2 i,<- zhO];congr 1;rw [Int.mul_sub];omega
  rcases zgF m w with J | J
  ·refine U.congr λi hi=>?_
   rw [Y i hi];have t:app f w (λj=>jW h w f g m (h+j)) i=f i m:=by
    have:(λj=>jW h w f g m (h+j))=jt m:=by
     funext j;unfold jW;rw [if_pos J,jd]
    rw [this,Zj f J]
   have O:jW h w f g m i=f i m:=by unfold jW;rw [if_pos J,zR hi]
   rw [t,O];simp
  ·refine .step (g:=g (m - w)) (c:=c) ⟨m - w,by omega,rfl⟩ U λi hi=>?_
   rw [Y i hi];have t:app f w (λj=>jW h w f g m (h+j)) i=0:=by
    have:(λj=>jW h w f g m (h+j))=λ_=>0:=by
     funext j;unfold jW;rw [if_neg ⋯,jd]
    rw [this];unfold app;simp [zI]
   have O:jW h w f g m i=g (m - w) i:=by unfold jW;rw [if_neg ⋯,zR hi]
   rw [t,O];simp
theorem zbf{f:Nat->Nat->Int}{g:Nat->Vc}{y:Vc}(I:Span p h (Fam q g) y):Span p (h+w) (Fam (w+q) (jW h w f g)) (jT h y λ_=>0):=by
 induction I with
 | @zero y J=>
  refine .zero λi hi=>?_;rcases zgF i h with z | z
  ·rw [zR z];exact J i z
  ·obtain⟨k,rfl⟩ : ∃k,i=h+k:=⟨i - h,by omega⟩
   rw [jd];simp
 | @step y u g' c O Y S U=>
  obtain⟨k,Z,rfl⟩:=O;refine .step (g:=jW h w f g (w+k)) (c:=c) ⟨w+k,by omega,rfl⟩ U λi hi=>?_;have e:jW h w f g (w+k)=jT h (g k) λ_=>0:=by
   unfold jW;rw [if_neg ⋯,zgS]
  rw [e];rcases zgF i h with z | z
  ·rw [zR z,zR z,zR z];exact S i z
  ·obtain⟨j,rfl⟩ : ∃k,i=h+k:=⟨i - h,by omega⟩
   rw [jd,jd,jd];simp
theorem kW(hp:Pr p)(hh:h<=20)(hw:w<=20)(hq:q<=100)(f:Nat->Nat->Int)(g:Nat->Vc) :
 ∃r B l,F_led_into [.int p,j5 h w f,.lst (zL q h g)]=some (.own (zL r w B))/\IsB p w r B l/\∀v,Span p w (Fam r B) v↔Span p h (Fam q g) (app f w v):=by
 have hl:=jf;have ab:h<=lim:=by omega
 have I:w<=lim:=by omega
 have O:h+w<=lim:=by omega
 have ac:q<=lim:=by omega
 have S:w+q<=lim:=by omega
 obtain⟨r,B,l,e,J,a2⟩:=jV hp (show h+w<=100 by omega) S .L (jW h w f g);have ad:r<=h+w:=yZ J.mono J.lt;obtain⟨s,U,s1,s2⟩:=xJ h J.mono;have eb:=xf J ⋯ U s1 s2;obtain⟨a4,tl⟩:=vX J U s1 s2;refine⟨r - s,_,_,?_,a4,λv=>(tl v).trans ((a2 _).trans ⟨λY=>?_,λY=>?_⟩)⟩
 ·have Z:=kU f ab I
  have sm:=xB (n:=w) I;have a5:zG (.tp [0,1]) z6 (zm jo (zc 0) (zc 1)) [Cell.no,Cell.no] ((zgj w).map λj=>D.tup [.tup (zA h λi=>f i j),.tup (zA w λk=>if j=k then 1 else 0)])=some (zL w (h+w) λj=>jT h (λi=>f i j) (jt j)):=by
   unfold zL;refine zo _ _ λj hj=>zq rfl rfl ?_;simp [jo,O,qY];rfl
  have zp:vH (zL w h λi j=>f j i) (zL w w λi j=>if i=j then 1 else 0)=(zgj w).map λj=>D.tup [.tup (zA h λi=>f i j),.tup (zA w λk=>if j=k then 1 else 0)]:=by
   unfold vH zL;rw [zi2];simp
  have a7:inR (w:Int)=true:=vi I;have zr:qi (.tup [.int 0]) (.int w)=some (.tup (zA w λ_=>0)):=by
   show(if [D.int 0].length*(w:Int).toNat<=lim/\inR (w:Int)=true then some (D.tup (zgm (w:Int).toNat [D.int 0]).flatten)else none)=_;rw [if_pos ⟨by simpa using I,a7⟩];congr 2;rw [zhn];clear a5 zp sm Z eb a4 tl a2 J e a7 S O I hw hq s1 s2 U ad
   induction w with
   | zero=>rfl
   | succ w ih=>rw [List.replicate_succ',List.flatten_append,ih];unfold zA;rw [zhi,zg4];rfl
  have fr:zG (.nm 0) z6 (zm jo (zc 0) (zm qi (ju (za (zh (.int 0)) zu)) (sIx (zf 1) (zh (.int 1))))) [Cell.no,Cell.val (j5 h w f)] (zL q h g)=some (zL q (h+w) λk=>jT h (g k) λ_=>0):=by
   unfold zL;refine zo _ _ λk hk=>zq rfl rfl ?_;have sq:js (j5 h w f)=some (.T,[.int h,.int w,.tup (zL h w f)]):=rfl;simp [sq,zr,jo,O,qY]
  have c1:((h:Int)+(w:Int))=((h+w:Nat):Int):=by omega
  simp only [dsq]at e;rw [<- c1,<- Ys]at e;have sq:js (j5 h w f)=some (.T,[.int h,.int w,.tup (zL h w f)]):=rfl;unfold j5 at Z sm fr ⊢;simp [F_led_into,jb,zV,zN,Z,sm,zp,I,ac,S,z4,j3,zgm,a5,fr,e,eb]
 ·have:=KH Y
  refine(this.smul (-1)).congr λi hi=>?_;congr 1;show app f w v i = -1*(jT h (λ_=>0) v i - app f w (λj=>jT h (λ_=>0) v (h+j)) i);rw [zR hi,show(λj=>jT h (λ_=>0) v (h+j))=v from funext λj=>jd j];omega
 ·have a:=Span.sum (p:=p) (n:=h+w) (G:=Fam (w+q) (jW h w f g)) (u:=λj=>jW h w f g j) v (m:=w) λj hj=> .gen ⟨j,by omega,rfl⟩
  have b:=zbf (w:=w) (f:=f) Y;refine(b.add a (-1)).congr λi hi=>?_;congr 1;rcases zgF i h with z | z
  ·rw [zR z,zR z]
   have:sumTo (λk=>v k*jW h w f g k i) w=app f w v i:=by
    unfold app;exact zy λk hk=>by unfold jW;rw [if_pos hk,zR z,zhH]
   rw [this];omega
  ·obtain⟨k,rfl⟩ : ∃k,i=h+k:=⟨i - h,by omega⟩
   rw [jd,jd];have:sumTo (λj=>v j*jW h w f g j (h+k)) w=v k:=by
    rw [je (f:=λj=>v j*jW h w f g j (h+k)) (i:=k) ⋯ λj hj ah=>by unfold jW;rw [if_pos hj,jd];simp [jt,ah]];unfold jW;rw [if_pos (show k<w by omega),jd];simp [jt]
   rw [this];simp
end
@[simp] theorem zbJ(r):j3 (.nest r) = .no:=rfl
@[simp] theorem zcY(r):j3 (.own r) = .no:=rfl
@[simp] theorem zcX(d):j3 (.val d) = .val d:=rfl
@[simp] theorem zdK:j3 .no = .no:=rfl
def begR(w:Nat->Bool)(k:Nat):Nat:=if w k then k+1 else k
def endR(w:Nat->Bool)(k:Nat):Nat:=if w k then k else k+1
theorem QD(w:Nat->Bool)(wd:Nat->Nat)(k):hiW w wd k=wd (endR w k):=by unfold hiW endR;split<;>rfl
theorem XW(w:Nat->Bool)(wd:Nat->Nat)(k):wiW w wd k=wd (begR w k):=by unfold wiW begR;split<;>rfl
theorem YL(w:Nat->Bool){k m:Nat}(h:k<m):begR w k<m+1:=by unfold begR;split<;>omega
theorem Yn(w:Nat->Bool){k m:Nat}(h:k<m):endR w k<m+1:=by unfold endR;split<;>omega
section
variable{p:Int}{m:Nat}{w:Nat->Bool}{wd:Nat->Nat}{f g T:Nat->Nat->Nat->Int}
theorem XE(m:Nat)(F:Nat->D):j9 ((zgj m).map F)=(zgj m).map λ(k:Nat)=>D.tup [.int k,F k]:=by
 unfold j9;rw [zgH,zhz];apply zgD;intro k z;have z:=zgl.mp z;simp [z]
end
structure Bar where
 s:Nat
 n:Nat
 v:Nat->Vc
def Bar.has(b:Bar)(r:Nat):Bool:=decide (b.s<=r) && decide (r<b.s+b.n)
theorem has_iff{b:Bar}{r:Nat}:b.has r=true↔b.s<=r/\r<b.s+b.n:=by simp [Bar.has]
def XU:Bar:=⟨0,0,λ_ _=>0⟩
structure BarOk(p:Int)(w:Nat->Bool)(wd:Nat->Nat)(T:Nat->Nat->Nat->Int)(k:Nat)(b:Bar):Prop where
 n1:1<=b.n
 le:b.s+b.n<=k+1
 rng : ∀r i,b.has r=true->i<wd r->0<=b.v r i/\b.v r i<p
 arr : ∀j,j<k->b.has (begR w j)=true->∀i,i<wd (endR w j)->app (T j) (wd (begR w j)) (b.v (begR w j)) i%p=(if b.has (endR w j)=true then b.v (endR w j) i else 0)%p
def Ord(w:Nat->Bool)(a b:Bar):Prop:=(a.s<b.s->w (b.s - 1)=true)/\(b.s<a.s->w (a.s - 1)=false)
def GenB(bars:List Bar)(r:Nat):Vc->Prop:=λg=>∃b,b∈bars/\b.has r=true/\g=b.v r
def mxV(p:Int)(A:Nat->Bar)(N:Nat)(t:Vc)(r:Nat):Vc:=λc=>sumTo (λj=>if (A j).has r=true then t j*(A j).v r c else 0) N%p
def mxB(p:Int)(A:Nat->Bar)(N:Nat)(t:Vc)(i:Nat):Bar:=⟨(A i).s,(A i).n,mxV p A N t⟩
section
variable{p:Int}{w:Nat->Bool}{wd:Nat->Nat}{T:Nat->Nat->Nat->Int}{k N:Nat}{A:Nat->Bar}
theorem yb(f:Nat->Nat->Int)(h:Nat)(t:Vc)(u:Nat->Vc)(n:Nat)(i:Nat):app f h (λc=>sumTo (λj=>t j*u j c) n) i=sumTo (λj=>t j*app f h (u j) i) n:=by
 unfold app;have e:sumTo (λj=>f i j*sumTo (λk=>t k*u k j) n) h=sumTo (λj=>sumTo (λk=>t k*(f i j*u k j)) n) h:=zy λj _=>by
  rw [<- jK];exact zy λk _=>by rw [<- zie,<- zie,zhH (f i j)]
 rw [e,xH];exact zy λj _=>jK ..
theorem za8(c:Prop) [Decidable c](x y:Int):(if c then x*y else 0)=x*(if c then y else 0):=by split<;>simp
theorem YO(f:Nat->Nat->Int)(h r:Nat)(t:Vc)(i:Nat):app f h (mxV p A N t r) i%p=sumTo (λj=>t j*(if (A j).has r=true then app f h ((A j).v r) i else 0)) N%p:=by
 have e:app f h (mxV p A N t r) i%p=app f h (λc=>sumTo (λj=>t j*(if (A j).has r=true then (A j).v r c else 0)) N) i%p:=jH (λc _=>by
  unfold mxV;rw [zgT];congr 1;exact zy λj _=>za8 ..) i
 rw [e,yb];congr 1;refine zy λj _=>?_;congr 1;by_cases z:(A j).has r=true
 ·simp only [if_pos z]
 ·simp only [if_neg z]
  unfold app;simp [zI]
theorem zc1(p0:0<p)(Y : ∀j,j<N->BarOk p w wd T k (A j))(hk : ∀j,j<N->(A j).has k=true){t:Vc}{i:Nat}(hi:i<N)(hO : ∀c,i<c->c<N->Ord w (A i) (A c))(tz : ∀c,c<i->t c=0) :
 BarOk p w wd T k (mxB p A N t i):=by
 refine⟨(Y i hi).n1,(Y i hi).le,λr c _ _=>⟨zhd _ ⋯,zgV _ p0⟩,λj hj J c hc=>?_⟩;have J:(A i).has (begR w j)=true:=J;show app (T j) (wd (begR w j)) (mxV p A N t (begR w j)) c%p=(if (A i).has (endR w j)=true then mxV p A N t (endR w j) c else 0)%p;rw [YO];have a7 : ∀I,I<N->t I≠0->((A i).has (endR w j)=true->(A I).has (endR w j)=true->(A I).has (begR w j)=true)/\((A i).has (endR w j)=false->(A I).has (begR w j)=true->(A I).has (endR w j)=false):=λI O Z=>by
  have h1:=has_iff.mp (hk i hi);have h2:=has_iff.mp (hk I O);have S:i<=I:=Nat.not_lt.mp λz=>Z (tz I z);rcases Nat.lt_or_eq_of_le S with S | S
  ·obtain⟨o1,o2⟩:=hO I S O
   have J:=has_iff.mp J;cases hw:w j with
   | false=>
    have U:begR w j=j:=by unfold begR;rw [hw];rfl
    have ee:endR w j=j+1:=by unfold endR;rw [hw];rfl
    rw [U]at J;rw [U,ee];refine⟨λ_ q=>has_iff.mpr ?_,λq _=>?_⟩
    ·have q:=has_iff.mp q
     refine⟨Nat.not_lt.mp λz=>?_,by omega⟩;have es:(A I).s=j+1:=by omega
     have:=o1 ⋯;rw [es]at this;simp [hw]at this
    ·exfalso
     have:(A i).has (j+1)=true:=has_iff.mpr ⋯;rw [this]at q;cases q
   | true=>
    have U:begR w j=j+1:=by unfold begR;rw [hw];rfl
    have ee:endR w j=j:=by unfold endR;rw [hw];rfl
    rw [U]at J;rw [U,ee];refine⟨λ_ q=>has_iff.mpr ?_,λq _=>?_⟩
    ·have q:=has_iff.mp q
     omega
    ·cases hx:(A I).has j with
     | false=>rfl
     | true=>
      exfalso;have hx:=has_iff.mp hx;have es:(A i).s=j+1:=by
       have : ¬((A i).s<=j):=λz=>by
        have:(A i).has j=true:=has_iff.mpr ⋯;rw [this]at q;cases q
       omega
      have:=o2 ⋯;rw [es]at this;simp [hw]at this
  ·subst S
   exact⟨λ_ _=>J,λq _=>q⟩
 have e1:sumTo (λI=>t I*(if (A I).has (begR w j)=true then app (T j) (wd (begR w j)) ((A I).v (begR w j)) c else 0)) N%p
  = sumTo (λI=>if (A i).has (endR w j)=true then (if (A I).has (endR w j)=true then t I*(A I).v (endR w j) c else 0)else 0) N%p:=zW λI O=>by
  by_cases Z:t I=0
  ·simp [Z]
  obtain⟨k1,k2⟩:=a7 I O Z;cases hx:(A i).has (endR w j)with
  | false=>
   cases hy:(A I).has (begR w j)with
   | false=>simp
   | true=>
    have q:=(Y I O).arr j hj hy c hc;rw [k2 hx hy]at q;simp only [if_true];rw [zgt,q];simp
  | true=>
   cases hy:(A I).has (begR w j)with
   | false=>
    cases hz:(A I).has (endR w j)with
    | false=>simp
    | true=>rw [k1 hx hz]at hy;cases hy
   | true=>
    have q:=(Y I O).arr j hj hy c hc;simp only [if_true];rw [zgt,q,<- zgt];congr 1;cases hz:(A I).has (endR w j)<;>simp
 rw [e1];cases hx:(A i).has (endR w j)with
 | false=>simp [zI]
 | true=>
  simp only [if_true];unfold mxV;rw [zgT]
theorem VO{G':Vc->Prop}{r n:Nat}{A':Nat->Bar}(t:Nat->Vc)(U : ∀i,i<N->t i i=1)(Y : ∀i c,i<N->c<i->t i c=0)
 (Z : ∀i,i<N->(A i).has r=true->Span p n G' ((A' i).v r)) (he : ∀i,i<N->(A i).has r=true->∀c,c<n->(A' i).v r c%p=mxV p A N (t i) r c%p) :
 ∀i,i<N->(A i).has r=true->Span p n G' ((A i).v r):=by
 have a1 : ∀d i,N - i<=d->i<N->(A i).has r=true->Span p n G' ((A i).v r):=by
  intro d
  induction d with
  | zero=>intro i h1 h2;omega
  | succ d ih=>
   intro i h1 h2 J;have hs:Span p n G' λc=>sumTo (λj=>(if j=i then 0 else if (A j).has r=true then t i j else 0)*(A j).v r c) N:=by
    have gen : ∀M,M<=N->Span p n G' λc=>sumTo (λj=>(if j=i then 0 else if (A j).has r=true then t i j else 0)*(A j).v r c) M:=by
     intro M
     induction M with
     | zero=>intro _;exact .zero λc _=>by simp [sumTo]
     | succ M a4=>
      intro hM;have q:=a4 ⋯;by_cases I:M=i\/¬((A M).has r=true)\/M<i
      ·refine q.congr λc _=>?_
       show(sumTo _ M+_)%p=_;rcases I with I | I | I
       ·simp [I]
       ·simp [I]
       ·have z:=Y i M h2 I;simp only [z];simp
      ·have a5:M≠i/\(A M).has r=true/\¬M<i:=by
        refine⟨λz=>I (.inl z),?_,λz=>I (.inr (.inr z))⟩;cases hx:(A M).has r with
        | true=>rfl
        | false=>exact absurd (.inr (.inl (by rw [hx];decide))) I
       exact((ih M ⋯ ⋯ a5.2.1).add q (if M=i then 0 else if (A M).has r=true then t i M else 0)).congr λc _=>rfl
    exact gen N (zgp _)
   have h0:=hs.add (Z i h2 J) (-1);refine h0.congr λc I=>?_;have e1:sumTo (λj=>if (A j).has r=true then t i j*(A j).v r c else 0) N=(A i).v r c+sumTo (λj=>(if j=i then 0 else if (A j).has r=true then t i j else 0)*(A j).v r c) N:=by
    have e2:(A i).v r c=sumTo (λj=>if j=i then (A i).v r c else 0) N:=by rw [je h2 λk _ hk=>by simp [hk]];simp
    rw [e2,<- jC];refine zy λj hj=>?_;by_cases S:j=i
    ·subst S;simp [J,U j h2]
    ·simp only [if_neg S]
     by_cases hx:(A j).has r=true
     ·simp [hx]
     ·simp [hx]
   have O:=he i h2 J c I;unfold mxV at O;rw [zgT,e1]at O;rw [zgL,O,<- zgL];congr 1;omega
 exact λi h1 h2=>a1 N i ⋯ h1 h2
end
section
variable{p:Int}{n m N h r r2 q:Nat}{B B2 K:Nat->Vc}{l l2 lK:Nat->Nat}{M f:Nat->Nat->Int}
theorem yM{U:Nat->Vc}{v:Vc}(z:Span p n (Fam m U) v) : ∃t:Vc,∀i,i<n->v i%p=sumTo (λj=>t j*U j i) m%p:=by
 induction z with
 | zero h=>exact⟨λ_=>0,λi hi=>by rw [h i hi];simp [zI]⟩
 | @step v w g c I hw J O=>
  obtain⟨t,S⟩:=O;obtain⟨k,Y,rfl⟩:=I;refine⟨λj=>t j+if j=k then c else 0,λi hi=>?_⟩;rw [J i hi,zgL,S i hi,<- zgL];congr 1;have e:sumTo (λj=>(t j+if j=k then c else 0)*U j i) m=sumTo (λj=>t j*U j i) m+sumTo (λj=>(if j=k then c else 0)*U j i) m:=by
   rw [<- jC];exact zy λj _=>Int.add_mul ..
  rw [e,je (f:=λj=>(if j=k then c else 0)*U j i) Y λj _ Z=>by simp [Z]];simp
theorem qm(a b:Nat->Int)(n:Nat):sumTo (λj=>a j*b j) n=sumTo (λj=>b j*a j) n:=zy λj _=>zhH ..
theorem col_span{u:Vc}:Span p h (Fam N λj i=>M i j) u ↔ ∃x:Vc,∀i,i<h->u i%p=app M N x i%p:=by
 constructor
 ·intro q
  obtain⟨t,z⟩:=yM q;exact⟨t,λi hi=>by rw [z i hi];unfold app;rw [qm]⟩
 ·rintro⟨x,hx⟩
  refine(Span.sum (u:=λj i=>M i j) x (m:=N) λj I=> .gen ⟨j,I,rfl⟩).congr λi hi=>?_;rw [hx i hi];unfold app;rw [qm]
theorem vj(n:Nat)(v:Vc):Span p n (Fam n jt) v:=by
 refine(Span.sum (u:=jt) v (m:=n) λj z=> .gen ⟨j,z,rfl⟩).congr λi hi=>?_;rw [je (f:=λk=>v k*jt k i) hi λk _ I=>by simp [jt,I]];simp [jt]
theorem vh(z:Pr p)(J:N<=8)(O : ∀v:Vc,∃t,∀i,i<N->v i%p=app f N t i%p){t:Vc}(S : ∀i,i<N->app f N t i%p=0) : ∀j,j<N->t j%p=0:=by
 obtain⟨q,K,l,s,_,hb,I,U,a2⟩:=qc z (h:=N) ⋯ J f;have Y:Rk p N N (λj i=>f i j) N:=⟨jt,id,wC z N,λv=>⟨λ_=>col_span.mpr (O v),λ_=>vj N v⟩⟩;have:=xl z U Y;have Z:q=0:=by omega
 subst Z;have:=(I t).mpr λi hi=>by
  have:=S i hi;unfold app at this;exact this
 cases this with
 | zero h=>exact h
 | step hg _ _=>obtain⟨k,I,_⟩:=hg;omega
def vN(r:Nat)(B:Nat->Vc)(l:Nat->Nat)(t:Vc):Vc:=λi=>t i - sumTo (λj=>t (l j)*B j i) r
theorem wf(I:IsB p N r B l)(t:Vc){j:Nat}(z:j<r):vN r B l t (l j)=0:=by
 unfold vN;rw [je (f:=λJ=>t (l J)*B J (l j)) z λk O S=>by rw [I.oth k j O z (zht S)];simp];rw [I.one j z];omega
theorem Qx(t:Vc):Span p N (Fam r B) λi=>sumTo (λj=>t (l j)*B j i) r:=Span.sum (u:=B) (λj=>t (l j)) λj z=> .gen ⟨j,z,rfl⟩
theorem zbc(z:IsB p N r B l){t:Vc}(h:Span p N (Fam r B) t)(I : ∀j,j<r->t (l j)%p=0) : ∀i,i<N->t i%p=0:=λi hi=>by
 rw [ya z h i hi];have e:sumTo (λk=>t (l k)*B k i) r%p=sumTo (λ_=>0) r%p:=zW λk J=>by rw [zgt,I k J];simp
 rw [e,zI];simp
theorem J7(z:Pr p)(I:IsB p N r B l){i:Nat}(hi:i<N)(hn : ∀j,j<r->l j≠i) : ¬Span p N (Fam r B) (jt i):=λh=>by
 have:=zbc I h (λj J=>by unfold jt;rw [if_neg (zht (hn j J))];simp) i hi;unfold jt at this;rw [if_pos rfl,z.one]at this;omega
theorem Zk(g:Nat->Nat->Int)(w:Nat)(u v:Vc)(i:Nat):app g w (λj=>u j - v j) i=app g w u i - app g w v i:=by
 have e:app g w u i=app g w (λj=>u j - v j) i+app g w v i:=by
  unfold app;rw [<- jC];exact zy λj _=>by dsimp only;rw [<- zi4];congr 1;omega
 omega
def JA(M f:Nat->Nat->Int)(N:Nat):Nat->Nat->Int:=λi j=>sumTo (λk=>M i k*f k j) N
theorem yG(t:Vc)(i:Nat):app (JA M f N) N t i=app M N (app f N t) i:=by
 unfold app JA;have e:sumTo (λj=>sumTo (λk=>M i k*f k j) N*t j) N=sumTo (λj=>sumTo (λk=>M i k*(f k j*t j)) N) N:=zy λj _=>by
  rw [<- xI];exact zy λk _=>zie ..
 rw [e,xH];exact zy λk _=>jK ..
theorem zb1(Z:Pr p)(hN:N<=8)(hh:h<=8)(hs : ∀v:Vc,∃t,∀i,i<N->v i%p=app f N t i%p)(hb:IsB p N r B l)(S : ∀t,Span p N (Fam r B) t↔Ker p h N M (app f N t))
 (a4:IsB p h r2 B2 l2) (hI : ∀v,Span p h (Fam r2 B2) v↔Span p h (Fam N λj i=>M i j) v) :
 (∀j,j<r->∀i,i<h->app M N (app f N (B j)) i%p=0)/\(∀c,c<N->(∀j,j<r->l j≠c)->∃i,i<h/\app M N (λa=>f a c) i%p≠0)/\r+r2=N/\
   ∀O:Vc->Prop,(∀c,c<N->(∀j,j<r->l j≠c)->Span p h O (app M N λa=>f a c))->(∀c,c<h->(∀j,j<r2->l2 j≠c)->Span p h O (jt c))->∀v,Span p h O v:=by
 have a1 : ∀t:Vc,Ker p h N M (app f N t) ↔ ∀i,i<h->app M N (app f N t) i%p=0:=λt=>Iff.rfl;have a8 : ∀(c:Nat),c<N->∀i,app M N (λa=>f a c) i%p=app M N (app f N (jt c)) i%p:=λc I i=>jH (λa _=>by rw [Zj f I]) i;refine⟨λj J=>(a1 _).mp ((S (B j)).mp (.gen ⟨j,J,rfl⟩)),λc I hn=>?_,?_,λO h1 h2 v=>?_⟩
 ·refine zg7 λz=>J7 Z hb I hn ((S _).mpr ((a1 _).mpr λi hi=>?_))
  rw [<- a8 c I i];exact zg7 λy=>z ⟨i,hi,y⟩
 ·obtain⟨q',K',l',s',_,aa,a6,ab,al⟩:=qc Z (h:=h) (w:=N) ⋯ hN (JA M f N)
  have e1:q'=r:=(kP Z aa hb (λv hv=>(S v).mpr λi hi=>by
   have:=(a6 v).mp hv i hi;rw [show sumTo (λj=>JA M f N i j*v j) N=app (JA M f N) N v i from rfl,yG]at this;exact this) λv hv=>(a6 v).mpr λi hi=>by
   have:=(S v).mp hv i hi;rw [show sumTo (λj=>JA M f N i j*v j) N=app (JA M f N) N v i from rfl,yG];exact this).1
  have e2:s'=r2:=by
   refine xl Z ab ⟨B2,l2,a4,λv=>(hI v).trans ⟨λz=>?_,λz=>?_⟩⟩
   ·obtain⟨x,hx⟩:=col_span.mp z
    obtain⟨t,U⟩:=hs x;refine col_span.mpr ⟨t,λi hi=>?_⟩;rw [hx i hi,yG];exact jH U i
   ·obtain⟨t,U⟩:=col_span.mp z
    exact col_span.mpr ⟨app f N t,λi hi=>by rw [U i hi,yG]⟩
  omega
 ·
  have im : ∀t:Vc,Span p h O (app M N (app f N t)):=λt=>by
   have hz:=(a1 _).mp ((S _).mp (Qx (p:=p) (N:=N) (B:=B) (r:=r) (l:=l) t));have e : ∀i,i<h->app M N (app f N t) i%p=app M N (app f N (vN r B l t)) i%p:=λi hi=>by
    have e0:app M N (app f N (vN r B l t)) i=app M N (app f N t) i - app M N (app f N λi=>sumTo (λj=>t (l j)*B j i) r) i:=by
     rw [<- Zk];congr 1;funext a;exact Zk ..
    rw [e0,zhO,hz i hi];simp
   refine Span.congr ?_ e;have e3 : ∀i,app M N (app f N (vN r B l t)) i=sumTo (λc=>vN r B l t c*app M N (λa=>f a c) i) N:=λi=>by
    rw [<- yb];congr 1;funext a;unfold app;exact qm ..
   have s1 : ∀K,K<=N->Span p h O λi=>sumTo (λc=>vN r B l t c*app M N (λa=>f a c) i) K:=by
    intro K
    induction K with
    | zero=>intro _;exact .zero λi _=>by simp [sumTo]
    | succ K Y=>
     intro hK;by_cases I : ∃j,j<r/\l j=K
     ·obtain⟨j,J,rfl⟩:=I
      refine(Y ⋯).congr λi _=>?_;show(sumTo _ (l j)+_)%p=_;have z:=wf hb t J;simp only [z];simp
     ·exact((h1 K ⋯ λj J z=>I ⟨j,J,z⟩).add (Y ⋯) _).congr λi _=>rfl
   exact(s1 N (zgp _)).congr λi _=>by rw [e3]
  have ah : ∀u,Span p h (Fam r2 B2) u->Span p h O u:=λu hu=>by
   obtain⟨x,hx⟩:=col_span.mp ((hI u).mp hu);obtain⟨t,U⟩:=hs x;exact(im t).congr λi hi=>by rw [hx i hi];exact jH U i
  have s2 : ∀K,K<=h->Span p h O λi=>sumTo (λc=>vN r2 B2 l2 v c*jt c i) K:=by
   intro K
   induction K with
   | zero=>intro _;exact .zero λi _=>by simp [sumTo]
   | succ K Y=>
    intro hK;by_cases I : ∃j,j<r2/\l2 j=K
    ·obtain⟨j,J,rfl⟩:=I
     refine(Y ⋯).congr λi _=>?_;show(sumTo _ (l2 j)+_)%p=_;have z:=wf a4 v J;simp only [z];simp
    ·exact((h2 K ⋯ λj J z=>I ⟨j,J,z⟩).add (Y ⋯) _).congr λi _=>rfl
  refine((ah _ (Qx (B:=B2) (r:=r2) (l:=l2) v)).add (s2 h (zgp _)) 1).congr λi hi=>?_;congr 1;rw [je (f:=λc=>vN r2 B2 l2 v c*jt c i) hi λc _ I=>by simp [jt,I]];simp only [jt,if_true,vN];omega
theorem zb2(J:Pr p)(hN:N<=8)(hh:h<=8)(hs : ∀v:Vc,∃t,∀i,i<N->v i%p=app f N t i%p)(Y:IsB p N r B l)(hW : ∀t,Span p N (Fam r B) t↔Span p N (Fam h λj i=>M i j) (app f N t))
 (hk : ∀v,Span p h (Fam q K) v↔Ker p N h M v) {s:Nat} (hr:Rk p N h (λj i=>M i j) s) (ar:q+s=h) :
 (∀j,j<r->∃y:Vc,∀i,i<N->app M h y i%p=app f N (B j) i%p)/\(∀c,c<N->(∀j,j<r->l j≠c)->¬∃y:Vc,∀i,i<N->app M h y i%p=f i c%p)/\r+q=h/\
   ∀(Z:Vc->Prop) (x:Nat->Vc),(∀j,j<r->Span p h Z (x j)/\∀i,i<N->app M h (x j) i%p=app f N (B j) i%p)->(∀j,j<q->Span p h Z (K j))->∀v,Span p h Z v:=by
 have a5 : ∀t,Span p N (Fam r B) t ↔ ∃y:Vc,∀i,i<N->app f N t i%p=app M h y i%p:=λt=>(hW t).trans col_span;have inj : ∀{t:Vc},(∀i,i<N->app f N t i%p=0)->∀j,j<N->t j%p=0:=λS=>vh J hN hs S;refine⟨λj I=>?_,λc hc hn z=>?_,?_,λZ x h1 h2 v=>?_⟩
 ·obtain⟨y,hy⟩:=(a5 (B j)).mp (.gen ⟨j,I,rfl⟩)
  exact⟨y,λi hi=>(hy i hi).symm⟩
 ·obtain⟨y,hy⟩:=z
  exact J7 J Y hc hn ((a5 _).mpr ⟨y,λi hi=>by rw [Zj f hc,hy i hi]⟩)
 ·have ad:s<=8/\r<=8:=by
   obtain⟨s',as,ah⟩:=ZE J (n:=N) (m:=h) ⋯ hh λj i=>M i j;refine⟨by rw [xl J hr ah];omega,?_⟩;have : ∀r',r'<=r->r'<=N:=by
    intro r';have mono : ∀k,k<r->k<=l k:=by
     intro k
     induction k with
     | zero=>intro _;omega
     | succ k ih=>intro hk;have:=ih ⋯;have:=Y.mono k (k+1) ⋯ hk;omega
    intro au;cases r' with
    | zero=>omega
    | succ ae=>have:=mono ae ⋯;have:=Y.lt ae ⋯;omega
   have:=this r (zgp _);omega
  have av:s<=r:=by
   obtain⟨s',a1,a2⟩:=ZE J (n:=N) (m:=r) ⋯ ad.2 λj=>app f N (B j);have e:s=s':=by
    obtain⟨C,U,hC,a6⟩:=hr;refine xl J (m:=h) (W:=λj i=>M i j) ⟨C,U,hC,a6⟩ ?_;obtain⟨C',al,am,an⟩:=a2;refine⟨C',al,am,λv=>(an v).trans ⟨λz=>?_,λz=>?_⟩⟩
    ·exact z.le λg O=>by
      obtain⟨j,I,rfl⟩:=O;exact(hW (B j)).mp (.gen ⟨j,I,rfl⟩)
    ·obtain⟨y,hy⟩:=col_span.mp z
     obtain⟨t,S⟩:=hs v;have ab:Span p N (Fam r B) t:=(a5 t).mpr ⟨y,λi hi=>by rw [<- S i hi,hy i hi]⟩;refine(Span.sum (u:=λj=>app f N (B j)) (λj=>t (l j)) (m:=r) λj I=> .gen ⟨j,I,rfl⟩).congr λi hi=>?_;rw [S i hi,<- yb];exact jH (λj I=>ya Y ab j I) i
   omega
  have aw:r<=s:=by
   obtain⟨C,U,hC,a6⟩:=hr;have ex : ∀j,∃t:Vc,∀i,i<N->C j i%p=app f N t i%p:=λj=>hs (C j);have g:Nat->Vc:=λj=>Classical.choose (ex j);have O : ∃g:Nat->Vc,∀j i,i<N->C j i%p=app f N (g j) i%p:=⟨λj=>Classical.choose (ex j),λj=>Classical.choose_spec (ex j)⟩;obtain⟨g,O⟩:=O;obtain⟨s',a1,a2⟩:=ZE J (n:=N) (m:=s) ⋯ ad.1 g;have e:r=s':=by
    refine xl J (m:=s) (W:=g) ⟨B,l,Y,λv=>⟨λz=>?_,λz=>?_⟩⟩ a2
    ·have hv:=(a6 _).mpr ((hW v).mp z)
     refine(Span.sum (u:=g) (λj=>app f N v (U j)) (m:=s) λj I=> .gen ⟨j,I,rfl⟩).congr λi hi=>?_;have z0 : ∀a,a<N->app f N (λi=>v i - sumTo (λj=>app f N v (U j)*g j i) s) a%p=0:=λa ha=>by
      rw [Zk,yb,zhO,ya hC hv a ha];have e:sumTo (λk=>app f N v (U k)*C k a) s%p=sumTo (λk=>app f N v (U k)*app f N (g k) a) s%p:=zW λk _=>by rw [zgt,O k a ha,<- zgt]
      rw [e];simp
     have:=inj z0 i hi;have q2:=Int.emod_emod_of_dvd;exact(Int.emod_emod_of_dvd _ (Int.dvd_refl p)).symm.trans (by
      rw [zgT];have:(v i - sumTo (λj=>app f N v (U j)*g j i) s)%p=0:=this;exact zig.mpr this)
    ·refine z.le λu hu=>?_
     obtain⟨j,I,rfl⟩:=hu;refine(hW _).mpr (((a6 (C j)).mp (.gen ⟨j,I,rfl⟩)).congr λi hi=>(O j i hi).symm)
   omega
  omega
 ·obtain⟨t,S⟩:=hs (app M h v)
  have ab:Span p N (Fam r B) t:=(a5 t).mpr ⟨v,λi hi=>(S i hi).symm⟩;have hx:Span p h Z λc=>sumTo (λj=>t (l j)*x j c) r:=Span.sum (u:=x) (λj=>t (l j)) λj I=>(h1 j I).1;have hd:Span p h Z λc=>v c - sumTo (λj=>t (l j)*x j c) r:=by
   refine((hk _).mpr λi hi=>?_).le λg O=>by obtain⟨j,I,rfl⟩:=O;exact h2 j I
   show app M h (λc=>v c - sumTo (λj=>t (l j)*x j c) r) i%p=0;rw [Zk,yb,zhO];have e:sumTo (λj=>t (l j)*app M h (x j) i) r%p=app M h v i%p:=by
    rw [S i hi,jH (λj I=>ya Y ab j I) i,yb];exact zW λj I=>by rw [zgt,(h1 j I).2 i hi,<- zgt]
   rw [e];simp
  refine(hx.add hd 1).congr λc _=>?_;congr 1;omega
end
structure BrInv(p:Int)(w:Nat->Bool)(wd:Nat->Nat)(T:Nat->Nat->Nat->Int)(k:Nat)(bars:List Bar):Prop where
 ok : ∀b,b∈bars->BarOk p w wd T k b
 sp : ∀r,r<=k->∀v,Span p (wd r) (GenB bars r) v
 ct : ∀r,r<=k->bars.countP (λb=>b.has r)=wd r
 od:(bars.filter λb=>b.has k).Pairwise (Ord w)
def ldx(r:Nat)(l:Nat->Nat)(i:Nat):Option Nat:=(zgj r).find? λj=>l j==i
theorem qg{r:Nat}{l:Nat->Nat}{i j:Nat}(h:ldx r l i=some j):j<r/\l j=i:=by
 have h1:=List.find?_some h;have h2:=List.mem_of_find?_eq_some h;exact⟨zgl.mp h2,by simpa using h1⟩
theorem yw{r:Nat}{l:Nat->Nat}{i:Nat}(h:ldx r l i=none) : ∀j,j<r->l j≠i:=λj z=>by
 have:=ziP.mp h j (zgl.mpr z);simpa using this
def stB(p:Int)(A:Nat->Bar)(N r:Nat)(B:Nat->Vc)(l:Nat->Nat)(i:Nat):Bar:=match ldx r l i with
 | some j=>mxB p A N (B j) i
 | none=>A i
def exB(k:Nat)(b:Bar):Option Vc->Bar
 | none=>b
 | some y=>⟨b.s,b.n+1,λr=>if r=k+1 then y else b.v r⟩
def nuB(k:Nat)(y:Vc):Bar:=⟨k+1,1,λ_=>y⟩
def tco(r:Nat)(B:Nat->Vc)(l:Nat->Nat)(i:Nat):Vc:=match ldx r l i with
 | some j=>B j
 | none=>jt i
theorem Ka(p A N r B l i):(stB p A N r B l i).s=(A i).s:=by unfold stB;split<;>rfl
theorem zb3(p A N r B l i):(stB p A N r B l i).n=(A i).n:=by unfold stB;split<;>rfl
theorem Jn(p A N r B l i rm):(stB p A N r B l i).has rm=(A i).has rm:=by unfold Bar.has;rw [Ka,zb3]
theorem k7{k r:Nat}{y:Vc}:(nuB k y).has r=decide (r=k+1):=by
 unfold nuB Bar.has;by_cases h:r=k+1
 ·simp [h]
 ·simp [h];intro;omega
section
variable{p:Int}{w:Nat->Bool}{wd:Nat->Nat}{T:Nat->Nat->Nat->Int}{k N r:Nat}{A:Nat->Bar}{B:Nat->Vc}{l:Nat->Nat}
theorem WB(z:IsB p N r B l){i:Nat}(hi:i<N):tco r B l i i=1/\∀c,c<i->tco r B l i c=0:=by
 unfold tco;cases hj:ldx r l i with
 | some j=>
  obtain⟨h1,h2⟩:=qg hj;subst h2;exact⟨z.one j h1,λc I=>z.bef j c h1 I⟩
 | none=>exact⟨by simp [jt],λc I=>by simp only [jt];rw [if_neg ⋯]⟩
theorem zan{z:Nat}{i c:Nat}(hi:i<N)(J:(A i).has z=true):(stB p A N r B l i).v z c%p=mxV p A N (tco r B l i) z c%p:=by
 unfold stB tco;cases I:ldx r l i with
 | some j=>rfl
 | none=>
  show(A i).v z c%p=_;unfold mxV;rw [zgT];congr 1;rw [je (f:=λj=>if (A j).has z=true then jt i j*(A j).v z c else 0) hi λj _ I=>by unfold jt;rw [if_neg (zht I)];simp];simp [jt,J]
theorem WD(I:0<p)(J:IsB p N r B l)(z : ∀j,j<N->BarOk p w wd T k (A j))(O : ∀j,j<N->(A j).has k=true)(S : ∀i c,i<c->c<N->Ord w (A i) (A c)){i:Nat}(hi:i<N):BarOk p w wd T k (stB p A N r B l i):=by
 unfold stB;split
 ·next j U=>
  obtain⟨h1,h2⟩:=qg U;subst h2;exact zc1 I z O hi (λc h1 h2=>S _ c h1 h2) λc Y=>J.bef j c h1 Y
 ·exact z i hi
theorem wo{b:Bar}{o:Option Vc}{z:Nat}(I:z<=k)(J:b.s+b.n=k+1):(exB k b o).has z=b.has z/\(exB k b o).v z=b.v z:=by
 cases o with
 | none=>exact⟨rfl,rfl⟩
 | some y=>
  refine⟨?_,by simp only [exB];rw [if_neg ⋯]⟩;unfold exB Bar.has;simp only;congr 1;exact decide_eq_decide.mpr ⋯
theorem JO{b:Bar}{o:Option Vc}(z:b.s+b.n=k+1):(exB k b o).has (k+1)=o.isSome:=by
 cases o with
 | none=>unfold exB Bar.has;simp;omega
 | some y=>unfold exB Bar.has;simp;omega
theorem zbh(k b o):(exB k b o).s=b.s:=by cases o<;>rfl
theorem zdl(p0:0<p){b:Bar}{o:Option Vc}(J:b.s+b.n=k+1)(U:BarOk p w wd T k b)(hr : ∀y,o=some y->∀c,c<wd (k+1)->0<=y c/\y c<p)
 (h0:o=none->w k=false->∀c,c<wd (k+1)->app (T k) (wd k) (b.v k) c%p=0) (h1 : ∀y,o=some y->w k=false->∀c,c<wd (k+1)->app (T k) (wd k) (b.v k) c%p=y c%p)
 (h2 : ∀y,o=some y->w k=true->∀c,c<wd k->app (T k) (wd (k+1)) y c%p=b.v k c%p):BarOk p w wd T (k+1) (exB k b o):=by
 have ac:=U.n1;refine⟨?_,?_,λO c hh z=>?_,λj hj Y c z=>?_⟩
 ·cases o with
  | none=>exact U.n1
  | some y=>show 1<=b.n+1;omega
 ·cases o with
  | none=>show b.s+b.n<=k+1+1;omega
  | some y=>show b.s+(b.n+1)<=k+1+1;omega
 ·by_cases a6:O<=k
  ·obtain⟨e1,I⟩:=wo (o:=o) a6 J
   rw [e1]at hh;rw [I];exact U.rng O c hh z
  ·have a2:=has_iff.mp hh
   cases o with
   | none=>exact absurd a2.2 (by show ¬(O<b.s+b.n);omega)
   | some y=>
    have:O=k+1:=by have:O<b.s+(b.n+1):=a2.2;omega
    subst this;have e:(exB k b (some y)).v (k+1)=y:=by simp [exB]
    rw [e];exact hr y rfl c z
 ·by_cases a1:j<k
  ·have g1:begR w j<=k:=by unfold begR;split<;>omega
   have g2:endR w j<=k:=by unfold endR;split<;>omega
   obtain⟨e1,I⟩:=wo (o:=o) g1 J;obtain⟨e3,e4⟩:=wo (o:=o) g2 J;rw [e1]at Y;rw [I,e3,e4];exact U.arr j a1 Y c z
  ·have a1:j=k:=by omega
   subst a1;obtain⟨e1,I⟩:=wo (o:=o) (zgp j) J;have e5:=JO (k:=j) (o:=o) J;have aa:b.has j=true:=has_iff.mpr ⋯;cases hw:w j with
   | false=>
    have Z:begR w j=j:=by unfold begR;rw [hw];rfl
    have S:endR w j=j+1:=by unfold endR;rw [hw];rfl
    rw [S]at z;rw [Z,S,I,e5];cases o with
    | none=>rw [h0 rfl hw c z];simp
    | some y=>rw [h1 y rfl hw c z];simp [exB]
   | true=>
    have Z:begR w j=j+1:=by unfold begR;rw [hw];rfl
    have S:endR w j=j:=by unfold endR;rw [hw];rfl
    rw [S]at z;rw [Z,e5]at Y;rw [Z,S,e1,I,aa];cases o with
    | none=>cases Y
    | some y=>
     have e:(exB j b (some y)).v (j+1)=y:=by simp [exB]
     rw [e,h2 y rfl hw c z];simp
theorem zc0{y:Vc}(U : ∀c,c<wd (k+1)->0<=y c/\y c<p)(h2:w k=true->∀c,c<wd k->app (T k) (wd (k+1)) y c%p=0):BarOk p w wd T (k+1) (nuB k y):=by
 refine⟨zgp _,by show k+1+1<=k+1+1;omega,λrm c J z=>?_,λj hj I c z=>?_⟩
 ·rw [k7]at J
  have:=of_decide_eq_true J;subst this;exact U c z
 ·rw [k7]at I
  have I:=of_decide_eq_true I;cases hw:w j with
  | false=>
   have O:begR w j=j:=by unfold begR;rw [hw];rfl
   omega
  | true=>
   have O:begR w j=j+1:=by unfold begR;rw [hw];rfl
   have S:endR w j=j:=by unfold endR;rw [hw];rfl
   have Y:j=k:=by omega
   subst Y;rw [S]at z;have Z:(nuB j y).has (endR w j)=false:=by rw [k7,S];simp
   rw [Z,O];show app (T j) (wd (j+1)) y c%p=_;rw [h2 hw c z];simp
def xZ(p:Int)(k:Nat)(w:Nat->Bool)(bars:List Bar)(A:Nat->Bar)(N r:Nat)(B:Nat->Vc)(l:Nat->Nat)(nx:Nat->Option Vc)(z:List Vc):List Bar:=
 (bars.filter λb=> !b.has k)++(if w k then (zgj N).map (λi=>exB k (stB p A N r B l i) (nx i))++z.map (nuB k)else z.map (nuB k)++(zgj N).map λi=>exB k (stB p A N r B l i) (nx i))
theorem Yd(p0:0<p){bars:List Bar}(I:BrInv p w wd T k bars)(hN:(bars.filter λb=>b.has k).length=N)(U : ∀j,A j=(bars.filter λb=>b.has k).getD j XU)(J:IsB p N r B l)
 {nx:Nat->Option Vc} {O:List Vc} (c1 : ∀i y,i<N->nx i=some y->∀c,c<wd (k+1)->0<=y c/\y c<p) (c2 : ∀y,y∈O->∀c,c<wd (k+1)->0<=y c/\y c<p)
 (d0 : ∀i,i<N->nx i=none->w k=false->∀c,c<wd (k+1)->app (T k) (wd k) ((stB p A N r B l i).v k) c%p=0)
 (d1 : ∀i y,i<N->nx i=some y->w k=false->∀c,c<wd (k+1)->app (T k) (wd k) ((stB p A N r B l i).v k) c%p=y c%p)
 (d2 : ∀i y,i<N->nx i=some y->w k=true->∀c,c<wd k->app (T k) (wd (k+1)) y c%p=(stB p A N r B l i).v k c%p)
 (d3 : ∀y,y∈O->w k=true->∀c,c<wd k->app (T k) (wd (k+1)) y c%p=0)
 (s1 : ∀v,Span p (wd (k+1)) (λg=>(∃i,i<N/\nx i=some g)\/g∈O) v) (n1:(zgj N).countP (λi=>(nx i).isSome)+O.length=wd (k+1)) :
 BrInv p w wd T (k+1) (xZ p k w bars A N r B l nx O):=by
 have mA : ∀j,j<N->A j∈bars/\(A j).has k=true:=λj Y=>by
  have:A j∈bars.filter λb=>b.has k:=by
   rw [U j,zgr,zgn ⋯];exact zh6 _
  have:=zgC.mp this;exact⟨this.1,by simpa using this.2⟩
 have aa : ∀j,j<N->BarOk p w wd T k (A j):=λj Y=>I.ok _ (mA j Y).1;have hO : ∀i c,i<c->c<N->Ord w (A i) (A c):=λi c h1 h2=>by
  have:=zhT.mp I.od i c ⋯ ⋯ h1;rw [U i,U c,zgr,zgn ⋯,zgr,zgn ⋯];exact this
 have okS : ∀i,i<N->BarOk p w wd T k (stB p A N r B l i):=λi hi=>WD p0 J aa (λj Y=>(mA j Y).2) hO hi;have Z : ∀i,i<N->(stB p A N r B l i).s+(stB p A N r B l i).n=k+1:=λi hi=>by
  rw [Ka,zb3];have h1:=has_iff.mp (mA i hi).2;have h2:=(aa i hi).le;omega
 have a2 : ∀b,b∈bars->b.has k=false->b.s+b.n<=k:=λb J hk=>by
  have h1:=(I.ok b J).le;have h2:=(I.ok b J).n1;refine Nat.not_lt.mp λz=>?_;have:b.has k=true:=has_iff.mpr ⋯;rw [this]at hk;cases hk
 have mem : ∀b,b∈xZ p k w bars A N r B l nx O↔(b∈bars/\b.has k=false)\/(∃i,i<N/\b=exB k (stB p A N r B l i) (nx i))\/∃y,y∈O/\b=nuB k y:=λb=>by
  unfold xZ;rw [ziJ,zgC];refine or_congr ⋯ ?_;cases w k<;>simp only [zib,if_false,if_true,ziJ,zg1,zgl]
  ·constructor
   ·rintro(⟨y,h1,h2⟩ | ⟨i,h1,h2⟩)
    ·exact .inr ⟨y,h1,h2.symm⟩
    ·exact .inl ⟨i,h1,h2.symm⟩
   ·rintro(⟨i,h1,h2⟩ | ⟨y,h1,h2⟩)
    ·exact .inr ⟨i,h1,h2.symm⟩
    ·exact .inl ⟨y,h1,h2.symm⟩
  ·constructor
   ·rintro(⟨i,h1,h2⟩ | ⟨y,h1,h2⟩)
    ·exact .inl ⟨i,h1,h2.symm⟩
    ·exact .inr ⟨y,h1,h2.symm⟩
   ·rintro(⟨i,h1,h2⟩ | ⟨y,h1,h2⟩)
    ·exact .inl ⟨i,h1,h2.symm⟩
    ·exact .inr ⟨y,h1,h2.symm⟩
 have cnt : ∀P:Bar->Bool,(xZ p k w bars A N r B l nx O).countP P=(bars.filter λb=> !b.has k).countP P+(zgj N).countP (λi=>P (exB k (stB p A N r B l i) (nx i)))+(O.map (nuB k)).countP P:=λP=>by
  unfold xZ;rw [List.countP_append];cases w k<;>simp only [zib,if_false,if_true,List.countP_append,zja (f:=λi=>exB k (stB p A N r B l i) (nx i))]
  ·rw [zi3,Nat.add_comm (List.countP P (zjP (nuB k) O))];rfl
  ·rw [zi3];rfl
 refine⟨λb ap=>?_,λS hr v=>?_,λS hr=>?_,?_⟩
 ·rcases (mem b).mp ap with⟨h1,h2⟩ | ⟨i,hi,rfl⟩ | ⟨y,hy,rfl⟩
  ·have hk:=a2 b h1 h2
   have ob:=I.ok b h1;refine⟨ob.n1,by omega,ob.rng,λj Y ad c hc=>?_⟩;have av:=has_iff.mp ad;refine ob.arr j ?_ ad c hc;have:begR w j>=j:=by unfold begR;split<;>omega
   omega
  ·exact zdl p0 (Z i hi) (okS i hi) (λy e=>c1 i y hi e) (λe=>d0 i hi e) (λy e=>d1 i y hi e) λy e=>d2 i y hi e
  ·exact zc0 (c2 y hy) (d3 y hy)
 ·by_cases a0:S<=k
  ·refine(I.sp S a0 v).le λg hg=>?_
   obtain⟨b,h1,h2,rfl⟩:=hg;cases hbk:b.has k with
   | false=>exact .gen ⟨b,(mem b).mpr (.inl ⟨h1,hbk⟩),h2,rfl⟩
   | true=>
    have ar:b∈bars.filter λb=>b.has k:=zgC.mpr ⟨h1,by simpa using hbk⟩;obtain⟨i,hi,e⟩:=zjl ar;have ei:A i=b:=by rw [U i,zgr,zgn hi];exact e
    rw [<- ei]at h2 ⊢;refine VO (A:=A) (A':=λi=>stB p A N r B l i) (t:=λi=>tco r B l i) (λi hi=>(WB J hi).1) (λi c hi hc=>(WB J hi).2 c hc) (λi hi hh=>?_) (λi hi hh c _=>zan hi hh) i ⋯ h2;obtain⟨x1,x2⟩:=wo (o:=nx i) a0 (Z i hi);exact .gen ⟨_,(mem _).mpr (.inr (.inl ⟨i,hi,rfl⟩)),by rw [x1,Jn];exact hh,by rw [x2]⟩
  ·have:S=k+1:=by omega
   subst this;refine(s1 v).le λg hg=>?_;rcases hg with⟨i,hi,e⟩ | hg
   ·refine .gen ⟨_,(mem _).mpr (.inr (.inl ⟨i,hi,rfl⟩)),?_,?_⟩
    ·rw [JO (Z i hi),e];rfl
    ·rw [e];simp [exB]
   ·exact .gen ⟨_,(mem _).mpr (.inr (.inr ⟨g,hg,rfl⟩)),by rw [k7];simp,rfl⟩
 ·rw [cnt]
  by_cases a0:S<=k
  ·have e1:(O.map (nuB k)).countP (λb=>b.has S)=0:=zjn.mpr λb J=>by
    obtain⟨y,_,rfl⟩:=zg1.mp J;rw [k7];simp;omega
   have e2:(zgj N).countP (λi=>(exB k (stB p A N r B l i) (nx i)).has S)=(bars.filter λb=>b.has k).countP λb=>b.has S:=by
    have:(bars.filter λb=>b.has k)=(zgj N).map A:=by
     rw [<- jR XU (bars.filter λb=>b.has k),hN];exact zgD λj _=>(U j).symm
    rw [this,zja];refine zhN λi hi=>?_;have hi:=zgl.mp hi;rw [(wo (o:=nx i) a0 (Z i hi)).1,Jn];rfl
   rw [e1,e2,<- I.ct S a0,List.countP_eq_countP_filter_add bars (λb=>b.has S) λb=>b.has k];omega
  ·have:S=k+1:=by omega
   subst this;have e0:(bars.filter λb=> !b.has k).countP (λb=>b.has (k+1))=0:=zjn.mpr λb J=>by
    obtain⟨h1,h2⟩:=zgC.mp J;have:=a2 b h1 (by simpa using h2);intro z;have:=has_iff.mp z;omega
   have e1:(O.map (nuB k)).countP (λb=>b.has (k+1))=O.length:=by
    rw [List.countP_eq_length.mpr λb J=>?_,zgH];obtain⟨y,_,rfl⟩:=zg1.mp J;rw [k7];simp
   have e2:(zgj N).countP (λi=>(exB k (stB p A N r B l i) (nx i)).has (k+1))=(zgj N).countP λi=>(nx i).isSome:=zhN λi hi=>by
    rw [JO (Z i (zgl.mp hi))]
   rw [e0,e1,e2];omega
 ·have e0:((bars.filter λb=> !b.has k).filter λb=>b.has (k+1))=[]:=List.filter_eq_nil_iff.mpr λb J=>by
   obtain⟨h1,h2⟩:=zgC.mp J;have:=a2 b h1 (by simpa using h2);intro z;have:=has_iff.mp z;omega
  have pO:((zgj N).map λi=>exB k (stB p A N r B l i) (nx i)).Pairwise (Ord w):=by
   rw [ziw];refine ziE (λ{a b} ha J h=>?_) (ziv (n:=N));have:=hO a b h (zgl.mp J);unfold Ord;rw [zbh,zbh,Ka,Ka];exact this
  have pN:(O.map (nuB k)).Pairwise (Ord w):=by
   rw [ziw];refine zhT.mpr λ_ _ _ _ _=>⟨λz=>?_,λz=>?_⟩
   ·exact absurd z (zgZ (k+1))
   ·exact absurd z (zgZ (k+1))
  have so : ∀b,b∈(zgj N).map (λi=>exB k (stB p A N r B l i) (nx i))->b.s<=k:=λb J=>by
   obtain⟨i,hi,rfl⟩:=zg1.mp J;have hi:=zgl.mp hi;rw [zbh,Ka];exact(has_iff.mp (mA i hi).2).1
  have sn : ∀b,b∈O.map (nuB k)->b.s=k+1:=λb J=>by
   obtain⟨y,_,rfl⟩:=zg1.mp J;rfl
  unfold xZ;rw [ziQ,e0,List.nil_append];refine ziW _ ?_;cases hw:w k with
  | false=>
   simp only [zib,if_false];refine List.pairwise_append.mpr ⟨pN,pO,λa ha b J=>?_⟩;have h1:=sn a ha;have h2:=so b J;exact⟨λz=>by omega,λ_=>by rw [h1];exact hw⟩
  | true=>
   simp only [if_true];refine List.pairwise_append.mpr ⟨pO,pN,λa ha b J=>?_⟩;have h1:=sn b J;have h2:=so a ha;exact⟨λ_=>by rw [h1];exact hw,λz=>by omega⟩
end
def zeE:Res->Option (Int×Int)
 | .val d=>match d with
  | .tup ds=>match ds with
   | [x,y]=>(asI x).bind λi=>(asI y).map λj=>(i,j)
   | _=>none
  | _=>none
 | .own _=>none
def KY(F:List D->Option Res):List D->Option (List (Int×Int))
 | []=>some []
 | d::r=>((F [d]).bind zeE).bind λp=>(KY F r).map λl=>p::l
def Ki(F:List D->Option Res)(f:CO (Sk×List D)):CO (List D):=λγ=>(f γ).bind λa=>match a.1 with
 | .L=>(KY F a.2).bind λps=>if a.2.length<64 then some ((JB ps).map λi=>a.2.getD i .non)else none
 | _=>none
def jI:List D->Option Res:=jb 1 (jO (ju (za (sIx (zf 0) (zh (.int 0))) (za (zm kf (zm jo (sIx (zf 0) (zh (.int 0))) (xV (zz (sIx (zf 0) (zh (.int 1)))))) (zh (.int 1))) zu))))
def jn:List D->Option Res:=jb 2 (jO (Qf dLe dLt (sIx (zf 0) (zh (.int 0))) (zc 1) (zm jo (sIx (zf 0) (zh (.int 0))) (xV (zz (sIx (zf 0) (zh (.int 1))))))))
def qo:List D->Option Res:=jb 2 (qy (zC (zB (zf 0)) (.nm 0) 1 [1] (sB (zw jn (za (zc 0) (za (zc 1) zu)))) (sIx (zz (sIx (zf 0) (zh (.int 1)))) (zm kf (zc 1) (sIx (zf 0) (zh (.int 0)))))))
def xE:List D->Option Res:=jb 2 (jO (zw F_turned_over (za (ju (za (xV (zf 1)) (za (zc 0) (za (zM (zf 1)) zu)))) zu)))
def xC:List D->Option Res:=jb 5 (zF (zO 4 (ja (zC (Jq (zc 2) (zc 1)) (.tp [0,1]) 2 [3] (sB (zw jn (za (zc 1) (za (zc 2) zu)))) (zc 0)))) (jO (zw F_led (za (sIx (zf 0) (zh (.int 0))) (za (zw xE (za (sIx (zz (sIx (zf 0) (zh (.int 1)))) (zc 3)) (za (ja (zQ qo (za (zc 1) (za (zc 3) zu)))) zu))) (za (zc 4) zu))))))
def Zm:List D->Option Res:=jb 5 (zF (zO 3 (sIx (zf 1) (zw jJ (za (zc 2) zu)))) (zF (zO 4 (ja (zC (zY (xV (zz (sIx (zf 3) (zh (.int 1)))))) (.nm 0) 1 [0,1,2,3] z6 (zw xC (za (zc 1) (za (zc 2) (za (zc 3) (za (zm jo (sIx (zf 4) (zh (.int 0))) (zc 0)) zu)))))))) (jO (ju (za (sIx (zf 3) (zh (.int 0))) (za (zM (zf 4)) zu))))))
def kT:List D->Option Res:=jb 8 (zF (zO 3 (sIx (zz (sIx (zz (sIx (zf 0) (zh (.int 2)))) (zc 1))) (zh (.int 0)))) (zF (zO 4 (sIx (zz (sIx (zz (sIx (zf 0) (zh (.int 2)))) (zc 1))) (zh (.int 1)))) (zF (zO 5 (ZB (sB (zm dEq (zc 3) (zh (.str "r")))) (ja (zQ xc (za (sIx (zf 0) (zh (.int 0))) (za (zc 4) zu)))) (ja (zQ kg (za (sIx (zf 0) (zh (.int 0))) (za (zc 4) zu)))))) (zF (zO 6 (ja (zQ F_led_into (za (sIx (zf 0) (zh (.int 0))) (za (zw xE (za (sIx (zz (sIx (zf 0) (zh (.int 1)))) (zc 1)) (za (ja (zQ qo (za (zc 2) (za (zc 1) zu)))) zu))) (za (zc 5) zu)))))) (zF (zO 7 (Kl (zC (zB (zf 6)) (.nm 0) 1 [] z6 (ju (za (zw jJ (za (zc 0) zu)) (za (zc 0) zu)))))) (qy (zC (Qe (zc 2)) (.tp [0,1]) 2 [0,2,7] z6 (ZB (sB (zcb (zc 0) (zc 4))) (zw Zm (za (zc 2) (za (zc 3) (za (zdH (zc 4) (zc 0)) zu)))) (zc 1)))))))))
def qb:List D->Option Res:=jb 4 (zF (sIf (sB (zm dEq (sIx (zf 1) (zh (.int 0))) (zh (.str "l")))) (jO (zw xP (za (zc 0) (za (sIx (zf 1) (zh (.int 1))) (za (zc 2) zu))))) jP) (zF (zO 3 (zw F_led (za (zc 0) (za (sIx (zf 1) (zh (.int 1))) (za (zc 2) zu))))) (jO (ZB (sB (WJ (zf 3))) (zc 3) (zh .non)))))
def qS:List D->Option Res:=jb 4 (zF (zO 3 (zw qb (za (zc 0) (za (zc 1) (za (sIx (zz (sIx (zf 2) (zh (.int 1)))) (zdG (zh (.int 1)))) zu))))) (jO (ZB (sB (zm zd0 (zc 3) (zh .non))) (zc 2) (ju (za (sIx (zf 2) (zh (.int 0))) (za (zm jo (sIx (zf 2) (zh (.int 1))) (ju (za (zc 3) zu))) zu))))))
def qZ:List D->Option Res:=jb 3 (zF (sIf (sB (zm dEq (sIx (zf 1) (zh (.int 0))) (zh (.str "l")))) (qy (zQ xc (za (zc 0) (za (sIx (zf 1) (zh (.int 1))) zu)))) jP) (zF (zO 2 (ja (zC (zB (jh (zQ kg (za (zc 0) (za (sIx (zf 1) (zh (.int 1))) zu))))) (.nm 0) 1 [] z6 (zw jJ (za (zc 0) zu))))) (qy (zC (wK (sIx (zz (zw F_same_table (za (sIx (zz (sIx (zf 1) (zh (.int 1)))) (zh (.int 0))) zu))) (zh (.int 2)))) (.tp [0,1]) 2 [2] (sB (wJ (zc 0) (zf 2))) (zc 1)))))
def vB:List D->Option Res:=jb 9 (zF (zO 3 (sIx (zf 0) (zh (.int 0)))) (zF (zO 4 (sIx (zz (sIx (zf 0) (zh (.int 2)))) (zc 1))) (zF (zO 5 (ja (zC (zB (zf 2)) (.nm 0) 1 [1] (qN (sB (zw jn (za (zc 0) (za (zc 1) zu))))) (zc 0)))) (zF (zO 6 (ja (zQ kT (za (zc 0) (za (zc 1) (za (ja (zC (zB (zf 2)) (.nm 0) 1 [1] (sB (zw jn (za (zc 0) (za (zc 1) zu)))) (zc 0))) zu)))))) (zF (zO 7 (ja (zC (zB (zf 6)) (.nm 0) 1 [3,4] z6 (zw qS (za (zc 1) (za (zc 2) (za (zc 0) zu))))))) (zF (zO 8 (ja (zC (zB (jh (zQ qZ (za (zc 3) (za (zc 4) zu))))) (.nm 0) 1 [1] z6 (ju (za (zm jo (zc 1) (zh (.int 1))) (za (ju (za (zc 0) zu)) zu)))))) (jO (ja (xQ (zf 5) (zz (ZB (sB (zm dEq (sIx (zf 4) (zh (.int 0))) (zh (.str "r")))) (ja (xQ (zf 8) (zf 7))) (ja (xQ (zf 7) (zf 8))))))))))))))
def vC:List D->Option Res:=jb 3 (zF (zO 1 (ja (zC (zB (zz (sIx (zz (zw F_same_table (za (sIx (zz (sIx (zf 0) (zh (.int 1)))) (zh (.int 0))) zu))) (zh (.int 2))))) (.nm 0) 1 [] z6 (ju (za (zh (.int 0)) (za (ju (za (zc 0) zu)) zu)))))) (zF (xK (zY (xV (zz (sIx (zf 0) (zh (.int 2)))))) (.nm 2) (zO 1 (zw vB (za (zc 0) (za (zc 2) (za (zc 1) zu)))))) (qy (Ki jI (zf 1)))))
theorem zD{F G:CO Fl}{γ γ':Ctx}{r:Option Fl}(h:F γ=some (.next γ'))(g:G γ'=r):zF F G γ=r:=by
 rw [zN,h];exact g
theorem jN{n:Nat}{F:CO Fl}{ds:List D}{r:Res}(h:F (zV n ds)=some (.ret r)):jb n F ds=some r:=by
 show(F (zV n ds)).bind _=_;rw [h];rfl
theorem Z1{T:Tg}{F:CO Fl}(P:Nat->Ctx->Prop)(n:Nat){γ:Ctx}(J:P 0 γ)(step : ∀s,s<n->∀γ,P s γ->∃γ1 z,qv T (.int (s:Int)) γ=some γ1/\F γ1=some (.next z)/\P (s+1) z) :
 ∃γ',qh T F ((zgj n).map λ(i:Nat)=>D.int (i:Int)) γ=some (.next γ')/\P n γ':=by
 have O : ∀(k s:Nat) (γ:Ctx),s+k=n->P s γ->∃γ',qh T F ((zh3 s k).map λ(i:Nat)=>D.int (i:Int)) γ=some (.next γ')/\P n γ':=by
  intro k
  induction k with
  | zero=>
   intro s γ e I;obtain rfl:s=n:=by omega
   exact⟨γ,rfl,I⟩
  | succ k S=>
   intro s γ e I;obtain⟨γ1,z,e1,U,Y⟩:=step s ⋯ γ I;obtain⟨γ',Z,q2⟩:=S (s+1) z ⋯ Y;refine⟨γ',?_,q2⟩;rw [zhJ,zgO,jA,e1];simp only [zgq,U];exact Z
 have:=O n 0 γ ⋯ J;rw [<- zhA]at this;exact this
theorem wb{T:Tg}{F:CO Fl}{f:CO D}(P:Nat->Ctx->Prop)(n:Nat)(hn:n<=lim){γ:Ctx}(I:f γ=some (.int (n:Int)))(J:P 0 γ)(step : ∀s,s<n->∀γ,P s γ->∃γ1 z,qv T (.int (s:Int)) γ=some γ1/\F γ1=some (.next z)/\P (s+1) z) :
 ∃γ',xK (zY f) T F γ=some (.next γ')/\P n γ':=by
 obtain⟨γ',e,O⟩:=Z1 P n J step;refine⟨γ',?_,O⟩;have S:=jf;have r:inR (n:Int)=true:=QC ⋯ ⋯;rw [Jg,vx,I];simp only [zgq,qw,r,if_true,zhn,jv];rw [zU n λi=>(i:Int)];exact e
@[simp] theorem zff(γ:Ctx)(f g):zaB f g γ=((f γ).bind asI).bind λi=>((g γ).bind asI).map λj=> .int (if j<i then j else i):=rfl
def zfs(m m':Nat)(w w':Nat->Bool):Prop:=m=m'/\∀k,k<m->w k=w' k
instance (m m':Nat) (w w':Nat->Bool):Decidable (zfs m m' w w'):=inferInstanceAs (Decidable (m=m'/\∀k,k<m->w k=w' k))
theorem YD(xs:List D)(n:Nat)(hn:xs.length=n)(a4 : ∀i (h:i<n),∃z,xs[i]'(hn ▸ h) = .int z)(aq:n<=63)(k:Int)(hk:0<=k)(ar:k<100000) :
 ∃m,F_law_cell [.lst xs,.int k]=some (.val (.int m))/\0<=m/\m<1000000007:=by
 have J : ∀x:Int,vF x 48271=true:=λx=>QQ _ _ ⋯ ⋯;have O : ∀x:Int,vF 7 x=true:=λx=>qP _ _ ⋯ ⋯;have S : ∀x:Int,vF 13 x=true:=λx=>qP _ _ ⋯ ⋯;have U : ∀x:Int,vF x 69621=true:=λx=>QQ _ _ ⋯ ⋯;have c5:vF (7*k) k=true:=QQ _ _ ⋯ ⋯;have I:zdr 10 9=true:=by decide
 have Y:zdr 10 30=true:=by decide
 have hl:lim=2500:=rfl;by_cases ac:n=0
 ·subst ac
  have Z:xs=[]:=zgX hn;subst Z;simp [F_law_cell,jb,zV,zN,J,O,S,U,c5,I,Y];omega
 ·have hp:0<n:=by omega
  obtain⟨i,hi⟩:=zhB (zhd k (show(n:Int)≠0 by omega));have a5:i<n:=by have:=zgV k (show(0:Int)<n by omega);omega
  obtain⟨zi,ei⟩:=a4 i a5;have ii:ixD n (i:Int)=some i:=by rw [j4,if_pos a5]
  by_cases h1:n=1
  ·subst h1
   have i0:i=0:=by omega
   subst i0;have k1:k%1=0:=by omega
   simp [F_law_cell,jb,zV,zN,J,O,S,U,c5,I,Y,hn,ei];omega
  ·obtain⟨z0,Z⟩:=a4 0 hp
   have i0:ixD n 0=some 0:=by have:=j4 n 0;rw [if_pos hp]at this;exact this
   have q1:(0:Int)<(n:Int) - 1:=by omega
   have q2:(1:Int)<(n:Int):=by omega
   have ab:1<n:=by omega
   have q3:(n:Int) - 1<1073741824:=by omega
   have q4:(0:Int)<(n:Int):=by omega
   obtain⟨j,hj⟩:=zhB (zhd k (show(n:Int) - 1≠0 by omega));have a6:1+j<n:=by have:=zgV k q1;omega
   obtain⟨zj,ej⟩:=a4 (1+j) a6;have ij:ixD n (1+(j:Int))=some (1+j):=by
    have:=j4 n (1+j);rw [if_pos a6]at this;rw [<- this];congr 1
   have hd:0<=k/((n:Int) - 1)/\k/((n:Int) - 1)<=k:=⟨Int.ediv_nonneg hk ⋯,Int.ediv_le_self _ hk⟩;obtain⟨t,ht⟩:=zhB hd.1;by_cases ha:z0%2=1
   ·obtain⟨t',am,aw⟩ : ∃t':Nat,(if (t:Int)<60 then (t:Int)else 60)=t'/\t'<=60:=by
     split
     ·exact⟨t,rfl,by omega⟩
     ·exact⟨60,rfl,by omega⟩
    have an:inR (t':Int)=true:=QC ⋯ ⋯;simp [F_law_cell,jb,zV,zN,J,O,S,U,c5,hn,hp,a6,q2,ab,Z,i0,q1,q3,ha,hj,ij,ej,ht,I,Y];rw [am,if_pos an];simp only [zgq,jv,zhn];rw [zU t' λi=>(i:Int)];have ao : ∀(m s:Nat) (v:Int) (c:Cell),∃v' c',qh (.nm 3) (zO 2 (zm Z5 (zc 2) (zm zbo (zh (D.int 10)) (zh (D.int 9))))) ((zh3 s m).map λ(i:Nat)=>D.int i) [.val (.lst xs),.val (.int k),.val (.int v),c,.no] =
     some (.next [.val (.lst xs),.val (.int k),.val (.int v'),c',.no]):=by
     intro m
     induction m with
     | zero=>intro s v c;exact⟨v,c,rfl⟩
     | succ m ih=>
      intro s v c;rw [zhJ,zgO,jA];obtain⟨v',c',h⟩:=ih (s+1) (v/10 ^ 9) (.val (.int s));refine⟨v',c',?_⟩;rw [<- h];simp [I]
    obtain⟨v',c',h⟩:=ao t' 0 zj .no;rw [<- zhA]at h;rw [h];simp [I];omega
   ·simp [F_law_cell,jb,zV,zN,J,O,S,U,c5,hn,q2,ab,q4,hp,Z,i0,ha,hi,ei,a5,ii,I,Y]
    omega
theorem zbt(ns:List Int)(hn:ns.length<=63)(k:Int)(z:0<=k)(I:k<100000) : ∃m,F_law_cell [qE ns,.int k]=some (.val (.int m))/\0<=m/\m<1000000007:=
 YD (ns.map D.int) ns.length ⋯ (λi hi=>⟨ns[i],by simp⟩) hn k z I
def qK(ns:List Int)(k:Int):Int:=match F_law_cell [qE ns,.int k]with
 | some (.val (.int m))=>m
 | _=>0
theorem Ze{ns:List Int}(hn:ns.length<=63){k:Int}(z:0<=k)(I:k<100000):F_law_cell [qE ns,.int k]=some (.val (.int (qK ns k)))/\0<=qK ns k/\qK ns k<1000000007:=by
 obtain⟨m,h,h1,h2⟩:=zbt ns hn k z I;have e:qK ns k=m:=by unfold qK;rw [h]
 rw [e];exact⟨h,h1,h2⟩
def XM(bs:List (Int×Int)):List D:=bs.map λb=>D.tup [.int b.1,.int b.2]
@[simp] theorem zdt(bs):(XM bs).length=bs.length:=by simp [XM]
def zao(bs:List (Int×Int)):List (Int×Int):=(JB bs).map λi=>bs.getD i (0,0)
@[simp] theorem zd3(γ f):WI f γ=(f γ).bind λa=>match a.1 with
 | .L=>zb5 a.2
 | _=>none:=rfl
section ap
variable(γ:Ctx)
@[simp] theorem zd2(f):WH f γ=(f γ).bind λd=>match d with
 | .str z=>if jk z=true then some (qk z)else none
 | _=>none:=rfl
@[simp] theorem zd5(f):ye f γ=(f γ).bind λd=>match d with
 | .str z=>if jk z=true then some (j9 (qk z))else none
 | _=>none:=rfl
@[simp] theorem zd6(f):Qe f γ=(f γ).bind λd=>match d with
 | .lst ds=>some (j9 ds)
 | _=>none:=rfl
@[simp] theorem zfL(f g):zfw f g γ=(f γ).bind λd=>(g γ).bind λa=>match d with
 | .str x=>(zam a.2).map λl=> .bl (l.any λy=>y==x)
 | _=>none:=rfl
end ap
def zgb(b:Int×Int)(r:Int):Bool:=decide (b.1<=r) && decide (r<=b.2)
def WS(bs:List (Int×Int))(r:Int):List Nat:=(zgj bs.length).filter λi=>zgb (bs.getD i (0,0)) r
def zeK(l:List Nat):List D:=l.map λ(i:Nat)=>D.int i
@[simp] theorem zdL(l):(zeK l).length=l.length:=by simp [zeK]
theorem ww{p:Int}(z:Pr p){h w:Nat}(I:h<=100)(hw:w<=lim)(f:Nat->Nat->Int) :
 ∃r B l,kg [.int p,j5 h w f]=some (.own (zL r h B))/\IsB p h r B l/\∀v,Span p h (Fam r B) v↔Span p h (Fam w λj i=>f i j) v:=by
 obtain⟨r,B,l,e,J,O⟩:=jV z I hw .T λj i=>f i j;have S:=jf;refine⟨r,B,l,?_,J,O⟩;simp only [dsq]at e;have o:=kU f (show h<=lim by omega) hw;unfold j5 at o ⊢;simp [kg,jb,zV,o,e]
theorem Z2{T:Tg}{F:CO Fl}(P:Nat->Ctx->Prop) : ∀(ds es:List D) (k:Nat) (γ:Ctx),P k γ->(∀i d γ,ds[i]? = some d->P (k+i) γ->∃γ',(qv T d γ).bind F=some (.next γ')/\P (k+i+1) γ')->
 ∃γ',P (k+ds.length) γ'/\qh T F (ds++es) γ=qh T F es γ'
 | [],es,k,γ,h,_=>⟨γ,h,rfl⟩
 | d::ds,es,k,γ,h,step=>by
  obtain⟨γ1,e,h1⟩:=step 0 d γ rfl h;obtain⟨γ',h2,z⟩:=Z2 P ds es (k+1) γ1 (by simpa using h1) (λi d' I hd J=>by
   have:=step (i+1) d' I (by simpa using hd) (by rw [show k+(i+1)=k+1+i by omega];exact J);rw [show k+(i+1)+1=k+1+i+1 by omega]at this;exact this)
  refine⟨γ',by rw [show k+(d::ds).length=k+1+ds.length by simp;omega];exact h2,?_⟩;rw [zjM,jA];cases eb:qv T d γ with
  | none=>rw [eb]at e;simp at e
  | some O=>
   rw [eb]at e;simp only [zgq]at e ⊢;rw [e];exact z
theorem Wa(n:Nat)(v:Vc):j9 (zA n v)=(zgj n).map λ(i:Nat)=>D.tup [.int i,.int (v i)]:=by
 unfold j9;rw [qX];refine zgD λi hi=>?_;have:=zgl.mp hi;simp [zA,this]
theorem xD{n a:Nat}(hn:n<=lim)(v:Vc)(ha:a<n)(J : ∀i,i<a->v i=0)(h1:v a≠0):jJ [.tup (zA n v)]=some (.val (.int a)):=by
 have I:zG (.tp [0,1]) (sB (zm dNe (zc 1) (zh (.int 0)))) (zc 0) [Cell.no,Cell.no] ((zgj n).map λ(i:Nat)=>D.tup [.int i,.int (v i)])=some (((zgj n).filter λi=> !decide (v i=0)).map λ(i:Nat)=>D.int i):=by
  refine zP _ _ _ λi hi=>⟨_,rfl,?_,λ_=>rfl⟩;simp
 cases hf:(zgj n).filter λi=> !decide (v i=0)with
 | nil=>exact absurd (by have:=yX hf a ha;simpa using this) h1
 | cons b rest=>
  obtain⟨U,O,S⟩:=xt hf;have e:b=a:=by
   rcases ziz a b with z | z | z
   ·exact absurd (by have:=S a z;simpa using this) h1
   ·exact z.symm
   ·exact absurd (J b z) (by simpa using O)
  subst e;rw [hf]at I;simp [jJ,jb,zV,Wa,hn,z4,zgm,I]
theorem XG{n a:Nat}(ha:a<n)(v z:Vc)(x:Int)(h1:z a=x)(h2 : ∀i,i<n->i≠a->z i=v i):(zA n v).set a (.int x)=zA n z:=by
 apply zjD;intro i;rw [List.getElem?_set];by_cases hi:i<n
 ·by_cases e:a=i
  ·subst e;simp [ha,zA,h1]
  ·have:=h2 i hi (zht e)
   simp [e,zA,hi,this]
 ·have I:(zA n v)[i]? = none:=by simp [zA];omega
  have l2:(zA n z)[i]? = none:=by simp [zA];omega
  rw [I,l2,if_neg ⋯]
def JX(w:Nat)(B:Nat->Vc)(l:Nat->Nat)(r:Nat):Vc:=λj=>sumTo (λk=>if l k=j then B k w else 0) r
def qQ:CO Fl:=(zF (zO 6 (zw jJ (za (zc 5) zu))) (zF (sIf (sB (zm dEq (zc 6) (zc 3))) (jO (zh .non)) jP) (Kj 4 (zc 6) (sIx (zf 5) (zc 3)))))
section
variable{p:Int}{h w r:Nat}
theorem Qu{l:Nat->Nat}(hm : ∀k m,k<m->m<r->l k<l m){k m:Nat}(I:k<r)(J:m<r)(e:l k=l m):k=m:=by
 rcases ziz k m with z | z | z
 ·have:=hm k m z J;omega
 ·exact z
 ·have:=hm m k z I;omega
def aug(w:Nat)(f:Nat->Nat->Int)(b:Vc):Nat->Vc:=λi j=>if j<w then f i j else b i
theorem Q7{B:Nat->Vc}{l:Nat->Nat}(Z:w+1<=lim)(J:IsB p (w+1) r B l){s:Nat}(hs:s<=r)(h1 : ∀k,k<s->l k<w)(es:List D)(a0 z I:Cell) :
 ∃c5 c6,qh (.nm 5) qQ (zL s (w+1) B++es) [a0,z,I,.val (.int w),.own (zA w λ_=>0),.no,.no]=qh (.nm 5) qQ es [a0,z,I,.val (.int w),.own (zA w (JX w B l s)),c5,c6]:=by
 obtain⟨γ',⟨c5,c6,rfl⟩,e⟩:=Z2 (T:= .nm 5) (F:=qQ) (λt γ=>∃c5 c6,γ=[a0,z,I,.val (.int w),.own (zA w (JX w B l t)),c5,c6]) (zL s (w+1) B) es 0 [a0,z,I,.val (.int w),.own (zA w λ_=>0),.no,.no]
  ⟨.no,.no,by rw [kH (f:=JX w B l 0) (g:=λ_=>0) λi _=>rfl]⟩ (by
   rintro k d γ hd ⟨c5,c6,rfl⟩;rw [zhL];have U:k<s:=by have:=(zgw.mp hd).1;simpa using this
   have a3:d = .tup (zA (w+1) (B k)):=by simp [U]at hd;exact hd.symm
   subst a3;have O:k<r:=by omega
   have Y:=h1 k U;have le:=xD Z (B k) (show l k<w+1 by omega) (λi hi=>J.bef k i O hi) (by rw [J.one k O];decide);refine⟨_,?_,.val (.tup (zA (w+1) (B k))),.val (.int (l k)),rfl⟩;have S : ¬((l k:Int)=(w:Int)):=by omega
   have a4 : ¬l k=w:=by omega
   have hx:w<w+1:=by omega
   have ev:=XG Y (JX w B l k) (JX w B l (k+1)) (B k w) (by
    unfold JX;simp only [sumTo,if_true];rw [zy (g:=λ_=>0) λm hm=>by
     rw [if_neg λe=>by have:=J.mono m k hm O;omega],zI]
    omega) (λi hi S=>by
    unfold JX;simp only [sumTo];rw [if_neg (zht S)];omega)
   simp [qQ,zN,le,S,a4,Y,hx,ev])
 rw [Zb]at e;refine⟨c5,c6,?_⟩;rw [e];rw [zhL]
theorem zbz(w:Nat)(f:Nat->Nat->Int)(b:Vc)(i:Nat):zA w (f i)++[.int (b i)]=zA (w+1) (aug w f b i):=by
 unfold zA;rw [zhi,zg4];congr 1
 ·exact zgD λj z=>by simp [aug,zgl.mp z]
 ·simp [aug]
theorem vz(U:Pr p)(hh:h<=90)(hw:w<=90)(f:Nat->Nat->Int)(b:Vc) :
 ∃r B l s,IsB p (w+1) r B l/\(∀v,Span p (w+1) (Fam r B) v↔Span p (w+1) (Fam h (aug w f b)) v)/\s<=r/\(∀k,k<s->l k<w)/\(∀k,s<=k->k<r->w<=l k)/\
  xP [.int p,j5 h w f,.tup (zA h b)]=some (.val (if s<r then .non else .tup (zA w (JX w B l s)))):=by
 have hl:=jf;have O:h<=lim:=by omega
 have Y:w<=lim:=by omega
 have J:w+1<=lim:=by omega
 obtain⟨r,B,l,e,I,Z⟩:=jV U (show w+1<=100 by omega) O .L (aug w f b);obtain⟨s,S,s1,s2⟩:=xJ w I.mono;refine⟨r,B,l,s,I,Z,S,s1,s2,?_⟩;have rows:zG (.tp [0,1]) z6 (zm jo (zc 0) (ju (za (zc 1) zu))) [Cell.no,Cell.no] ((zgj h).map λi=>D.tup [.tup (zA w (f i)),.int (b i)])=some (zL h (w+1) (aug w f b)):=by
  unfold zL;refine zo _ _ λi hi=>zq rfl rfl ?_;simp [jo,J,zbz]
 have zp:vH (zL h w f) (zA h b)=(zgj h).map λi=>D.tup [.tup (zA w (f i)),.int (b i)]:=by
  unfold vH zL zA;rw [zi2];simp
 have a1:zgm w (D.int 0)=zA w λ_=>0:=by rw [xm];rfl
 have c1:((w+1:Nat):Int)=(w:Int)+1:=by omega
 simp only [dsq]at e;rw [c1]at e;obtain⟨d,hd⟩ : ∃d,r=s+d:=⟨r - s,by omega⟩;have sp:zL r (w+1) B=zL s (w+1) B++zL d (w+1) λk=>B (s+k):=by
  unfold zL;rw [hd,ziA,zg4,zhf];rfl
 obtain⟨c5,c6,lp⟩:=Q7 J I S s1 (zL d (w+1) λk=>B (s+k)) (.val (.int p)) (.val (j5 h w f)) (.val (.tup (zA h b)));have x0:js (j5 h w f)=some (.T,[.int h,.int w,.tup (zL h w f)]):=rfl;have e0:xP=jb 7 (zF (zO 3 (sIx (zf 1) (zh (.int 1)))) (zF (qJ 4 (zaz (jh (jX (za (zh (.int 0)) zu))) (zc 3))) (zF (xK (zB (zz (ja (zQ F_base_of (za (zc 0) (za (zm jo (zc 3) (zh (.int 1))) (za (ja (zC (Jq (sIx (zf 1) (zh (.int 2))) (zc 2)) (.tp [0,1]) 2 [] z6 (zm jo (zc 0) (ju (za (zc 1) zu))))) zu))))))) (.nm 5) qQ) (jO (zM (zf 4)))))):=rfl;rw [e0];simp [jb,zV,zN,x0,Y,zp,O,z4,zgm,rows,e];rw [a1,sp,lp];by_cases z:s<r
 ·
  have a6:d=1:=by
   rcases zgF 1 d with q | q
   ·have h1:=I.mono s (s+1) ⋯ ⋯
    have h2:=s2 s (zgp _) z;have h3:=I.lt (s+1) ⋯;omega
   ·omega
  subst a6;have a7:l s=w:=by have:=s2 s (zgp _) z;have:=I.lt s z;omega
  have le:=xD J (B s) (show w<w+1 by omega) (λi hi=>I.bef s i z ⋯) (by have:=I.one s z;rw [a7]at this;rw [this];decide);have one:zL 1 (w+1) (λk=>B (s+k))=[.tup (zA (w+1) (B s))]:=rfl;rw [one,jA];simp [qQ,zN,le,z]
 ·have a8:d=0:=by omega
  subst a8;have zero:zL 0 (w+1) (λk=>B (s+k))=[]:=rfl;rw [zero];simp [qh,z]
end
def vo(h w:Nat)(f g:Nat->Nat->Int)(i:Nat):Vc:=if i<h then jT w (f i) (λ_=>0)else jT w (λ_=>0) (g (i - h))
theorem Wc(h h' w:Nat)(f g F:Nat->Nat->Int)(h1 : ∀i j,i<h->j<w->F i j=f i j)(h2 : ∀i j,i<h'->j<w->F (h+i) j=g i j):zL h w f++zL h' w g=zL (h+h') w F:=by
 unfold zL;rw [ziA,zg4,zhf];congr 1
 ·exact zgD λi hi=>by rw [kH λj z=>(h1 i j (zgl.mp hi) z).symm]
 ·exact zgD λi hi=>by
   simp only [Function.comp];rw [kH λj z=>(h2 i j (zgl.mp hi) z).symm]
theorem za2(n:Nat):(zgm n [D.int 0]).flatten=zA n λ_=>0:=by
 induction n with
 | zero=>rfl
 | succ n z=>
  rw [zhF,zhX,z];unfold zA;rw [<- xm,<- xm];rfl
theorem Wo{h w h' w':Nat}(f g:Nat->Nat->Int):zL h (w+w') (λi=>jT w (f i) λ_=>0)++zL h' (w+w') (λi=>jT w (λ_=>0) (g i))=zL (h+h') (w+w') (vo h w f g):=
 Wc h h' _ _ _ _ (λi j hi _=>by unfold vo;rw [if_pos hi]) λi j hi _=>by unfold vo;rw [if_neg ⋯,zgS]
theorem xU{h w h' w':Nat}(f g:Nat->Nat->Int)(hh:h<=400)(hw:w<=400)(a5:h'<=400)(a6:w'<=400) :
 F_tables_beside_5 [j5 h w f,j5 h' w' g]=some (.val (j5 (h+h') (w+w') (vo h w f g))):=by
 have hl:=jf;have I:h<=lim:=by omega
 have l2:w<=lim:=by omega
 have S:h'<=lim:=by omega
 have U:w'<=lim:=by omega
 have O:w+w'<=lim:=by omega
 have Y:h+h'<=lim:=by omega
 have J : ∀(h w:Nat) (f:Nat->Nat->Int),js (j5 h w f)=some (.T,[.int h,.int w,.tup (zL h w f)]):=λ_ _ _=>rfl;have Z:qi (.tup [.int 0]) (.int w)=some (.tup (zA w λ_=>0)):=by
  show(if ([D.int 0]).length*(w:Int).toNat<=lim/\inR (w:Int)=true then _ else _)=_;rw [if_pos ⟨by simpa using l2,vi l2⟩,zhn,za2]
 have g1:zG (.tp [0,1]) z6 (zm jo (zc 0) (zc 1)) [Cell.no,Cell.no] (vH (zL h w f) (zL h w' λ_ _=>0))=some (zL h (w+w') λi=>jT w (f i) λ_=>0):=by
  have z:vH (zL h w f) (zL h w' λ_ _=>0)=(zgj h).map λi=>D.tup [.tup (zA w (f i)),.tup (zA w' λ_=>0)]:=by
   unfold vH zL;rw [zi2];simp
  rw [z];unfold zL;refine zo _ _ λi hi=>zq rfl rfl ?_;have e:jo (.tup (zA w (f i))) (.tup (zA w' λ_=>0))=some (.tup (zA (w+w') (jT w (f i) λ_=>0))):=by
   show(if (zA w (f i)).length+(zA w' λ_=>0).length<=lim then _ else _)=_;rw [if_pos (by simpa using O),qY]
  show zm _ _ _ [Cell.val (.tup (zA w (f i))),Cell.val (.tup (zA w' λ_=>0))]=_;simp [e]
 have g2:zG (.nm 0) z6 (zm jo (zm qi (ju (za (zh (.int 0)) zu)) (sIx (zf 1) (zh (.int 1)))) (zc 0)) [Cell.no,Cell.val (j5 h w f)] (zL h' w' g)=some (zL h' (w+w') λi=>jT w (λ_=>0) (g i)):=by
  unfold zL;refine zo _ _ λi hi=>zq rfl rfl ?_;have e:jo (.tup (zA w λ_=>0)) (.tup (zA w' (g i)))=some (.tup (zA (w+w') (jT w (λ_=>0) (g i)))):=by
   show(if (zA w λ_=>0).length+(zA w' (g i)).length<=lim then _ else _)=_;rw [if_pos (by simpa using O),qY]
  simp [J,Z,e]
 have zl:(vH (zL h w f) (zL h w' λ_ _=>0)).length<=lim:=by
  unfold vH zL;simp;exact I
 have nj:F_no_join [j5 h w f,j5 h' w' g]=some (.val (j5 h w' λ_ _=>0)):=by
  simp [F_no_join,jb,zV,J,J1 I U]
 have tj:F_tables_joined [j5 h w f,j5 h' w' g,j5 h w' λ_ _=>0]=some (.val (j5 (h+h') (w+w') (vo h w f g))):=by
  simp [F_tables_joined,jb,zV,zN,J,I,S,Y,zl,z4,j3,zgm,g1,g2];rw [Wo];simp [j5]
 simp [F_tables_beside_5,jb,zV,nj,tj]
@[simp] theorem QV(γ:Ctx)(F G g):Qg F G g γ=(g γ).bind λl=>match l with
 | [p,.str z,t,b]=>((if z=("r" : Str)then F else G) [p,t,b]).bind zbI
 | _=>none:=rfl
section
variable{p:Int}{m:Nat}{w:Nat->Bool}{wd:Nat->Nat}{T:Nat->Nat->Nat->Int}{a:Nat}
def Stp(p:Int)(w:Nat->Bool)(wd:Nat->Nat)(T:Nat->Nat->Nat->Int)(k:Nat)(u v:Vc):Prop:=
 if w k then ∀x,x<wd k->u x%p=app (T k) (wd (k+1)) v x%p else ∀x,x<wd (k+1)->v x%p=app (T k) (wd k) u x%p
def QW(p:Int)(w:Nat->Bool)(wd:Nat->Nat)(T:Nat->Nat->Nat->Int)(i a:Nat):Nat->Vc->Prop
 | 0,z=>∀x,x<a->z x%p=z (a+x)%p
 | t+1,z=>∃u:Vc,QW p w wd T i a t (jT a z u)/\Stp p w wd T (i+t) u λx=>z (a+x)
theorem kl(F:Nat->Int)(s:Nat) : ∀d,sumTo F (s+d)=sumTo F s+sumTo (λk=>F (s+k)) d
 | 0=>by simp [sumTo]
 | d+1=>by rw [<- zi3];simp only [sumTo];rw [kl F s d];omega
theorem vv{f:Nat->Nat->Int}{c:Nat}(y:Vc)(x:Nat):app (vo a a (λi j=>if i=j then 1 else 0) f) (a+c) y x=if x<a then y x else app f c (λj=>y (a+j)) (x - a):=by
 unfold app;rw [kl];by_cases h:x<a
 ·rw [if_pos h]
  have e1:sumTo (λj=>vo a a (λi j=>if i=j then 1 else 0) f x j*y j) a=y x:=by
   rw [je (f:=λj=>vo a a (λi j=>if i=j then 1 else 0) f x j*y j) (i:=x) h λj z J=>by
    unfold vo;rw [if_pos h,zR z];simp [zht J]]
   unfold vo;rw [if_pos h,zR h];simp
  have I:sumTo (λk=>vo a a (λi j=>if i=j then 1 else 0) f x (a+k)*y (a+k)) c=0:=by
   rw [zy (g:=λ_=>0) λj _=>by unfold vo;rw [if_pos h,jd];simp,zI]
  rw [e1,I];simp
 ·rw [if_neg h]
  have e1:sumTo (λj=>vo a a (λi j=>if i=j then 1 else 0) f x j*y j) a=0:=by
   rw [zy (g:=λ_=>0) λj z=>by unfold vo;rw [if_neg h,zR z];simp,zI]
  have I:sumTo (λk=>vo a a (λi j=>if i=j then 1 else 0) f x (a+k)*y (a+k)) c=sumTo (λj=>f (x - a) j*y (a+j)) c:=
   zy λj _=>by unfold vo;rw [if_neg h,jd]
  rw [e1,I];simp
theorem zcJ{i t:Nat}(hw:w (i+t)=false){q I:Nat}{B B':Nat->Vc}(J : ∀z,Span p (a+wd (i+t)) (Fam q B) z↔QW p w wd T i a t z)
 (S : ∀v,Span p (a+wd (i+t+1)) (Fam I B') v ↔ ∃y,Span p (a+wd (i+t)) (Fam q B) y/\∀x,x<a+wd (i+t+1)->v x%p=app (vo a a (λi j=>if i=j then 1 else 0) (T (i+t))) (a+wd (i+t)) y x%p) (v:Vc) :
 Span p (a+wd (i+t+1)) (Fam I B') v↔QW p w wd T i a (t+1) v:=by
 rw [S v];constructor
 ·rintro⟨y,U,O⟩
  refine⟨λx=>y (a+x),(J _).mp (U.congr λx hx=>?_),?_⟩
  ·rcases zgF x a with z | z
   ·rw [zR z]
    have:=O x ⋯;rw [vv,if_pos z]at this;exact this
   ·obtain⟨k,rfl⟩ : ∃k,x=a+k:=⟨x - a,by omega⟩
    rw [jd]
  ·unfold Stp
   rw [hw,if_neg zgB];intro x hx;have:=O (a+x) ⋯;rw [vv,if_neg ⋯,zgS]at this;exact this
 ·rintro⟨u,h1,h2⟩
  unfold Stp at h2;rw [hw,if_neg zgB]at h2;refine⟨jT a v u,(J _).mpr h1,λx hx=>?_⟩;rw [vv];rcases zgF x a with z | z
  ·rw [if_pos z,zR z]
  ·rw [if_neg ⋯]
   obtain⟨k,rfl⟩ : ∃k,x=a+k:=⟨x - a,by omega⟩;rw [zgS,show(λj=>jT a v u (a+j))=u from funext λj=>jd j];exact h2 k ⋯
theorem zcK{i t:Nat}(hw:w (i+t)=true){q I:Nat}{B B':Nat->Vc}(J : ∀z,Span p (a+wd (i+t)) (Fam q B) z↔QW p w wd T i a t z)
 (O : ∀v,Span p (a+wd (i+t+1)) (Fam I B') v↔Span p (a+wd (i+t)) (Fam q B) (app (vo a a (λi j=>if i=j then 1 else 0) (T (i+t))) (a+wd (i+t+1)) v)) (v:Vc) :
 Span p (a+wd (i+t+1)) (Fam I B') v↔QW p w wd T i a (t+1) v:=by
 rw [O v];constructor
 ·intro S
  refine⟨λx=>app (T (i+t)) (wd (i+t+1)) (λj=>v (a+j)) x,(J _).mp (S.congr λx hx=>?_),?_⟩
  ·rw [vv]
   rcases zgF x a with z | z
   ·rw [zR z,if_pos z]
   ·obtain⟨k,rfl⟩ : ∃k,x=a+k:=⟨x - a,by omega⟩
    rw [jd,if_neg ⋯,zgS]
  ·unfold Stp
   rw [hw,if_pos rfl];exact λx _=>rfl
 ·rintro⟨u,h1,h2⟩
  unfold Stp at h2;rw [hw,if_pos rfl]at h2;refine((J _).mpr h1).congr λx hx=>?_;rw [vv];rcases zgF x a with z | z
  ·rw [zR z,if_pos z]
  ·obtain⟨k,rfl⟩ : ∃k,x=a+k:=⟨x - a,by omega⟩
   rw [jd,if_neg ⋯,zgS];exact(h2 k ⋯).symm
def Xt:CO Fl:=(zbH 4 (qJ 4 (Qg F_led_on F_led_into (za (sIx (zf 0) (zh (.int 0))) (za (sIx (zf 5) (zh (.int 0))) (za (zw F_tables_beside_5 (za (zc 3) (za (sIx (zf 5) (zh (.int 1))) zu))) (za (zc 4) zu)))))))
theorem VT:F_link=jb 6 (zF (zO 3 (zw F_same_table (za (sIx (zz (sIx (zf 0) (zh (.int 1)))) (zc 1)) zu))) (zF (qJ 4 (zC (zB (zz (sIx (zf 3) (zh (.int 2))))) (.nm 0) 1 [] z6 (zm jo (zc 0) (zc 0)))) (zF (xK (zB (zz (Qd (sIx (zf 0) (zh (.int 2))) (sBd (zc 1)) (sBd (zc 2))))) (.nm 5) Xt) (yo 4)))):=rfl
theorem oneS_r{b:Bool}:(qO (wch b)=("r" : Str))↔b=false:=by cases b<;>decide
abbrev lk(p:Int)(m:Nat)(w:Nat->Bool)(wd:Nat->Nat)(T:Nat->Nat->Nat->Int)(i j:Int)(a:Nat)(ds:List D)(c:Cell):Ctx:=[.val (qe p m w wd T),.val (.int i),.val (.int j),.val (j5 a a λi j=>if i=j then 1 else 0),.own ds,c]
theorem KQ(O:Pr p)(Y : ∀k,wd k<=4)(ha:a<=4)(hT : ∀k x y,0<=T k x y/\T k x y<p)(Z j':Int){i t q:Nat}{B:Nat->Vc}(hq:q<=20)(hB : ∀z,Span p (a+wd (i+t)) (Fam q B) z↔QW p w wd T i a t z) :
 ∃I B' l',Xt (lk p m w wd T Z j' a (zL q (a+wd (i+t)) B) (.val (qM w wd T (i+t))))=some (.next (lk p m w wd T Z j' a (zL I (a+wd (i+t+1)) B') (.val (qM w wd T (i+t)))))/\IsB p (a+wd (i+t+1)) I B' l'/\
  ∀z,Span p (a+wd (i+t+1)) (Fam I B') z↔QW p w wd T i a (t+1) z:=by
 have hl:=jf;have a7:=O.le;have h1:=Y (i+t);have h2:=Y (i+t+1);have tb:=xU (h:=a) (w:=a) (h':=hiW w wd (i+t)) (w':=wiW w wd (i+t)) (λi j=>if i=j then 1 else 0) (T (i+t)) ⋯ ⋯ (by unfold hiW;split<;>omega) (by unfold wiW;split<;>omega);have rs:js (qe p m w wd T)=some (.T,[.int p,.tup (zA (m+1) λk=>(wd k:Int)),.tup (qR m w wd T)]):=rfl;have J:js (qM w wd T (i+t))=some (.T,[.str (qO (wch (w (i+t)))),j5 (hiW w wd (i+t)) (wiW w wd (i+t)) (T (i+t))]):=rfl;have bd : ∀x y,0<=vo a a (λi j=>if i=j then 1 else 0) (T (i+t)) x y/\vo a a (λi j=>if i=j then 1 else 0) (T (i+t)) x y<100:=λx y=>by
  have:=hT (i+t) (x - a) (y - a);unfold vo jT;split
  ·dsimp only
   split
   ·split<;>omega
   ·omega
  ·dsimp only
   split
   ·omega
   ·omega
 cases hw:w (i+t)with
 | false=>
  have hi:hiW w wd (i+t)=wd (i+t+1):=by unfold hiW;rw [hw];rfl
  have wi:wiW w wd (i+t)=wd (i+t):=by unfold wiW;rw [hw];rfl
  rw [hi,wi]at tb J;obtain⟨I,B',l',e,S,U⟩:=J2 O (h:=a+wd (i+t+1)) (w:=a+wd (i+t)) (q:=q) ⋯ ⋯ ⋯ (vo a a (λi j=>if i=j then 1 else 0) (T (i+t))) (λx y _ _=>bd x y) B;refine⟨I,B',l',?_,S,zcJ hw hB U⟩;have z:qO (wch (w (i+t)))=("r" : Str):=oneS_r.mpr hw;unfold Xt;simp only [lk,W8,JW,QV,xA,yh,Jf,qL,qx,yi,yd,zgA,zgE,qt,zgN,zgM,zZ,jz,rs,J,zgq,zg3,qw,zg2,zhW,ix0,ix1,tb,kq,z,if_true,e,wM]
 | true=>
  have hi:hiW w wd (i+t)=wd (i+t):=by unfold hiW;rw [hw];rfl
  have wi:wiW w wd (i+t)=wd (i+t+1):=by unfold wiW;rw [hw];rfl
  rw [hi,wi]at tb J;obtain⟨I,B',l',e,S,U⟩:=kW O (h:=a+wd (i+t)) (w:=a+wd (i+t+1)) (q:=q) ⋯ ⋯ ⋯ (vo a a (λi j=>if i=j then 1 else 0) (T (i+t))) B;refine⟨I,B',l',?_,S,zcK hw hB U⟩;have z : ¬(qO (wch (w (i+t)))=("r" : Str)):=λq=>by have:=oneS_r.mp q;rw [hw]at this;cases this
  unfold Xt;simp only [lk,W8,JW,QV,xA,yh,Jf,qL,qx,yi,yd,zgA,zgE,qt,zgN,zgM,zZ,jz,rs,J,zgq,zg3,qw,zg2,zhW,ix0,ix1,tb,kq,z,if_false,e,wM]
end
section
variable{p:Int}{m:Nat}{w:Nat->Bool}{wd:Nat->Nat}{T:Nat->Nat->Nat->Int}
theorem Y7(I:Pr p)(a:Nat):IsB p (a+a) a (λx=>jT a (jt x) (jt x)) id where
 lt:=λk z=>by simp only [id];omega
 mono:=λk m z _=>z
 one:=λk z=>by simp only [id];rw [zR z];exact if_pos rfl
 bef:=λk j z J=>by simp only [id]at J;rw [zR ⋯];exact if_neg ⋯
 oth:=λk m z hm O=>by simp only [id];rw [zR hm];exact if_neg ⋯
 rng:=λk i _ _=>by have:=I.two;unfold jT jt;split<;>split<;>omega
theorem X1(hp:Pr p)(i:Nat)(z:Vc):Span p (wd i+wd i) (Fam (wd i) λx=>jT (wd i) (jt x) (jt x)) z↔QW p w wd T i (wd i) 0 z:=by
 constructor
 ·intro I
  induction I with
  | @zero z I=>intro x hx;rw [I x ⋯,I (wd i+x) ⋯]
  | @step z u g c S hu J U=>
   obtain⟨k,O,rfl⟩:=S;intro x hx;dsimp only at J;rw [J x ⋯,J (wd i+x) ⋯,zR hx,jd,zgL,U x hx,<- zgL]
 ·intro I
  refine(Span.sum (u:=λx=>jT (wd i) (jt x) (jt x)) z (m:=wd i) λk O=> .gen ⟨k,O,rfl⟩).congr λx hx=>?_;have one : ∀y,y<wd i->sumTo (λk=>z k*jt k y) (wd i)=z y:=λy Y=>by
   rw [je (f:=λk=>z k*jt k y) Y λj _ Z=>by simp [jt,Z]];simp [jt]
  rcases zgF x (wd i)with q | q
  ·have:sumTo (λk=>z k*jT (wd i) (jt k) (jt k) x) (wd i)=z x:=by
    rw [<- one x q];exact zy λk _=>by rw [zR q]
   rw [this]
  ·obtain⟨k,rfl⟩ : ∃k,x=wd i+k:=⟨x - wd i,by omega⟩
   have:sumTo (λj=>z j*jT (wd i) (jt j) (jt j) (wd i+k)) (wd i)=z k:=by
    rw [<- one k ⋯];exact zy λj _=>by rw [jd]
   rw [this];exact(I k ⋯).symm
theorem YY(S:Pr p)(U : ∀k,wd k<=4)(hT : ∀k x y,0<=T k x y/\T k x y<p){i j:Nat}(a2:i<=j)(hj:j<=m) :
 ∃q B l,F_link [qe p m w wd T,.int i,.int j]=some (.own (zL q (wd i+wd j) B))/\IsB p (wd i+wd j) q B l/\∀z,Span p (wd i+wd j) (Fam q B) z↔QW p w wd T i (wd i) (j - i) z:=by
 have hl:=jf;have ha:=U i;have Z:wd i<=lim:=by omega
 have a4:wd i+wd i<=lim:=by omega
 have a5 : ∀(k t:Nat) (q:Nat) (B:Nat->Vc) (l:Nat->Nat) (c:Cell),t+k=j - i->IsB p (wd i+wd (i+t)) q B l->(∀z,Span p (wd i+wd (i+t)) (Fam q B) z↔QW p w wd T i (wd i) t z)->
  ∃O B' l' Y,qh (.nm 5) Xt ((zh3 t k).map λk=>qM w wd T (i+k)) (lk p m w wd T i j (wd i) (zL q (wd i+wd (i+t)) B) c)=some (.next (lk p m w wd T i j (wd i) (zL O (wd i+wd j) B') Y))/\IsB p (wd i+wd j) O B' l'/\
   ∀z,Span p (wd i+wd j) (Fam O B') z↔QW p w wd T i (wd i) (j - i) z:=by
  intro k
  induction k with
  | zero=>
   intro t q B l c h I J;have e1:t=j - i:=by omega
   have e2:i+t=j:=by omega
   rw [e2]at I J ⊢;rw [<- e1];exact⟨q,B,l,c,rfl,I,J⟩
  | succ k ih=>
   intro t q B l c h I J;have hq:q<=wd i+wd (i+t):=yZ I.mono I.lt;have:=U (i+t);obtain⟨q1,B1,l1,e,ab,ac⟩:=KQ (m:=m) S U ha hT i j ⋯ J;obtain⟨O,B',l',Y,e',ae,af⟩:=ih (t+1) q1 B1 l1 (.val (qM w wd T (i+t))) ⋯ ab ac;refine⟨O,B',l',Y,?_,ae,af⟩;rw [zhJ,zgO,jA];show((Xt (lk p m w wd T i j (wd i) (zL q (wd i+wd (i+t)) B) (.val (qM w wd T (i+t))))).bind _)=_;rw [e];exact e'
 obtain⟨q,B,l,c,e,I,J⟩:=a5 (j - i) 0 (wd i) (λx=>jT (wd i) (jt x) (jt x)) id .no ⋯ (Y7 S (wd i)) (X1 S i);refine⟨q,B,l,?_,I,J⟩;have sm:=xB (n:=wd i) Z;have wi:i<m+1:=by omega
 have tw:zG (.nm 0) z6 (zm jo (zc 0) (zc 0)) [Cell.no] (zL (wd i) (wd i) λi j=>if i=j then 1 else 0)=some (zL (wd i) (wd i+wd i) λx=>jT (wd i) (jt x) (jt x)):=by
  unfold zL;refine zo _ _ λx hx=>zq rfl rfl ?_;simp [jo,a4,qY];rfl
 have rs:js (qe p m w wd T)=some (.T,[.int p,.tup (zA (m+1) λk=>(wd k:Int)),.tup (qR m w wd T)]):=rfl;have dq:js (j5 (wd i) (wd i) λi j=>if i=j then 1 else 0)=some (.T,[.int (wd i),.int (wd i),.tup (zL (wd i) (wd i) λi j=>if i=j then 1 else 0)]):=rfl;have ix:ixD (m+1) (i:Int)=some i:=by rw [j4,if_pos wi]
 have wx:(zA (m+1) λk=>(wd k:Int))[i]? = some (.int (wd i)):=xO _ wi;have ca:QM (qR m w wd T) (some (i:Int)) (some (j:Int))=(zgj (j - i)).map λk=>qM w wd T (i+k):=by
  rw [zdq a2 hj];rfl
 rw [<- zhA]at e;rw [VT];unfold jb;have e0:zV 6 [qe p m w wd T,.int i,.int j]=[.val (qe p m w wd T),.val (.int i),.val (.int j),.no,.no,.no]:=rfl;have s1:(zO 3 (zw F_same_table (za (sIx (zz (sIx (zf 0) (zh (.int 1)))) (zc 1)) zu))) [.val (qe p m w wd T),.val (.int i),.val (.int j),.no,.no,.no]=some (.next [.val (qe p m w wd T),.val (.int i),.val (.int j),.val (j5 (wd i) (wd i) λi j=>if i=j then 1 else 0),.no,.no]):=by
  simp only [Je,yd,xA,yh,Jf,yH,qL,qx,yi,zgA,zgE,zZ,jz,rs,YN,zgq,zg3,qw,zg2,zhW,ix1,qX,ix,wx,sm,kq];rfl
 have s2:(qJ 4 (zC (zB (zz (sIx (zf 3) (zh (.int 2))))) (.nm 0) 1 [] z6 (zm jo (zc 0) (zc 0)))) [.val (qe p m w wd T),.val (.int i),.val (.int j),.val (j5 (wd i) (wd i) λi j=>if i=j then 1 else 0),.no,.no]=some (.next (lk p m w wd T i j (wd i) (zL (wd i) (wd i+wd i) λx=>jT (wd i) (jt x) (jt x)) .no)):=by
  simp only [JW,yc,kS,yH,Jf,qL,yi,zgA,zgE,jz,dq,YN,zgq,zg3,qw,zg2,zhW,ix2,Zb,Z,if_true];rw [show z4 1 [] [Cell.val (qe p m w wd T),Cell.val (D.int (i:Int)),Cell.val (D.int (j:Int)),Cell.val (j5 (wd i) (wd i) λi j=>if i=j then 1 else 0),Cell.no,Cell.no]=[Cell.no]from rfl,tw];rfl
 rw [e0,zN,s1,qT,zN,s2,qT,zN,Jg];simp only [lk,kS,yH,zdy,Jf,qL,qx,yi,zfp,zgA,zgE,jz,zZ,rs,YN,zgq,zg3,qw,zg2,zhW,ix2,ca];simp only [lk,zjK]at e;rw [e];simp
end
@[simp] theorem zdC(γ:Ctx)(i f):Jt i f γ=(qu γ[i]?).bind λds=>(f γ).bind λes=>if ds.length+es.length<=lim then some (.next (γ.set i (.own (ds++es))))else none:=rfl
section
variable{p:Int}{m:Nat}{w:Nat->Bool}{wd:Nat->Nat}{T:Nat->Nat->Nat->Int}
theorem qA:js (qe p m w wd T)=some (.T,[.int p,.tup (zA (m+1) λk=>(wd k:Int)),.tup (qR m w wd T)]):=rfl
end
@[simp] theorem Jh(γ:Ctx)(f):ye f γ=(f γ).bind λd=>match d with
 | .str z=>if jk z=true then some (j9 (qk z))else none
 | _=>none:=rfl
@[simp] theorem Ws(γ:Ctx)(f g):Vl f g γ=(f γ).bind λd=>(g γ).bind λe=>match d,e with
 | .str x,.str y=>if jk x=true/\jk y=true then some (.str (x++y))else none
 | _,_=>none:=rfl
theorem wp(m:Nat)(w:Nat->Bool):j9 (qk (kh m w))=(zgj m).map λ(k:Nat)=>D.tup [.int k,.str (qO (wch (w k)))]:=by
 have e:qk (kh m w)=(zgj m).map λk=>D.str (qO (wch (w k))):=by
  unfold qk;rw [xF,zhf];rfl
 unfold j9;rw [e];simp only [zgH,zhz];refine zgD λk z=>?_;simp [zgl.mp z]
theorem Ym(w:Nat->Bool)(k:Nat):F_law_ends_k22 [.int k,.str (qO (wch (w k)))]=some (.val (.tup [.int ((begR w k:Nat):Int),.int ((endR w k:Nat):Int)])):=by
 have q:=zbi (w k);cases h:w k<;>rw [h]at q<;>simp [F_law_ends_k22,jb,zV,zN,q,begR,endR,h]
theorem XX(s:Nat)(w:Nat->Bool):kh s w++qO (wch (w s))=kh (s+1) w:=by
 have h:(kh s w++qO (wch (w s))).cps.toList=(kh (s+1) w).cps.toList:=by
  show((kh s w).cps++(qO (wch (w s))).cps).toList=_;rw [Array.toList_append,xF,xF,zhi,zg4];rfl
 have h2:=Array.toList_inj.mp h;generalize kh s w++qO (wch (w s))=a at h2;generalize kh (s+1) w=b at h2;cases a;cases b;exact congrArg Str.mk h2
theorem zbN{c:Int}(hc:0<=c){m:Nat}(hm:m<=5) : ∃w,F_law_ways_k22 [.int c,.int (1+(m:Int))]=some (.val (.str (kh m w))):=by
 have hl:=jf;have O:m<=lim:=by omega
 refine⟨λk=>decide (c/2 ^ k%2=1),?_⟩;generalize hw:(λk:Nat=>decide (c/2 ^ k%2=1))=w;have S : ∀(k s:Nat) (z:Cell),s+k=m->∃I J,qh (.nm 3) (zF (zO 2 (Vl (zc 2) (Zz (zh (.str "rl")) (zm qa (zc 0) (zh (.int 2)))))) (zO 0 (zm Z5 (zc 0) (zh (.int 2))))) ((zh3 s k).map λ(i:Nat)=>D.int i) [.val (.int (c/2 ^ s)),.val (.int (1+(m:Int))),.val (.str (kh s w)),z] =
  some (.next [I,.val (.int (1+(m:Int))),.val (.str (kh m w)),J]):=by
  intro k
  induction k with
  | zero=>
   intro s z h;obtain rfl:s=m:=by omega
   exact⟨_,z,rfl⟩
  | succ k U=>
   intro s z h;obtain⟨I,J,e⟩:=U (s+1) (.val (.int s)) ⋯;refine⟨I,J,?_⟩;rw [zhJ,zgO,jA];have Y:Zz (zh (.str "rl")) (zm qa (zc 0) (zh (.int 2))) [.val (.int (c/2 ^ s)),.val (.int (1+(m:Int))),.val (.str (kh s w)),.val (.int s)]=some (.str (qO (wch (w s)))):=by
    have Z:zm qa (zc 0) (zh (.int 2)) [.val (.int (c/2 ^ s)),.val (.int (1+(m:Int))),.val (.str (kh s w)),.val (.int s)]=some (.int (c/2 ^ s%2)):=by simp
    rw [Wr,Z];have q:c/2 ^ s%2=0\/c/2 ^ s%2=1:=by omega
    have ws:w s=decide (c/2 ^ s%2=1):=by rw [<- hw]
    rw [ws];rcases q with q | q
    ·rw [q];rfl
    ·rw [q];rfl
   have s1:=kX w (show s<=1000 by omega);have s2:jk (qO (wch (w s)))=true:=rfl;have dv:c/2 ^ s/2=c/2 ^ (s+1):=by rw [Int.pow_succ,Int.ediv_ediv_of_nonneg (Int.pow_nonneg ⋯)]
   simp only [qF,zgq,zgN,zgM];rw [zN];simp only [Je,Ws,qx,zgA,zgE,zZ,zgq,Y,s1,s2,and_self,if_true,XX,zg3,zgN,zgM];simp only [YS,qx,yi,zgA,zZ,zgq,Wh];rw [if_pos ⟨by omega,by omega⟩,dv];exact e
 obtain⟨c0,z,e⟩:=S m 0 .no ⋯;rw [<- zhA]at e;have c1:c/2 ^ 0=c:=by simp
 have e1:(1:Int)+(m:Int) - 1=(m:Int):=by omega
 have w0:kh 0 w=("" : Str):=rfl;rw [c1,w0]at e;simp [F_law_ways_k22,jb,zV,zN,e1,O,jv,zgm];rw [zU m λi=>(i:Int),e];simp
def Jl(ns:List Int)(p:Int)(n:Int):Int:=qK ns n/4%p*(if decide (0<qK ns n%4)=true then 1 else 0)
theorem zbx{ns:List Int}{p n:Int}(z:0<p):0<=Jl ns p n/\Jl ns p n<p:=by
 unfold Jl;have h1:=zhd (qK ns n/4) (show p≠0 by omega);have h2:=zgV (qK ns n/4) z;split<;>omega
theorem zcc{ns:List Int}(Z:ns.length<=63){p:Int}(Y:Pr p){at_:Int}(aa:0<=at_)(ha:at_<=1000){h w:Nat}(hh:h<=4)(hw:w<=4) :
 F_law_rows_k22 [qE ns,.int at_,.int p,.int h,.int w]=some (.own (jG h w λx y=>Jl ns p (at_+(x:Int)*(w:Int)+(y:Int)))):=by
 have hl:=jf;have p0:=Y.pos;have ad:=Y.le;have a1:h<=lim:=by omega
 have I:w<=lim:=by omega
 have a2 : ∀(k s:Nat) (c6 c7:Cell),s+k=h->∃J O,qh (.nm 6) (zF (zO 7 (ja (zC (zY (zc 4)) (.nm 0) 1 [0,1,4,6] z6 (zw F_law_cell (za (zc 1) (za (zm jo (zm jo (zc 2) (zm qi (zc 4) (zc 3))) (zc 0)) zu)))))) (qp 5 (ja (zC (zB (zf 7)) (.nm 0) 1 [2] z6 (zm qi (zm qa (zm Z5 (zc 0) (zh (.int 4))) (zc 1)) (Kk (zm dGt (zm qa (zc 0) (zh (.int 4))) (zh (.int 0))))))))) ((zh3 s k).map λ(i:Nat)=>D.int i)
  [.val (qE ns),.val (.int at_),.val (.int p),.val (.int h),.val (.int w),.own (jG s w λx y=>Jl ns p (at_+(x:Int)*(w:Int)+(y:Int))),c6,c7]=some (.next [.val (qE ns),.val (.int at_),.val (.int p),.val (.int h),.val (.int w),.own (jG h w λx y=>Jl ns p (at_+(x:Int)*(w:Int)+(y:Int))),J,O]):=by
  intro k
  induction k with
  | zero=>
   intro s c6 c7 hs;obtain rfl:s=h:=by omega
   exact⟨c6,c7,rfl⟩
  | succ k ih=>
   intro s c6 c7 hs;have xw:(s:Int)*(w:Int)<=16:=by
    have:s*w<=4*4:=Nat.mul_le_mul ⋯ hw;rw [<- Int.natCast_mul];omega
   have af:(0:Int)<=(s:Int)*(w:Int):=Int.mul_nonneg ⋯ ⋯;have k1:zG (.nm 0) z6 (zw F_law_cell (za (zc 1) (za (zm jo (zm jo (zc 2) (zm qi (zc 4) (zc 3))) (zc 0)) zu))) [Cell.no,Cell.val (qE ns),Cell.val (.int at_),Cell.val (.int w),Cell.val (.int s)] (zA w λi=>(i:Int))=some (zA w λy=>qK ns (at_+(s:Int)*(w:Int)+(y:Int))):=by
    rw [zU w,zU w];refine zo _ _ λy S=>zq rfl rfl ?_;have S:=zgl.mp S;have U:vF (s:Int) (w:Int)=true:=qP _ _ ⋯ ⋯;have ce:=(Ze Z (k:=at_+(s:Int)*(w:Int)+(y:Int)) ⋯ ⋯).1;simp [U,ce]
   have k2:zG (.nm 0) z6 (zm qi (zm qa (zm Z5 (zc 0) (zh (.int 4))) (zc 1)) (Kk (zm dGt (zm qa (zc 0) (zh (.int 4))) (zh (.int 0))))) [Cell.no,Cell.val (.int p)] (zA w λy=>qK ns (at_+(s:Int)*(w:Int)+(y:Int)))=some (zA w λy=>Jl ns p (at_+(s:Int)*(w:Int)+(y:Int))):=by
    rw [zU w,zU w];refine zo _ _ λy S=>zq rfl rfl ?_;have U : ∀z:Int,vF z (if 0<qK ns (at_+(s:Int)*(w:Int)+(y:Int))%4 then 1 else 0)=true:=λz=>QQ _ _ (by split<;>omega) (by split<;>omega);simp [p0,U,Jl]
   obtain⟨J,O,e⟩:=ih (s+1) (.val (.int s)) (.val (.lst (zA w λy=>qK ns (at_+(s:Int)*(w:Int)+(y:Int))))) ⋯;refine⟨J,O,?_⟩;rw [zhJ,zgO,jA];have sl:(jG s w λx y=>Jl ns p (at_+(x:Int)*(w:Int)+(y:Int))).length<lim:=by rw [wq];omega
   simp only [qF,zgq,zgN,zgM];rw [zN];simp only [Je,QU,yc,vx,qx,zgA,zgE,zZ,zgq,qw,vi I,if_true,zhn,jv,qX,I];rw [show z4 1 [0,1,4,6] [Cell.val (qE ns),Cell.val (D.int at_),Cell.val (D.int p),Cell.val (D.int (h:Int)),Cell.val (D.int (w:Int)),Cell.own (jG s w λx y=>Jl ns p (at_+(x:Int)*(w:Int)+(y:Int))),Cell.val (D.int (s:Int)),c7]=[Cell.no,Cell.val (qE ns),Cell.val (.int at_),Cell.val (.int w),Cell.val (.int s)]from rfl,k1];simp only [zg3,zgq,zgN,zgM];simp only [vy,QU,yc,kS,qL,zgA,zgE,qt,jz,QT,zgq,zg3,qX,I,if_true];rw [show z4 1 [2] [Cell.val (qE ns),Cell.val (D.int at_),Cell.val (D.int p),Cell.val (D.int (h:Int)),Cell.val (D.int (w:Int)),Cell.own (jG s w λx y=>Jl ns p (at_+(x:Int)*(w:Int)+(y:Int))),Cell.val (D.int (s:Int)),Cell.val (D.lst (zA w λy=>qK ns (at_+(s:Int)*(w:Int)+(y:Int))))]=[Cell.no,Cell.val (.int p)]from rfl,k2];simp only [zg3,zgq,sl,if_true,zgN,zgM];have ea:(jG s w λx y=>Jl ns p (at_+(x:Int)*(w:Int)+(y:Int)))++[D.lst (zA w λy=>Jl ns p (at_+(s:Int)*(w:Int)+(y:Int)))]=jG (s+1) w λx y=>Jl ns p (at_+(x:Int)*(w:Int)+(y:Int)):=by
    unfold jG;rw [zhi,zg4];rfl
   rw [ea];exact e
 obtain⟨c6,c7,e⟩:=a2 h 0 .no .no ⋯;rw [<- zhA]at e;simp [F_law_rows_k22,jb,zV,zN,zgm,a1,jv];rw [zU h λi=>(i:Int)];have e0:(jG 0 w λx y=>Jl ns p (at_+(x:Int)*(w:Int)+(y:Int)))=[]:=rfl;rw [e0]at e;rw [e];simp
def mk(lo:Nat)(ch:List Int)(r:Nat):Int:=if lo<=r then ch.getD (r - lo) 0 else 0
def F_stretches_of:List D->Option Res:=jb 3 (zF (qJ 1 (jX zu)) (zF (xK (zY (zc 0)) (.nm 2) (Jt 1 (zC (x6 (zc 2) (zc 0)) (.nm 0) 1 [2] z6 (ju (za (zc 1) (za (zc 0) zu)))))) (yo 1)))
def zeJ(n k:Nat)(u:Nat->Int):Int:=if 0<k then (if k+1<n then u (k - 1)+(u (k+1)+0)else u (k - 1)+0)else if k+1<n then u (k+1)+0 else 0
def mv(n k:Nat)(u:Nat->Int)(i:Nat):Int:=if i=k then zeJ n k u - u k else u i
theorem zbE{w:Nat}{B:Nat->Vc}{l:Nat->Nat}{r j:Nat}(h : ∀k,k<r->l k≠j):JX w B l r j=0:=by
 unfold JX;rw [zy (g:=λ_=>0) λk z=>if_neg (h k z),zI]
theorem zdD{p:Int}{w n r:Nat}{B:Nat->Vc}{l:Nat->Nat}(I:IsB p n r B l){k:Nat}(z:k<r):JX w B l r (l k)=B k w:=by
 unfold JX;rw [je z λm hm J=>if_neg λe=>J (Qu I.mono hm z e),if_pos rfl]
theorem Ve{p:Int}{h w:Nat}{f:Nat->Nat->Int}{b y:Vc}(O : ∀i,i<h->sumTo (λj=>f i j*y j) w%p=b i%p){v:Vc}(S:Span p (w+1) (Fam h (aug w f b)) v):(v w - sumTo (λj=>v j*y j) w)%p=0:=by
 induction S with
 | @zero v I=>
  have e:sumTo (λj=>v j*y j) w%p=sumTo (λ_=>0) w%p:=zW λj J=>by rw [zgt,I j ⋯];simp
  rw [zhO,e,I w ⋯,zI];simp
 | @step v z g c U a2 h1 Y=>
  obtain⟨i,hi,rfl⟩:=U;have e1:sumTo (λj=>v j*y j) w%p=(sumTo (λj=>z j*y j) w+c*sumTo (λj=>f i j*y j) w)%p:=by
   rw [<- jK,<- jC];refine zW λj J=>?_;rw [zgt,h1 j ⋯,<- zgt];have:aug w f b i j=f i j:=by simp [aug,J]
   rw [this,Int.add_mul,zie]
  have Z:v w%p=(z w+c*b i)%p:=by
   rw [h1 w ⋯];have:aug w f b i w=b i:=by simp [aug]
   rw [this]
  have e3:(c*sumTo (λj=>f i j*y j) w)%p=(c*b i)%p:=by rw [zgt,O i hi,<- zgt]
  rw [zhO,e1,Z,<- zhO];have e4:(z w+c*b i - (sumTo (λj=>z j*y j) w+c*sumTo (λj=>f i j*y j) w))=(z w - sumTo (λj=>z j*y j) w)+(c*b i - c*sumTo (λj=>f i j*y j) w):=by omega
  rw [e4,zgL,Y,zhO,e3];simp
theorem Vg{p:Int}(S:Pr p){h w:Nat}(Z:h<=90)(hw:w<=90)(f:Nat->Nat->Int)(b y:Vc)(O : ∀i,i<h->0<=b i/\b i<p)(hy : ∀i,i<h->sumTo (λj=>f i j*y j) w%p=b i) :
 ∃x:Vc,xP [.int p,j5 h w f,.tup (zA h b)]=some (.val (.tup (zA w x)))/\(∀j,0<=x j/\x j<p)/\∀i,i<h->sumTo (λj=>f i j*x j) w%p=b i:=by
 have p0:=S.pos;obtain⟨r,B,l,s,J,U,hs,s1,s2,Y⟩:=vz S Z hw f b;have a2 : ¬s<r:=λz=>by
  have aa:=J.lt s z;have ab:=s2 s (zgp _) z;have el:l s=w:=by omega
  have sp:=(U (B s)).mp (.gen ⟨s,z,rfl⟩);have q:=Ve (y:=y) (λi hi=>by rw [hy i hi,zhG (O i hi).1 (O i hi).2]) sp;have h1:=J.one s z;rw [el]at h1;have h2:sumTo (λj=>B s j*y j) w=0:=by
   rw [zy (g:=λ_=>0) λj hj=>by rw [J.bef s j z ⋯];simp];exact zI _
  rw [h1,h2,Int.sub_zero,S.one]at q;omega
 rw [if_neg a2]at Y;have er:s=r:=by omega
 subst er;refine⟨_,Y,λj=>?_,λi hi=>?_⟩
 ·by_cases e : ∃k,k<s/\l k=j
  ·obtain⟨k,I,rfl⟩:=e
   rw [zdD J I];exact J.rng k w I ⋯
  ·rw [zbE λk I e'=>e ⟨k,I,e'⟩];exact⟨Int.le_refl _,p0⟩
 ·have co:=ya J ((U (aug w f b i)).mpr (.gen ⟨i,hi,rfl⟩)) w ⋯
  have a7:aug w f b i w=b i:=by simp [aug]
  rw [a7,zhG (O i hi).1 (O i hi).2]at co;rw [co];congr 1;unfold JX;rw [zy (g:=λj=>sumTo (λk=>f i j*(if l k=j then B k w else 0)) s) λj _=>(jK _ _ _).symm,xH];refine zy λk I=>?_;rw [je (i:=l k) (s1 k I) λj hj a8=>by rw [if_neg (zht a8)];simp,if_pos rfl];simp only [aug,if_pos (s1 k I)]
def qD(wd:Nat->Nat)(b:Bar):List D:=(zgj b.n).map λi=>D.tup (zA (wd (b.s+i)) (b.v (b.s+i)))
def jB(wd:Nat->Nat)(b:Bar):D:= .tup [.int b.s,.tup (qD wd b)]
@[simp] theorem Xr(wd b):(qD wd b).length=b.n:=by simp [qD]
theorem Qw{wd:Nat->Nat}{b:Bar}{i:Nat}(h:i<b.n):(qD wd b)[i]? = some (.tup (zA (wd (b.s+i)) (b.v (b.s+i)))):=by simp [qD,h]
@[simp] theorem ze9(wd b):js (jB wd b)=some (.T,[.int b.s,.tup (qD wd b)]):=rfl
section
variable{wd:Nat->Nat}{b:Bar}{bars:List Bar}
theorem Q5(h1:1<=b.n)(hn:b.s+b.n<=100):jI [jB wd b]=some (.val (.tup [.int b.s,.int ((b.s+b.n - 1:Nat):Int)])):=by
 have e:((b.s:Int)+(b.n:Int) - 1)=((b.s+b.n - 1:Nat):Int):=by omega
 simp [jI,jb,zV,jB,zgm];omega
theorem qW(hn:b.s+b.n<=100)(r:Nat):jn [jB wd b,.int r]=some (.val (.bl (b.has r))):=by
 by_cases h:b.s<=r
 ·by_cases h2:r<b.s+b.n
  ·have:(r:Int)<(b.s:Int)+b.n:=by omega
   simp [jn,jb,zV,jB,zgm,Bar.has,h,h2,this]
  ·have : ¬((r:Int)<(b.s:Int)+b.n):=by omega
   simp [jn,jb,zV,jB,zgm,Bar.has,h,h2,this]
 ·simp [jn,jb,zV,jB,zgm,Bar.has,h]
theorem va{N:Nat}{A:Nat->Bar}(z : ∀j,j<N->(A j).s+(A j).n<=100)(I:N<=lim)(r:Nat) :
 qo [.lst ((zgj N).map λj=>jB wd (A j)),.int r]=some (.own (((zgj N).filter λj=>(A j).has r).map λj=>D.tup (zA (wd r) ((A j).v r)))):=by
 simp only [qo,jb,zV,YR,yc,kS,qL,zgO,List.map_nil,zg2,zhW,zgm,zjb,zjM,List.nil_append,zgA,xy,js,zg3,zgq,zgH,zhz,I,if_true];rw [zP (λj=>(A j).has r) (λj=>D.tup (zA (wd r) ((A j).v r))) (zgj N) λj J=>⟨_,rfl,?_,λS=>?_⟩]
 ·rfl
 ·have e:=qW (wd:=wd) (z j (zgl.mp J)) r
  simp [z4,e]
 ·obtain⟨h1,h2⟩:=has_iff.mp S
  obtain⟨i,rfl⟩:=Nat.exists_eq_add_of_le h1;have hi:i<(A j).n:=by omega
  have e1:(((A j).s+i:Nat):Int) - ((A j).s:Int)=(i:Int):=by omega
  have O:=Qw (wd:=wd) hi;have I:=jf;have U:=z j (zgl.mp J);simp [z4,jB,hi,O];rw [show((A j).s:Int)+(i:Int) - ((A j).s:Int)=(i:Int)by omega,j4,if_pos hi];exact O
theorem wr{q h:Nat}(g:Nat->Vc)(z:q<=lim)(I:h<=lim):xE [.int h,.lst (zL q h g)]=some (.val (j5 h q λi j=>g j i)):=by
 have e:=kU (h:=q) (w:=h) g z I;unfold j5 at e;simp [xE,jb,zV,zgm,z,e];rfl
theorem VR(h:Nat)(u:Nat->Vc)(L:List Nat):(L.map λj=>D.tup (zA h (u j)))=zL L.length h λi=>u (L.getD i 0):=by
 unfold zL
 conv=>lhs;rw [<- jR 0 L]
 rw [zhf];rfl
theorem VQ(u:Nat->Int)(L:List Nat):(L.map λj=>D.int (u j))=zA L.length λi=>u (L.getD i 0):=by
 unfold zA
 conv=>lhs;rw [<- jR 0 L]
 rw [zhf];rfl
theorem xG(P:Nat->Bool)(g:Nat->Int) : ∀N,sumTo (λi=>g (((zgj N).filter P).getD i 0)) ((zgj N).filter P).length=sumTo (λj=>if P j=true then g j else 0) N
 | 0=>rfl
 | N+1=>by
  have z:=xG P g N;rw [zhi,ziQ];show _=sumTo _ N+_;rw [<- z];cases hP:P N with
  | false=>simp [hP]
  | true=>
   have e:([N].filter P)=[N]:=by simp [hP]
   rw [e,zhq,ziB];show sumTo _ _+_=_;simp only [if_true];congr 1
   ·refine zy λi hi=>?_
    simp [zgr,zhl hi]
   ·simp [zgr,hP]
end
section
variable{wd:Nat->Nat}{N m:Nat}{A:Nat->Bar}{p:Int}{w:Nat->Bool}{T:Nat->Nat->Nat->Int}{t:Vc}
theorem Y2:vH (zA N t) ((zgj N).map λj=>jB wd (A j))=(zgj N).map λj=>D.tup [.int (t j),jB wd (A j)]:=by
 unfold vH zA;rw [List.zip_map,zhf];have e:(zgj N).zip (zgj N)=(zgj N).map λi=>(i,i):=by
  rw [List.zip_eq_zipWith,List.zipWith_self]
 rw [e,zhf];rfl
theorem wV(O:Pr p)(S : ∀j,j<N->(A j).s+(A j).n<=100)(hN:N<=60)(hm:m<=5)(U : ∀k,wd k<=60){r:Nat}(hr:r<=m)(Y : ∀j i,j<N->(A j).has r=true->i<wd r->0<=(A j).v r i/\(A j).v r i<p) :
 xC [qe p m w wd T,.lst ((zgj N).map λj=>jB wd (A j)),.tup (zA N t),.int r]=some (.val (.tup (zA (wd r) (mxV p A N t r)))):=by
 have hl:=jf;have p7:=O.le;have a9:=U r;have e1:=va (wd:=wd) S (show N<=lim by omega) r;rw [VR (wd r) (λj=>(A j).v r)]at e1;have hq:((zgj N).filter λj=>(A j).has r).length<=N:=by
  have:=zi9 (λj=>(A j).has r) (zgj N);simpa using this
 have Z:=wr (q:=((zgj N).filter λj=>(A j).has r).length) (h:=wd r) (λi=>(A (((zgj N).filter λj=>(A j).has r).getD i 0)).v r) ⋯ ⋯;have I:=Zn (p:=p) (h:=wd r) (w:=((zgj N).filter λj=>(A j).has r).length) .L (λi j=>(A (((zgj N).filter λj=>(A j).has r).getD j 0)).v r i) (λi=>t (((zgj N).filter λj=>(A j).has r).getD i 0)) O.pos ⋯ ⋯ (λi j hi J=>by
  have a0:((zgj N).filter λj=>(A j).has r).getD j 0∈(zgj N).filter λj=>(A j).has r:=by
   rw [zgr,zgn J];exact zh6 _
  obtain⟨h1,h2⟩:=zgC.mp a0;have:=Y _ i (zgl.mp h1) (by simpa using h2) hi;omega)
 have e4:(zA (wd r) λi=>sumTo (λj=>(A (((zgj N).filter λj=>(A j).has r).getD j 0)).v r i*t (((zgj N).filter λj=>(A j).has r).getD j 0)) ((zgj N).filter λj=>(A j).has r).length%p)=zA (wd r) (mxV p A N t r):=kH λi _=>by
  unfold mxV;rw [xG (λj=>(A j).has r) (λj=>(A j).v r i*t j) N];congr 1;refine zy λj _=>?_;rw [zhH]
 rw [e4]at I;have e5:zG (.tp [0,1]) (sB (zw jn (za (zc 1) (za (zc 2) zu)))) (zc 0) [.no,.no,.val (.int r)] ((zgj N).map λj=>D.tup [.int (t j),jB wd (A j)])=some (zA ((zgj N).filter λj=>(A j).has r).length λi=>t (((zgj N).filter λj=>(A j).has r).getD i 0)):=by
  rw [<- VQ];refine zP (λj=>(A j).has r) (λj=>D.int (t j)) _ λj J=>⟨_,rfl,?_,λ_=>rfl⟩;have e:=qW (wd:=wd) (S j (zgl.mp J)) r;simp [e]
 have a3:r<m+1:=by omega
 have z:=Y2 (N:=N) (wd:=wd) (t:=t) (A:=A);simp only [dsq]at I;have a4:N<=lim:=by omega
 refine jN (zD (γ':=[.val (qe p m w wd T),.val (.lst ((zgj N).map λj=>jB wd (A j))),.val (.tup (zA N t)),.val (.int r),.val (.lst (zA ((zgj N).filter λj=>(A j).has r).length λi=>t (((zgj N).filter λj=>(A j).has r).getD i 0)))]) ?_ ?_)
 ·simp [-zgr,zV,z4,zgm,z,e5,a4]
 ·simp [-zgr,qe,e1,Z,I,a3]
theorem VN(O:Pr p)(I : ∀j,j<N->(A j).s+(A j).n<=m+1)(S:N<=60)(hm:m<=5)(U : ∀k,wd k<=60)(Y : ∀j r i,j<N->(A j).has r=true->i<wd r->0<=(A j).v r i/\(A j).v r i<p){a:Nat}(ha:a<N)(Z : ∀i,i<a->t i=0)(t1:t a≠0) :
 Zm [qe p m w wd T,.lst ((zgj N).map λj=>jB wd (A j)),.tup (zA N t)]=some (.val (jB wd (mxB p A N t a))):=by
 have hl:=jf;have a1:N<=lim:=by omega
 have e0:=xD a1 t ha Z t1;have a9:=I a ha;have e1:zG (.nm 0) z6 (zw xC (za (zc 1) (za (zc 2) (za (zc 3) (za (zm jo (sIx (zf 4) (zh (.int 0))) (zc 0)) zu))))) [.no,.val (qe p m w wd T),.val (.lst ((zgj N).map λj=>jB wd (A j))),.val (.tup (zA N t)),.val (jB wd (A a))] ((zgj (A a).n).map λ(i:Nat)=>D.int i)=some (qD wd (mxB p A N t a)):=by
  unfold qD;refine zo _ _ λi hi=>zq rfl rfl ?_;have hi:=zgl.mp hi;have e:=wV (T:=T) (w:=w) (t:=t) O (λj z=>by have:=I j z;omega) S hm U (r:=(A a).s+i) (by have:i<(A a).n:=hi;omega) λj c z hh hc=>Y j _ c z hh hc;have e2:(((A a).s+i:Nat):Int)=((A a).s:Int)+(i:Int):=by omega
  rw [e2]at e;have i0:inR (((A a).s:Int)+(i:Int))=true:=decide_eq_true (by have:i<(A a).n:=hi;omega);simp [e];rfl
 have hn:(A a).n<=lim:=by omega
 have i1:inR ((A a).n:Int)=true:=decide_eq_true ⋯;refine jN (zD (γ':=[.val (qe p m w wd T),.val (.lst ((zgj N).map λj=>jB wd (A j))),.val (.tup (zA N t)),.val (jB wd (A a)),.no]) ?_ (zD (γ':=[.val (qe p m w wd T),.val (.lst ((zgj N).map λj=>jB wd (A j))),.val (.tup (zA N t)),.val (jB wd (A a)),.val (.lst (qD wd (mxB p A N t a)))]) ?_ ?_))
 ·simp [zV,zgm,e0,ha]
 ·have J:=e1
  rw [show((zgj (A a).n).map λ(i:Nat)=>D.int i)=zA (A a).n λi=>(i:Int)from rfl]at J;simp [z4,jv,i1,hn,J]
 ·have a7:(mxB p A N t a).n<=lim:=hn
  simp [Xr,a7];rfl
end
def b1:CO Fl:=(sIf (qN (sB (zw wy (za (zc 1) zu)))) ZA jP)
def b2:CO Fl:=(zO 3 (zm jo (Js (zc 1)) (zh (.int 1))))
def b3:CO Fl:=(sIf (qN (sB (zaC (jh (zC (zB (zf 2)) (.nm 0) 1 [3] z6 (zw yj (za (zc 1) (za (zc 0) zu)))))))) ZA jP)
def b4:CO Fl:=(zO 4 (ja (WI (zf 2))))
def b5:CO Fl:=(zO 5 (ja (zC (zY (zc 3)) (.nm 0) 1 [4] z6 (ja (zQ YZ (za (zc 1) (za (zc 0) zu)))))))
def b6:CO Fl:=(zO 6 (zM (jh (zC (zB (zf 5)) (.nm 0) 1 [] z6 (xV (zf 0))))))
def b7:CO Fl:=(sIf (sB (zm dGt (zay (zf 6)) (zh (.int 30)))) ZA jP)
def b8:CO Fl:=(zO 7 (ja (zC (ye (zc 1)) (.tp [0,1]) 2 [5] z6 (ju (za (zc 1) (za (zw J4 (za (sIx (zf 2) (zw Wx (za (zc 0) (za (zc 1) zu)))) (za (sIx (zf 2) (zw vT (za (zc 0) (za (zc 1) zu)))) zu))) zu))))))
def x1:CO Xn:=(xIf (qN (sB (zw wy (za (zc 1) zu)))) (zec "NoRow") xNo)
def x3:CO Xn:=(xIf (qN (sB (zaC (jh (zC (zB (zf 2)) (.nm 0) 1 [3] z6 (zw yj (za (zc 1) (za (zc 0) zu)))))))) (zec "NoRow") xNo)
def x7:CO Xn:=(xIf (sB (zm dGt (zay (zf 6)) (zh (.int 30)))) (zec "TooMany") xNo)
def zcd(m:Nat)(bs:List (Int×Int)):List D:=(zgj (m+1)).map λ(r:Nat)=>D.lst (zeK (WS bs r))
def zaf(m:Nat)(bs:List (Int×Int)):List D:=zA (m+1) λr=>((WS bs r).length:Int)
section
variable{p:Int}{m:Nat}{w:Nat->Bool}{bs:List (Int×Int)}
abbrev g0(p:Int)(z:Str)(bs:List (Int×Int)):Ctx:=[.val (.int p),.val (.str z),.val (.lst (XM bs)),.no,.no,.no,.no,.no]
abbrev g2(p:Int)(z:Str)(m:Nat)(bs:List (Int×Int)):Ctx:=[.val (.int p),.val (.str z),.val (.lst (XM bs)),.val (.int ((m+1:Nat):Int)),.no,.no,.no,.no]
abbrev g6(p:Int)(z:Str)(m:Nat)(bs:List (Int×Int)):Ctx:=[.val (.int p),.val (.str z),.val (.lst (XM bs)),.val (.int ((m+1:Nat):Int)),.val (.lst (XM (zao bs))),.val (.lst (zcd m (zao bs))),.val (.tup (zaf m (zao bs))),.no]
end
def rnd(n:Nat)(ks:List Nat)(u:Nat->Int):Nat->Int:=ks.foldl (λu k=>mv n k u) u
def sw(k i:Nat):Nat:=if i=k then k+1 else if i=k+1 then k else i
def itr(n:Nat)(ks:List Nat)(u:Nat->Int):Nat->Nat->Int
 | 0=>u
 | j+1=>rnd n ks (itr n ks u j)
def acc(n:Nat)(ks:List Nat)(u:Nat->Int):Nat->Nat->Int
 | 0=>λ_=>0
 | j+1=>λi=>acc n ks u j i+itr n ks u j i
theorem w6(b:Bool):dEq (.str (qO (wch b))) (.str "r")=some (.bl (!b)):=by cases b<;>kernel_rfl
section
variable{wd:Nat->Nat}{N m k r:Nat}{A:Nat->Bar}{p:Int}{w:Nat->Bool}{T:Nat->Nat->Nat->Int}{B:Nat->Vc}{l:Nat->Nat}
theorem QF(l:Nat->Nat)(g:Nat->D)(i:Nat) : ∀(L:List Nat),zbK (L.map λj=>D.int ((l j:Nat):Int)) (L.map g) (i:Int)=(L.find? λj=>l j==i).map g
 | []=>rfl
 | j::L=>by
  have z:=QF l g i L;simp only [zgO,zbK,List.find?_cons];by_cases h:l j=i
  ·simp [h]
  ·have h2 : ¬((l j:Nat):Int)=(i:Int):=by omega
   rw [if_neg h2,z];have:(l j==i)=false:=by simpa using h
   rw [this]
theorem ZW(l:Nat->Nat) : ∀L:List Nat,Xx (L.map λj=>D.int ((l j:Nat):Int))=some (L.map λj=>((l j:Nat):Int))
 | []=>rfl
 | j::L=>by simp [Xx,ZW l L]
theorem Xu(z:IsB p N r B l)(I:r<=lim):We ((zgj r).map λj=>D.int ((l j:Nat):Int)) ((zgj r).map λj=>D.tup (zA N (B j)))=some (.dic ((zgj r).map λj=>D.int ((l j:Nat):Int)) ((zgj r).map λj=>D.tup (zA N (B j)))):=by
 unfold We;rw [ZW];dsimp only;rw [if_pos];refine⟨by simp,?_,by simpa using I⟩;rw [List.nodup_iff_pairwise_ne,ziw];refine ziE (λ{a b} ha J h=>?_) (ziv (n:=r));have:=z.mono a b h (zgl.mp J);omega
theorem Zs(f g:Nat->D) : ∀L:List Nat,xj (L.map λj=>D.tup [f j,g j])=some (L.map f,L.map g)
 | []=>rfl
 | j::L=>by simp [xj,Zs f g L]
theorem vq(h:k<(qR m w wd T).length):(qR m w wd T)[k]=qM w wd T k:=by simp [qR]
theorem qH(w wd T k):js (qM w wd T k)=some (.T,[.str (qO (wch (w k))),j5 (hiW w wd k) (wiW w wd k) (T k)]):=rfl
theorem JP:j9 ((zgj N).map λj=>jB wd (A j))=(zgj N).map λ(i:Nat)=>D.tup [.int i,jB wd (A i)]:=by
 unfold j9;simp only [zgH,zhz];refine zgD λi hi=>?_;have hi:=zgl.mp hi;simp [hi]
def Spec(p:Int)(w:Nat->Bool)(wd:Nat->Nat)(T:Nat->Nat->Nat->Int)(k:Nat)(u:Vc):Prop:=if w k=true then Span p (wd k) (Fam (wd (k+1)) λj i=>T k i j) u else Ker p (wd (k+1)) (wd k) (T k) u
theorem Q6(O:Pr p)(S : ∀k,wd k<=8)(w)(T)(k:Nat) : ∃q g,q<=100/\(∀u,Span p (wd k) (Fam q g) u↔Spec p w wd T k u)/\
 (if w k=true then kg [.int p,j5 (hiW w wd k) (wiW w wd k) (T k)]=some (.own (zL q (wd k) g))else xc [.int p,j5 (hiW w wd k) (wiW w wd k) (T k)]=some (.own (zL q (wd k) g))):=by
 have hl:=jf;have U:=S k;have a2:=S (k+1);have Y : ∀{r n:Nat} {B:Nat->Vc} {l:Nat->Nat},IsB p n r B l->r<=n:=λ{r n B l} z=>by
  have mono : ∀k,k<r->k<=l k:=by
   intro k
   induction k with
   | zero=>intro _;omega
   | succ k ih=>intro U;have:=ih ⋯;have:=z.mono k (k+1) ⋯ U;omega
  cases r with
  | zero=>omega
  | succ Z=>have:=mono Z ⋯;have:=z.lt Z ⋯;omega
 cases hw:w k with
 | true=>
  have e1:hiW w wd k=wd k:=by unfold hiW;rw [hw];rfl
  have I:wiW w wd k=wd (k+1):=by unfold wiW;rw [hw];rfl
  obtain⟨r,B,l,e,z,J⟩:=ww O (h:=wd k) (w:=wd (k+1)) ⋯ ⋯ (T k);refine⟨r,B,by have:=Y z;omega,λu=>by unfold Spec;rw [hw,if_pos rfl];exact J u,?_⟩;rw [if_pos rfl,e1,I];exact e
 | false=>
  have e1:hiW w wd k=wd (k+1):=by unfold hiW;rw [hw];rfl
  have I:wiW w wd k=wd k:=by unfold wiW;rw [hw];rfl
  obtain⟨q,K,l,s,e,z,J,_⟩:=qc O (h:=wd (k+1)) (w:=wd k) ⋯ ⋯ (T k);refine⟨q,K,by have:=Y z;omega,λu=>by unfold Spec;rw [hw,if_neg ⋯];exact J u,?_⟩;rw [if_neg ⋯,e1,I];exact e
def sd1:CO Fl:=(zO 3 (sIx (zz (sIx (zz (sIx (zf 0) (zh (.int 2)))) (zc 1))) (zh (.int 0))))
def sd2:CO Fl:=(zO 4 (sIx (zz (sIx (zz (sIx (zf 0) (zh (.int 2)))) (zc 1))) (zh (.int 1))))
def sd3:CO Fl:=(zO 5 (ZB (sB (zm dEq (zc 3) (zh (.str "r")))) (ja (zQ xc (za (sIx (zf 0) (zh (.int 0))) (za (zc 4) zu)))) (ja (zQ kg (za (sIx (zf 0) (zh (.int 0))) (za (zc 4) zu))))))
def sd4:CO Fl:=(zO 6 (ja (zQ F_led_into (za (sIx (zf 0) (zh (.int 0))) (za (zw xE (za (sIx (zz (sIx (zf 0) (zh (.int 1)))) (zc 1)) (za (ja (zQ qo (za (zc 2) (za (zc 1) zu)))) zu))) (za (zc 5) zu))))))
def sd5:CO Fl:=(zO 7 (Kl (zC (zB (zf 6)) (.nm 0) 1 [] z6 (ju (za (zw jJ (za (zc 0) zu)) (za (zc 0) zu))))))
def sd6:CO Fl:=(qy (zC (Qe (zc 2)) (.tp [0,1]) 2 [0,2,7] z6 (ZB (sB (zcb (zc 0) (zc 4))) (zw Zm (za (zc 2) (za (zc 3) (za (zdH (zc 4) (zc 0)) zu)))) (zc 1))))
theorem Jp:kT=jb 8 (zF sd1 (zF sd2 (zF sd3 (zF sd4 (zF sd5 sd6))))):=rfl
theorem Q9(U:Pr p)(hb : ∀j,j<N->(A j).s+(A j).n<=m+1)(Y : ∀j,j<N->(A j).has k=true)(a2:k<m)(hN:N<=8)(hm:m<=5)(Z : ∀k,wd k<=8)(hv : ∀j r i,j<N->(A j).has r=true->i<wd r->0<=(A j).v r i/\(A j).v r i<p) :
 ∃r B l,IsB p N r B l/\(∀t,Span p N (Fam r B) t↔Spec p w wd T k (app (λi j=>(A j).v k i) N t))/\
  kT [qe p m w wd T,.int k,.lst ((zgj N).map λj=>jB wd (A j))]=some (.own ((zgj N).map λi=>jB wd (stB p A N r B l i))):=by
 have hl:=jf;obtain⟨q,g,hq,a8,O⟩:=Q6 U Z w T k;have am:=Z k;obtain⟨r,B,l,e1,z,hs⟩:=kW U (h:=wd k) (w:=N) (q:=q) ⋯ ⋯ hq (λi j=>(A j).v k i) g;refine⟨r,B,l,z,λt=>(hs t).trans (a8 _),?_⟩;have S:N<=lim:=by omega
 have aa:k<m+1:=by omega
 have rN:r<=N:=by
  have mono : ∀k,k<r->k<=l k:=by
   intro k
   induction k with
   | zero=>intro _;omega
   | succ k ih=>intro Y;have:=ih ⋯;have:=z.mono k (k+1) ⋯ Y;omega
  cases r with
  | zero=>omega
  | succ a3=>have:=mono a3 ⋯;have:=z.lt a3 ⋯;omega
 have a4:r<=lim:=by omega
 have e2:=va (wd:=wd) (A:=A) (N:=N) (λj I=>by have:=hb j I;omega) S k;have ef:((zgj N).filter λj=>(A j).has k)=zgj N:=List.filter_eq_self.mpr λj I=>Y j (zgl.mp I);rw [ef]at e2;have e3:=wr (q:=N) (h:=wd k) (λj=>(A j).v k) S ⋯;have ae:qo [.lst ((zgj N).map λj=>jB wd (A j)),.int k]=some (.own (zL N (wd k) λj=>(A j).v k)):=e2;have e4:zG (.nm 0) z6 (ju (za (zw jJ (za (zc 0) zu)) (za (zc 0) zu))) [.no] (zL r N B)=some ((zgj r).map λj=>D.tup [.int ((l j:Nat):Int),.tup (zA N (B j))]):=by
  unfold zL;refine zo _ _ λj I=>zq rfl rfl ?_;have I:=zgl.mp I;have e:=xD S (B j) (z.lt j I) (λi hi=>z.bef j i I hi) (by rw [z.one j I];decide);simp [e]
 have e5:=Xu z a4;have e6:=Zs (λj=>D.int ((l j:Nat):Int)) (λj=>D.tup (zA N (B j))) (zgj r);let ds:D:= .dic ((zgj r).map λj=>D.int ((l j:Nat):Int)) ((zgj r).map λj=>D.tup (zA N (B j)));let L:D:= .lst ((zgj N).map λj=>jB wd (A j));have e7:zG (.tp [0,1]) z6 (ZB (sB (zcb (zc 0) (zc 4))) (zw Zm (za (zc 2) (za (zc 3) (za (zdH (zc 4) (zc 0)) zu)))) (zc 1)) [.no,.no,.val (qe p m w wd T),.val L,.val ds] ((zgj N).map λ(i:Nat)=>D.tup [.int i,jB wd (A i)])=some ((zgj N).map λi=>jB wd (stB p A N r B l i)):=by
  refine zo _ _ λi hi=>zq rfl rfl ?_;have hi:=zgl.mp hi;have J:=QF l (λj=>D.tup (zA N (B j))) i (zgj r);have aj:(zgj r).find? (λj=>l j==i)=ldx r l i:=rfl;rw [aj]at J;unfold stB;cases hx:ldx r l i with
  | none=>
   rw [hx]at J;simp [ds,zcb,J]
  | some j=>
   rw [hx]at J;obtain⟨h1,h2⟩:=qg hx;have e:=VN (T:=T) (w:=w) (t:=B j) U hb ⋯ hm (λk=>by have:=Z k;omega) hv (a:=i) hi (λc hc=>z.bef j c h1 ⋯) (by rw [<- h2,z.one j h1];decide);simp [ds,zcb,zdH,J,L,e]
 rw [Jp];refine jN (zD (γ':=[.val (qe p m w wd T),.val (.int k),.val L,.val (.str (qO (wch (w k)))),.no,.no,.no,.no]) ?_
  (zD (γ':=[.val (qe p m w wd T),.val (.int k),.val L,.val (.str (qO (wch (w k)))),.val (j5 (hiW w wd k) (wiW w wd k) (T k)),.no,.no,.no]) ?_
  (zD (γ':=[.val (qe p m w wd T),.val (.int k),.val L,.val (.str (qO (wch (w k)))),.val (j5 (hiW w wd k) (wiW w wd k) (T k)),.val (.lst (zL q (wd k) g)),.no,.no]) ?_
  (zD (γ':=[.val (qe p m w wd T),.val (.int k),.val L,.val (.str (qO (wch (w k)))),.val (j5 (hiW w wd k) (wiW w wd k) (T k)),.val (.lst (zL q (wd k) g)),.val (.lst (zL r N B)),.no]) ?_
  (zD (γ':=[.val (qe p m w wd T),.val (.int k),.val L,.val (.str (qO (wch (w k)))),.val (j5 (hiW w wd k) (wiW w wd k) (T k)),.val (.lst (zL q (wd k) g)),.val (.lst (zL r N B)),.val ds]) ?_ ?_)))))
 ·simp [sd1,zV,zgm,qA,qH,vq,a2];rfl
 ·simp [sd2,qA,qH,vq,a2]
 ·cases hw:w k with
  | true=>
   rw [hw,if_pos rfl]at O;have eq:=w6 true;simp [sd3,qA,eq,O]
  | false=>
   rw [hw,if_neg ⋯]at O;have eq:=w6 false;simp [sd3,qA,eq,O]
 ·simp [sd4,qA,aa,L,ae,e3,e1]
 ·simp [sd5,z4,e4,a4,e6,e5];rfl
 ·simp [sd6,z4,L,JP,S,e7]
end
def oD(n:Nat):Option Vc->D
 | none=> .non
 | some y=> .tup (zA n y)
theorem Q8{p:Int}(O:Pr p){h w:Nat}(S:h<=90)(hw:w<=90)(f:Nat->Nat->Int)(b:Vc)(J : ∀i,i<h->0<=b i/\b i<p) :
 ∃o:Option Vc,xP [.int p,j5 h w f,.tup (zA h b)]=some (.val (oD w o))/\(∀x,o=some x->(∀j,0<=x j/\x j<p)/\∀i,i<h->app f w x i%p=b i%p)/\(o=none->¬∃y:Vc,∀i,i<h->app f w y i%p=b i%p):=by
 have U : ∀i,i<h->b i%p=b i:=λi hi=>zhG (J i hi).1 (J i hi).2;by_cases I : ∃y:Vc,∀i,i<h->app f w y i%p=b i%p
 ·obtain⟨y,I⟩:=I
  obtain⟨x,e,h1,h2⟩:=Vg O S hw f b y J λi hi=>by rw [<- U i hi,<- I i hi];rfl
  refine⟨some x,e,λx' e'=>?_,λz=>by cases z⟩;cases e';exact⟨h1,λi hi=>by rw [U i hi];exact h2 i hi⟩
 ·obtain⟨r,B,l,s,hb,a3,hs,s1,s2,Y⟩:=vz O S hw f b
  have Z:s<r:=by
   refine zg7 λZ=>I ?_;have er:s=r:=by omega
   subst er;refine⟨JX w B l s,λi hi=>?_⟩;have co:=ya hb ((a3 (aug w f b i)).mpr (.gen ⟨i,hi,rfl⟩)) w ⋯;have a5:aug w f b i w=b i:=by simp [aug]
   rw [a5]at co;rw [co];congr 1;unfold app JX;rw [zy (g:=λj=>sumTo (λk=>f i j*(if l k=j then B k w else 0)) s) λj _=>(jK _ _ _).symm,xH];refine zy λk hk=>?_;rw [je (i:=l k) (s1 k hk) λj hj a6=>by rw [if_neg (zht a6)];simp,if_pos rfl];simp only [aug,if_pos (s1 k hk)]
  rw [if_pos Z]at Y;exact⟨none,Y,nofun,λ_=>I⟩
section
variable{wd:Nat->Nat}{m k:Nat}{p:Int}{w:Nat->Bool}{T:Nat->Nat->Nat->Int}
def nl1:CO Fl:=(sIf (sB (zm dEq (sIx (zf 1) (zh (.int 0))) (zh (.str "l")))) (jO (zw xP (za (zc 0) (za (sIx (zf 1) (zh (.int 1))) (za (zc 2) zu))))) jP)
def nl2:CO Fl:=(zO 3 (zw F_led (za (zc 0) (za (sIx (zf 1) (zh (.int 1))) (za (zc 2) zu)))))
def nl3:CO Fl:=(jO (ZB (sB (WJ (zf 3))) (zc 3) (zh .non)))
theorem VL:qb=jb 4 (zF nl1 (zF nl2 nl3)):=rfl
theorem w9(b:Bool):dEq (.str (qO (wch b))) (.str "l")=some (.bl b):=by cases b<;>kernel_rfl
theorem ZP(I:Pr p)(a1 : ∀k,wd k<=8)(hT : ∀i j,i<hiW w wd k->j<wiW w wd k->0<=T k i j/\T k i j<p)(u:Vc)(hu : ∀i,i<wd k->0<=u i/\u i<p) :
 ∃o:Option Vc,qb [.int p,qM w wd T k,.tup (zA (wd k) u)]=some (.val (oD (wd (k+1)) o))/\(∀y,o=some y->∀c,c<wd (k+1)->0<=y c/\y c<p)/\
  (w k=false->(o=none->∀c,c<wd (k+1)->app (T k) (wd k) u c%p=0)/\∀y,o=some y->(∀c,c<wd (k+1)->app (T k) (wd k) u c%p=y c%p)/\∃c,c<wd (k+1)/\y c%p≠0)/\
  (w k=true->(o=none->¬∃y:Vc,∀c,c<wd k->app (T k) (wd (k+1)) y c%p=u c%p)/\∀y,o=some y->∀c,c<wd k->app (T k) (wd (k+1)) y c%p=u c%p):=by
 have hl:=jf;have p7:=I.le;have hk:=a1 k;have a9:=a1 (k+1);rw [VL];cases hw:w k with
 | true=>
  have e1:hiW w wd k=wd k:=by unfold hiW;rw [hw];rfl
  have J:wiW w wd k=wd (k+1):=by unfold wiW;rw [hw];rfl
  obtain⟨o,eo,h1,h2⟩:=Q8 I (h:=wd k) (w:=wd (k+1)) ⋯ ⋯ (T k) u hu;refine⟨o,?_,λy e c _=>(h1 y e).1 c,nofun,λ_=>⟨h2,λy e=>(h1 y e).2⟩⟩;refine jN ?_;have O:=w9 true;have es:nl1 (zV 4 [.int p,qM w wd T k,.tup (zA (wd k) u)])=some (.ret (.val (oD (wd (k+1)) o))):=by
   simp [nl1,zV,zgm,qH,hw,O,e1,J,eo]
  rw [zN,es];rfl
 | false=>
  have e1:hiW w wd k=wd (k+1):=by unfold hiW;rw [hw];rfl
  have J:wiW w wd k=wd k:=by unfold wiW;rw [hw];rfl
  rw [e1,J]at hT;have U:=Zn (p:=p) (h:=wd (k+1)) (w:=wd k) .T (T k) u I.pos ⋯ ⋯ λi j hi hj=>by have:=hT i j hi hj;omega
  simp only [dsq]at U;have O:=w9 false;have tv:=Qa (λi=>sumTo (λj=>T k i j*u j) (wd k)%p) (wd (k+1));by_cases S : ∃c,c<wd (k+1)/\sumTo (λj=>T k c j*u j) (wd k)%p≠0
  ·refine⟨some λi=>sumTo (λj=>T k i j*u j) (wd k)%p,?_,(λy e c _=>by cases e;exact⟨zhd _ (by have:=I.pos;omega),zgV _ I.pos⟩),λ_=>⟨nofun,(λy e=>by cases e;exact⟨(λc _=>by rw [zgT];rfl),(by obtain⟨c,h1,h2⟩:=S;exact⟨c,h1,(by rw [zgT];exact h2)⟩)⟩)⟩,nofun⟩
   refine jN (zD (γ':=[.val (.int p),.val (qM w wd T k),.val (.tup (zA (wd k) u)),.no]) ?_ (zD (γ':=[.val (.int p),.val (qM w wd T k),.val (.tup (zA (wd k) u)),.val (.tup (zA (wd (k+1)) λi=>sumTo (λj=>T k i j*u j) (wd k)%p))]) ?_ ?_))
   ·simp [nl1,zV,zgm,qH,hw,O]
   ·simp [nl2,qH,e1,J,U]
   ·have Y:(zgj (wd (k+1))).any (λi=>(sumTo (λj=>T k i j*u j) (wd k)%p) != 0)=true:=by
     obtain⟨c,h1,h2⟩:=S;exact List.any_eq_true.mpr ⟨c,zgl.mpr h1,by simpa using h2⟩
    have Z:WJ (zf 3) [.val (.int p),.val (qM w wd T k),.val (.tup (zA (wd k) u)),.val (.tup (zA (wd (k+1)) λi=>sumTo (λj=>T k i j*u j) (wd k)%p))]=some (.bl true):=by
     show((kY _).map λs=>D.bl (s.any id))=_;rw [tv];show some (D.bl (((zgj (wd (k+1))).map λi=>(sumTo (λj=>T k i j*u j) (wd k)%p) != 0).any id))=_;rw [List.any_map];rw [show(id∘λi=>(sumTo (λj=>T k i j*u j) (wd k)%p) != 0)=λi=>(sumTo (λj=>T k i j*u j) (wd k)%p) != 0 from rfl,Y]
    unfold nl3;simp only [W6,W7,zfP,Z];rfl
  ·refine⟨none,?_,nofun,λ_=>⟨λ_ c hc=>zg7 λz=>S ⟨c,hc,z⟩,nofun⟩,nofun⟩
   refine jN (zD (γ':=[.val (.int p),.val (qM w wd T k),.val (.tup (zA (wd k) u)),.no]) ?_ (zD (γ':=[.val (.int p),.val (qM w wd T k),.val (.tup (zA (wd k) u)),.val (.tup (zA (wd (k+1)) λi=>sumTo (λj=>T k i j*u j) (wd k)%p))]) ?_ ?_))
   ·simp [nl1,zV,zgm,qH,hw,O]
   ·simp [nl2,qH,e1,J,U]
   ·have Y:(zgj (wd (k+1))).any (λi=>(sumTo (λj=>T k i j*u j) (wd k)%p) != 0)=false:=List.any_eq_false.mpr λc hc z=>S ⟨c,zgl.mp hc,by simpa using z⟩
    have Z:WJ (zf 3) [.val (.int p),.val (qM w wd T k),.val (.tup (zA (wd k) u)),.val (.tup (zA (wd (k+1)) λi=>sumTo (λj=>T k i j*u j) (wd k)%p))]=some (.bl false):=by
     show((kY _).map λs=>D.bl (s.any id))=_;rw [tv];show some (D.bl (((zgj (wd (k+1))).map λi=>(sumTo (λj=>T k i j*u j) (wd k)%p) != 0).any id))=_;rw [List.any_map];rw [show(id∘λi=>(sumTo (λj=>T k i j*u j) (wd k)%p) != 0)=λi=>(sumTo (λj=>T k i j*u j) (wd k)%p) != 0 from rfl,Y]
    unfold nl3;simp only [W6,W7,zfP,Z];rfl
end
section
variable{wd:Nat->Nat}{m k:Nat}{p:Int}{w:Nat->Bool}{T:Nat->Nat->Nat->Int}
theorem VY{n:Nat}(h:1<=n):ixD n (-1)=some (n - 1):=by
 unfold ixD;rw [if_neg ⋯,if_pos ⋯];congr 1;omega
theorem KO{b:Bar}(z:b.s+b.n=k+1)(y:Vc):qD wd (exB k b (some y))=qD wd b++[D.tup (zA (wd (k+1)) y)]:=by
 unfold qD exB;dsimp only;rw [zhi,zg4];congr 1
 ·refine zgD λi hi=>?_
  have hi:=zgl.mp hi;rw [if_neg ⋯]
 ·simp [z]
def tk1:CO Fl:=(zO 3 (zw qb (za (zc 0) (za (zc 1) (za (sIx (zz (sIx (zf 2) (zh (.int 1)))) (zdG (zh (.int 1)))) zu)))))
def tk2:CO Fl:=(jO (ZB (sB (zm zd0 (zc 3) (zh .non))) (zc 2) (ju (za (sIx (zf 2) (zh (.int 0))) (za (zm jo (sIx (zf 2) (zh (.int 1))) (ju (za (zc 3) zu))) zu)))))
theorem X6:qS=jb 4 (zF tk1 tk2):=rfl
theorem Y9{b:Bar}(h1:1<=b.n)(I:b.s+b.n=k+1)(U:k<=20){o:Option Vc}(e:qb [.int p,qM w wd T k,.tup (zA (wd k) (b.v k))]=some (.val (oD (wd (k+1)) o))) :
 qS [.int p,qM w wd T k,jB wd b]=some (.val (jB wd (exB k b o))):=by
 have Y:=jf;have J:=VY h1;have z:=Qw (wd:=wd) (b:=b) (i:=b.n - 1) ⋯;rw [show b.s+(b.n - 1)=k by omega]at z;have Z:b.n - 1<b.n:=by omega
 rw [X6];refine jN (zD (γ':=[.val (.int p),.val (qM w wd T k),.val (jB wd b),.val (oD (wd (k+1)) o)]) ?_ ?_)
 ·unfold tk1
  have es:sIx (zz (sIx (zf 2) (zh (.int 1)))) (zdG (zh (.int 1))) (zV 4 [.int p,qM w wd T k,jB wd b])=some (.tup (zA (wd k) (b.v k))):=by
   have O : ∀γ:Ctx,zdG (zh (.int 1)) γ=some (.int (-1)):=λ_=>rfl;simp [zV,zgm,J,O];exact z
  simp only [Je,yd,xA,yh,es];simp [zV,zgm,e]
 ·cases o with
  | none=>simp [tk2,oD,zd0,exB]
  | some y=>
   have hn:b.n+1<=lim:=by omega
   have S:=KO (wd:=wd) I y;simp [tk2,oD,zd0,hn,jo];unfold jB;rw [S];rfl
def YV(p:Int)(w:Nat->Bool)(wd:Nat->Nat)(T:Nat->Nat->Nat->Int)(k:Nat)(L:List Vc):Prop:=
 if w k=true then ∃q K l s,L=(zgj q).map K/\IsB p (wd (k+1)) q K l/\(∀v,Span p (wd (k+1)) (Fam q K) v↔Ker p (wd k) (wd (k+1)) (T k) v)/\Rk p (wd k) (wd (k+1)) (λj i=>T k i j) s/\q+s=wd (k+1)
 else ∃r B l,IsB p (wd (k+1)) r B l/\(∀v,Span p (wd (k+1)) (Fam r B) v↔Span p (wd (k+1)) (Fam (wd k) λj i=>T k i j) v)/\L=((zgj (wd (k+1))).filter λ(c:Nat)=> !decide ((c:Int)∈(zgj r).map λj=>((l j:Nat):Int))).map jt
def nw1:CO Fl:=(sIf (sB (zm dEq (sIx (zf 1) (zh (.int 0))) (zh (.str "l")))) (qy (zQ xc (za (zc 0) (za (sIx (zf 1) (zh (.int 1))) zu)))) jP)
def nw2:CO Fl:=(zO 2 (ja (zC (zB (jh (zQ kg (za (zc 0) (za (sIx (zf 1) (zh (.int 1))) zu))))) (.nm 0) 1 [] z6 (zw jJ (za (zc 0) zu)))))
def nw3:CO Fl:=(qy (zC (wK (sIx (zz (zw F_same_table (za (sIx (zz (sIx (zf 1) (zh (.int 1)))) (zh (.int 0))) zu))) (zh (.int 2)))) (.tp [0,1]) 2 [2] (sB (wJ (zc 0) (zf 2))) (zc 1)))
theorem za3:qZ=jb 3 (zF nw1 (zF nw2 nw3)):=rfl
theorem wm(l:Nat->Nat) : ∀L:List Nat,K6 (L.map λj=>D.int ((l j:Nat):Int))=some (L.map λj=>((l j:Nat):Int))
 | []=>rfl
 | j::L=>by simp [K6,wm l L]
theorem k3{n r:Nat}{B:Nat->Vc}{l:Nat->Nat}(z:IsB p n r B l):r<=n:=by
 have mono : ∀k,k<r->k<=l k:=by
  intro k
  induction k with
  | zero=>intro _;omega
  | succ k J=>intro O;have:=J ⋯;have:=z.mono k (k+1) ⋯ O;omega
 cases r with
 | zero=>omega
 | succ I=>have:=mono I ⋯;have:=z.lt I ⋯;omega
theorem Yj(n:Nat):j9 (zL n n λi j=>if i=j then 1 else 0)=(zgj n).map λ(i:Nat)=>D.tup [.int i,.tup (zA n (jt i))]:=by
 unfold j9 zL;simp only [zgH,zhz];refine zgD λi hi=>?_;have hi:=zgl.mp hi;simp [hi];rfl
theorem ZR(Y:Pr p)(Z : ∀k,wd k<=8) : ∃L:List Vc,YV p w wd T k L/\qZ [.int p,qM w wd T k]=some (.own (L.map λy=>D.tup (zA (wd (k+1)) y))):=by
 have hl:=jf;have hk:=Z k;have ae:=Z (k+1);rw [za3];unfold YV;cases hw:w k with
 | true=>
  have e1:hiW w wd k=wd k:=by unfold hiW;rw [hw];rfl
  have J:wiW w wd k=wd (k+1):=by unfold wiW;rw [hw];rfl
  obtain⟨q,K,l,s,e,z,O,hr,a4⟩:=qc Y (h:=wd k) (w:=wd (k+1)) ⋯ ⋯ (T k);refine⟨(zgj q).map K,by rw [if_pos rfl];exact⟨q,K,l,s,rfl,z,O,hr,a4⟩,jN ?_⟩;have S:=w9 true;have es:nw1 (zV 3 [.int p,qM w wd T k])=some (.ret (.own (zL q (wd (k+1)) K))):=by
   simp [nw1,zV,zgm,qH,hw,S,e1,J,e]
  rw [zN,es,zhf];rfl
 | false=>
  have e1:hiW w wd k=wd (k+1):=by unfold hiW;rw [hw];rfl
  have J:wiW w wd k=wd k:=by unfold wiW;rw [hw];rfl
  obtain⟨r,B,l,e,z,O⟩:=ww Y (h:=wd (k+1)) (w:=wd k) ⋯ ⋯ (T k);have rn:=k3 z;have a5:r<=lim:=by omega
  have U:wd (k+1)<=lim:=by omega
  refine⟨_,by rw [if_neg ⋯];exact⟨r,B,l,z,O,rfl⟩,?_⟩;have S:=w9 false;have e4:zG (.nm 0) z6 (zw jJ (za (zc 0) zu)) [.no] (zL r (wd (k+1)) B)=some ((zgj r).map λj=>D.int ((l j:Nat):Int)):=by
   unfold zL;refine zo _ _ λj I=>zq rfl rfl ?_;have I:=zgl.mp I;have e:=xD U (B j) (z.lt j I) (λi hi=>z.bef j i I hi) (by rw [z.one j I];decide);simp [e]
  have e5:zG (.tp [0,1]) (sB (wJ (zc 0) (zf 2))) (zc 1) [.no,.no,.val (.lst ((zgj r).map λj=>D.int ((l j:Nat):Int)))] ((zgj (wd (k+1))).map λ(i:Nat)=>D.tup [.int i,.tup (zA (wd (k+1)) (jt i))]) =
   some (((zgj (wd (k+1))).filter λ(c:Nat)=> !decide ((c:Int)∈(zgj r).map λj=>((l j:Nat):Int))).map λ(i:Nat)=>D.tup (zA (wd (k+1)) (jt i))):=by
   refine zP (λ(c:Nat)=> !decide ((c:Int)∈(zgj r).map λj=>((l j:Nat):Int))) (λ(i:Nat)=>D.tup (zA (wd (k+1)) (jt i))) _ λi hi=>⟨_,rfl,?_,λ_=>rfl⟩;have im:=wm l (zgj r);show(wJ (zc 0) (zf 2) [.val (.int i),_,.val (.lst ((zgj r).map λj=>D.int ((l j:Nat):Int)))]).bind asB=_;show((K6 ((zgj r).map λj=>D.int ((l j:Nat):Int))).map λl=>D.bl (!decide ((i:Int)∈l))).bind asB=_;rw [im];rfl
  have es:=xB (n:=wd (k+1)) U;refine jN (zD (γ':=[.val (.int p),.val (qM w wd T k),.no]) ?_ (zD (γ':=[.val (.int p),.val (qM w wd T k),.val (.lst ((zgj r).map λj=>D.int ((l j:Nat):Int)))]) ?_ ?_))
  ·simp [nw1,zV,zgm,qH,hw,S]
  ·simp [nw2,z4,qH,e1,J,e,a5,e4]
  ·have a1:js (j5 (hiW w wd k) (wiW w wd k) (T k))=some (.T,[.int (wd (k+1):Nat),.int (wd k:Nat),.tup (zL (wd (k+1)) (wd k) (T k))]):=by rw [e1,J];rfl
   have a2:js (j5 (wd (k+1)) (wd (k+1)) λi j=>if i=j then 1 else 0)=some (.T,[.int (wd (k+1):Nat),.int (wd (k+1):Nat),.tup (zL (wd (k+1)) (wd (k+1)) λi j=>if i=j then 1 else 0)]):=rfl;have a3:=Yj (wd (k+1));simp [nw3,z4,qH,a1,es,a2,a3,U];rw [e5];exact congrArg some (congrArg (zjP _) (zjC λc _=>by simp))
end
section
variable{wd:Nat->Nat}{m k r N:Nat}{p:Int}{w:Nat->Bool}{T:Nat->Nat->Nat->Int}{B:Nat->Vc}{l:Nat->Nat}{A:Nat->Bar}
theorem WY(I:IsB p N r B l){j:Nat}(z:j<r):ldx r l (l j)=some j:=by
 cases h:ldx r l (l j)with
 | none=>exact absurd rfl (yw h j z)
 | some i=>
  obtain⟨h1,h2⟩:=qg h;rw [Qu I.mono h1 z h2]
theorem JH{a b:List Nat}(ha:a.Nodup)(z:b.Nodup)(h : ∀x,x∈a↔x∈b):a.length=b.length:=((List.perm_ext_iff_of_nodup ha z).mpr h).length_eq
theorem Zc(z:IsB p N r B l):(zgj N).countP (λi=>(ldx r l i).isSome)=r:=by
 rw [zgY];have e:((zgj N).filter λi=>(ldx r l i).isSome).length=((zgj r).map l).length:=by
  refine JH (zjL.sublist ziK) ?_ λx=>?_
  ·rw [List.nodup_iff_pairwise_ne,ziw]
   refine ziE (λ{a b} ha I h=>?_) (ziv (n:=r));have:=z.mono a b h (zgl.mp I);omega
  ·rw [zgC,zg1]
   constructor
   ·rintro⟨h1,h2⟩
    obtain⟨j,J⟩:=zhr.mp h2;obtain⟨O,S⟩:=qg J;exact⟨j,zgl.mpr O,S⟩
   ·rintro⟨j,h1,h2⟩
    have h1:=zgl.mp h1;subst h2;exact⟨zgl.mpr (z.lt j h1),by rw [WY z h1];rfl⟩
 rw [e];simp
theorem YA(q:Nat->Bool)(N:Nat):(zgj N).countP q+(zgj N).countP (λi=> !q i)=N:=by
 have:=zjy q (l:=zgj N);rw [zhz]at this;rw [this];congr 1
 ·rw [<- this]
 ·rw [<- this]
  exact zhN λi _=>by simp
theorem zeL(z : ∀j,j<N->(A j).has k=true)(t:Vc)(c:Nat):mxV p A N t k c%p=app (λi j=>(A j).v k i) N t c%p:=by
 unfold mxV app;rw [zgT];congr 1;exact zy λj I=>by rw [if_pos (z j I),zhH]
theorem kZ(z : ∀j,j<N->(A j).has k=true){i j:Nat}(h:ldx r l i=some j)(c:Nat):(stB p A N r B l i).v k c%p=app (λi j=>(A j).v k i) N (B j) c%p:=by
 unfold stB;rw [h];exact zeL z (B j) c
theorem wG{i:Nat}(h:ldx r l i=none):stB p A N r B l i=A i:=by unfold stB;rw [h]
theorem Xz(hp:Pr p)(a1 : ∀k,wd k<=8)(hk : ∀j,j<wd k->(A j).has k=true)(hs : ∀v:Vc,∃t,∀i,i<wd k->v i%p=app (λi j=>(A j).v k i) (wd k) t i%p)
 (Y:IsB p (wd k) r B l) (hW : ∀t,Span p (wd k) (Fam r B) t↔Spec p w wd T k (app (λi j=>(A j).v k i) (wd k) t)) {U:List Vc} (hn:YV p w wd T k U) {nx:Nat->Option Vc}
 (hr : ∀i,i<wd k->w k=false->(nx i=none->∀c,c<wd (k+1)->app (T k) (wd k) ((stB p A (wd k) r B l i).v k) c%p=0)/\∀y,nx i=some y->(∀c,c<wd (k+1)->app (T k) (wd k) ((stB p A (wd k) r B l i).v k) c%p=y c%p)/\∃c,c<wd (k+1)/\y c%p≠0)
 (hl : ∀i,i<wd k->w k=true->(nx i=none->¬∃y:Vc,∀c,c<wd k->app (T k) (wd (k+1)) y c%p=(stB p A (wd k) r B l i).v k c%p)/\∀y,nx i=some y->∀c,c<wd k->app (T k) (wd (k+1)) y c%p=(stB p A (wd k) r B l i).v k c%p) :
 (∀y,y∈U->∀c,c<wd (k+1)->0<=y c/\y c<p)/\(∀y,y∈U->w k=true->∀c,c<wd k->app (T k) (wd (k+1)) y c%p=0)/\
   (∀v,Span p (wd (k+1)) (λg=>(∃i,i<wd k/\nx i=some g)\/g∈U) v)/\(zgj (wd k)).countP (λi=>(nx i).isSome)+U.length=wd (k+1):=by
 have two:=hp.two;cases hw:w k with
 | false=>
  have a6 : ∀t,Span p (wd k) (Fam r B) t↔Ker p (wd (k+1)) (wd k) (T k) (app (λi j=>(A j).v k i) (wd k) t):=λt=>by
   have:=hW t;unfold Spec at this;rw [hw,if_neg ⋯]at this;exact this
  unfold YV at hn;rw [hw,if_neg ⋯]at hn;obtain⟨r2,B2,l2,ad,hI,O⟩:=hn;obtain⟨g1,g2,g3,g4⟩:=zb1 hp (a1 k) (a1 (k+1)) hs Y a6 ad hI;have ai : ∀c,c<wd (k+1)->(∀j,j<r2->l2 j≠c)->jt c∈U:=λc J hn=>by
   rw [O];refine zg1.mpr ⟨c,zgC.mpr ⟨zgl.mpr J,?_⟩,rfl⟩;simp only [zhY,decide_eq_false_iff_not,zg1,zgl];rintro⟨j,h1,h2⟩;exact hn j h1 ⋯
  have Z : ∀i,i<wd k->(nx i).isSome=(ldx r l i).isNone:=λi hi=>by
   cases hx:ldx r l i with
   | none=>
    obtain⟨c,h1,h2⟩:=g2 i hi (yw hx);cases I:nx i with
    | some y=>rfl
    | none=>
     have:=(hr i hi hw).1 I c h1;rw [wG hx]at this;exact absurd this h2
   | some j=>
    obtain⟨h1,h2⟩:=qg hx;cases I:nx i with
    | none=>rfl
    | some y=>
     obtain⟨e,c,h3,h4⟩:=(hr i hi hw).2 y I;have z:=g1 j h1 c h3;rw [<- jH (λa _=>kZ (B:=B) (r:=r) (l:=l) hk hx a) c,e c h3]at z;exact absurd z h4
  refine⟨λy I c J=>?_,(λy I z=>by cases z),λv=>g4 _ (λc J a9=>?_) (λc J a9=> .gen (.inr (ai c J a9))) v,?_⟩
  ·rw [O]at I
   obtain⟨i,_,rfl⟩:=zg1.mp I;unfold jt;split<;>omega
  ·have hx:ldx r l c=none:=by
    cases hx:ldx r l c with
    | none=>rfl
    | some j=>exact absurd (qg hx).2 (a9 j (qg hx).1)
   have a0:=Z c J;rw [hx]at a0;obtain⟨y,I⟩:=zhr.mp a0;refine(Span.gen (.inl ⟨c,J,I⟩)).congr λi hi=>?_;have:=((hr c J hw).2 y I).1 i hi;rw [wG hx]at this;exact this
  ·have e1:(zgj (wd k)).countP (λi=>(nx i).isSome)=(zgj (wd k)).countP λi=> !(ldx r l i).isSome:=zhN λi hi=>by
    rw [Z i (zgl.mp hi)];cases ldx r l i<;>simp
   have e2:=YA (λi=>(ldx r l i).isSome) (wd k);rw [Zc Y]at e2;have e3:=YA (λi=>(ldx r2 l2 i).isSome) (wd (k+1));rw [Zc ad]at e3;have e4:U.length=(zgj (wd (k+1))).countP λi=> !(ldx r2 l2 i).isSome:=by
    rw [O,zgH,<- zgY];refine zhN λi hi=>?_;cases hx:ldx r2 l2 i with
    | none=>
     have:=yw hx;simp only [zhY,decide_eq_false_iff_not,zg1,zgl];constructor
     ·intro _;rfl
     ·rintro _ ⟨j,h1,h2⟩
      exact this j h1 ⋯
    | some j=>
     obtain⟨h1,h2⟩:=qg hx;simp only [zhY,decide_eq_false_iff_not,zg1,zgl];constructor
     ·intro z;exact absurd ⟨j,h1,by rw [h2]⟩ z
     ·intro z;cases z
   rw [e1,e4];omega
 | true=>
  have a6 : ∀t,Span p (wd k) (Fam r B) t↔Span p (wd k) (Fam (wd (k+1)) λj i=>T k i j) (app (λi j=>(A j).v k i) (wd k) t):=λt=>by
   have:=hW t;unfold Spec at this;rw [hw,if_pos rfl]at this;exact this
  unfold YV at hn;rw [hw,if_pos rfl]at hn;obtain⟨q,K,lK,s,O,an,af,ao,ap⟩:=hn;obtain⟨g1,g2,g3,g4⟩:=zb2 hp (a1 k) (a1 (k+1)) hs Y a6 af ao ap;have Z : ∀i,i<wd k->(nx i).isSome=(ldx r l i).isSome:=λi hi=>by
   cases hx:ldx r l i with
   | none=>
    cases I:nx i with
    | none=>rfl
    | some y=>
     have:=(hl i hi hw).2 y I;rw [wG hx]at this;exact absurd ⟨y,this⟩ (g2 i hi (yw hx))
   | some j=>
    obtain⟨h1,h2⟩:=qg hx;cases I:nx i with
    | some y=>rfl
    | none=>
     obtain⟨y,aq⟩:=g1 j h1;exact absurd ⟨y,λc J=>by rw [aq c J,kZ hk hx c]⟩ ((hl i hi hw).1 I)
  refine⟨λy I c J=>?_,λy I _ c J=>?_,λv=>g4 _ (λj=>(nx (l j)).getD λ_=>0) (λj S=>?_) (λj S=>?_) v,?_⟩
  ·rw [O]at I
   obtain⟨j,S,rfl⟩:=zg1.mp I;exact an.rng j c (zgl.mp S) J
  ·rw [O]at I
   obtain⟨j,S,rfl⟩:=zg1.mp I;exact(af (K j)).mp (.gen ⟨j,zgl.mp S,rfl⟩) c J
  ·have hx:=WY Y S
   have aa:=Y.lt j S;have a0:=Z (l j) aa;rw [hx]at a0;obtain⟨y,I⟩:=zhr.mp a0;rw [I];refine⟨.gen (.inl ⟨l j,aa,I⟩),λc J=>?_⟩;have:=(hl (l j) aa hw).2 y I c J;rw [kZ hk hx c]at this;exact this
  ·refine .gen (.inr ?_)
   rw [O];exact zg1.mpr ⟨j,zgl.mpr S,rfl⟩
  ·have e1:(zgj (wd k)).countP (λi=>(nx i).isSome)=(zgj (wd k)).countP λi=>(ldx r l i).isSome:=zhN λi hi=>by
    rw [Z i (zgl.mp hi)]
   rw [e1,Zc Y,O,zgH,zhz];omega
end
section
variable{wd:Nat->Nat}{m k:Nat}{p:Int}{w:Nat->Bool}{T:Nat->Nat->Nat->Int}
def gr1:CO Fl:=(zO 3 (sIx (zf 0) (zh (.int 0))))
def gr2:CO Fl:=(zO 4 (sIx (zz (sIx (zf 0) (zh (.int 2)))) (zc 1)))
def gr3:CO Fl:=(zO 5 (ja (zC (zB (zf 2)) (.nm 0) 1 [1] (qN (sB (zw jn (za (zc 0) (za (zc 1) zu))))) (zc 0))))
def gr4:CO Fl:=(zO 6 (ja (zQ kT (za (zc 0) (za (zc 1) (za (ja (zC (zB (zf 2)) (.nm 0) 1 [1] (sB (zw jn (za (zc 0) (za (zc 1) zu)))) (zc 0))) zu))))))
def gr5:CO Fl:=(zO 7 (ja (zC (zB (zf 6)) (.nm 0) 1 [3,4] z6 (zw qS (za (zc 1) (za (zc 2) (za (zc 0) zu)))))))
def gr6:CO Fl:=(zO 8 (ja (zC (zB (jh (zQ qZ (za (zc 3) (za (zc 4) zu))))) (.nm 0) 1 [1] z6 (ju (za (zm jo (zc 1) (zh (.int 1))) (za (ju (za (zc 0) zu)) zu))))))
def gr7:CO Fl:=(jO (ja (xQ (zf 5) (zz (ZB (sB (zm dEq (sIx (zf 4) (zh (.int 0))) (zh (.str "r")))) (ja (xQ (zf 8) (zf 7))) (ja (xQ (zf 7) (zf 8))))))))
theorem Ye:vB=jb 9 (zF gr1 (zF gr2 (zF gr3 (zF gr4 (zF gr5 (zF gr6 gr7)))))):=rfl
theorem zeI(y:Vc):jB wd (nuB k y) = .tup [.int ((k:Int)+1),.tup [.tup (zA (wd (k+1)) y)]]:=by
 unfold jB nuB qD;simp
theorem V4(Z:Pr p)(J : ∀k,wd k<=8)(hm:m<=5)(a9:k<m)(hT : ∀i j,i<hiW w wd k->j<wiW w wd k->0<=T k i j/\T k i j<p){bars:List Bar}(I:BrInv p w wd T k bars)(ag:bars.length<=100) :
 ∃a3,BrInv p w wd T (k+1) a3/\a3.length<=bars.length+8/\vB [qe p m w wd T,.int k,.lst (bars.map (jB wd))]=some (.val (.lst (a3.map (jB wd)))):=by
 have hl:=jf;have p0:=Z.pos;have ab:bars.length<=lim:=by omega
 have a4:(bars.filter λb=>b.has k).length=wd k:=by rw [<- zgY];exact I.ct k (zgp _)
 let A:Nat->Bar:=λj=>(bars.filter λb=>b.has k).getD j XU;have eA:(bars.filter λb=>b.has k)=(zgj (wd k)).map A:=by
  rw [<- a4];exact(jR XU _).symm
 have mA : ∀j,j<wd k->A j∈bars/\(A j).has k=true:=λj O=>by
  have:A j∈bars.filter λb=>b.has k:=by
   show(bars.filter λb=>b.has k).getD j XU∈_;rw [zgr,zgn ⋯];exact zh6 _
  have:=zgC.mp this;exact⟨this.1,by simpa using this.2⟩
 have a5 : ∀j,j<wd k->BarOk p w wd T k (A j):=λj O=>I.ok _ (mA j O).1;have hO : ∀i c,i<c->c<wd k->Ord w (A i) (A c):=λi c h1 h2=>by
  have:=zhT.mp I.od i c ⋯ ⋯ h1;show Ord w ((bars.filter λb=>b.has k).getD i XU) ((bars.filter λb=>b.has k).getD c XU);rw [zgr,zgn ⋯,zgr,zgn ⋯];exact this
 have a2 : ∀j,j<wd k->(A j).has k=true:=λj O=>(mA j O).2;obtain⟨r,B,l,hB,hW,eS⟩:=Q9 (T:=T) (w:=w) (A:=A) (N:=wd k) (k:=k) Z (λj O=>by have:=(a5 j O).le;omega) a2 a9 (J k) hm J λj rm i O hh hi=>(a5 j O).rng rm i hh hi;have okS : ∀i,i<wd k->BarOk p w wd T k (stB p A (wd k) r B l i):=λi hi=>WD p0 hB a5 a2 hO hi;have ad : ∀i,i<wd k->(stB p A (wd k) r B l i).has k=true:=λi hi=>by rw [Jn];exact a2 i hi
 have ex : ∀i,∃o:Option Vc,i<wd k->(qb [.int p,qM w wd T k,.tup (zA (wd k) ((stB p A (wd k) r B l i).v k))]=some (.val (oD (wd (k+1)) o))/\(∀y,o=some y->∀c,c<wd (k+1)->0<=y c/\y c<p)/\
  (w k=false->(o=none->∀c,c<wd (k+1)->app (T k) (wd k) ((stB p A (wd k) r B l i).v k) c%p=0)/\∀y,o=some y->(∀c,c<wd (k+1)->app (T k) (wd k) ((stB p A (wd k) r B l i).v k) c%p=y c%p)/\∃c,c<wd (k+1)/\y c%p≠0)/\
  (w k=true->(o=none->¬∃y:Vc,∀c,c<wd k->app (T k) (wd (k+1)) y c%p=(stB p A (wd k) r B l i).v k c%p)/\∀y,o=some y->∀c,c<wd k->app (T k) (wd (k+1)) y c%p=(stB p A (wd k) r B l i).v k c%p)):=λi=>by
  by_cases hi:i<wd k
  ·obtain⟨o,h⟩:=ZP (T:=T) (w:=w) (k:=k) Z J hT ((stB p A (wd k) r B l i).v k) λc hc=>(okS i hi).rng k c (ad i hi) hc
   exact⟨o,λ_=>h⟩
  ·exact⟨none,λz=>absurd z hi⟩
 obtain⟨nx,U⟩:=Classical.axiomOfChoice ex;obtain⟨S,hN,eN⟩:=ZR (T:=T) (w:=w) (k:=k) Z J;have hs : ∀v:Vc,∃t,∀i,i<wd k->v i%p=app (λi j=>(A j).v k i) (wd k) t i%p:=λv=>by
  have hv:Span p (wd k) (Fam (wd k) λj=>(A j).v k) v:=(I.sp k (zgp _) v).le λg hg=>by
   obtain⟨b,h1,h2,rfl⟩:=hg;have ae:b∈bars.filter λb=>b.has k:=zgC.mpr ⟨h1,by simpa using h2⟩;rw [eA]at ae;obtain⟨j,O,rfl⟩:=zg1.mp ae;exact .gen ⟨j,zgl.mp O,rfl⟩
  obtain⟨t,ht⟩:=yM hv;exact⟨t,λi hi=>by rw [ht i hi];unfold app;rw [qm]⟩
 obtain⟨f1,f2,f3,f4⟩:=Xz (T:=T) (w:=w) (A:=A) Z J a2 hs hB hW hN (nx:=nx) (λi hi=>(U i hi).2.2.1) λi hi=>(U i hi).2.2.2;refine⟨xZ p k w bars A (wd k) r B l nx S,Yd p0 I a4 (λ_=>rfl) hB (λi y hi e=>(U i hi).2.1 y e) f1 (λi hi e hw=>((U i hi).2.2.1 hw).1 e) (λi y hi e hw=>(((U i hi).2.2.1 hw).2 y e).1) (λi y hi e hw=>((U i hi).2.2.2 hw).2 y e) f2 f3 f4,?_,?_⟩
 ·have h1:(bars.filter λb=> !b.has k).length+wd k=bars.length:=by
   have:=zjy (λb:Bar=>b.has k) (l:=bars);rw [<- a4,<- zgY,<- zgY,this];have e:bars.countP (λb=> !b.has k)=bars.countP λb=>decide (¬b.has k=true):=zhN λb _=>by simp
   rw [e];omega
  have h2:=J (k+1);unfold xZ;rw [zhq];cases w k<;>simp<;>omega
 ·
  let L:D:= .lst (bars.map (jB wd));have e3:zG (.nm 0) (qN (sB (zw jn (za (zc 0) (za (zc 1) zu))))) (zc 0) [.no,.val (.int k)] (bars.map (jB wd))=some ((bars.filter λb=> !b.has k).map (jB wd)):=by
   refine zP (g:=jB wd) (λb=> !b.has k) (jB wd) bars λb hb=>⟨[.val (jB wd b),.val (.int k)],rfl,?_,λ_=>by rfl⟩;have e:=qW (wd:=wd) (b:=b) (by have:=(I.ok b hb).le;omega) k;simp [e]
  have e4:zG (.nm 0) (sB (zw jn (za (zc 0) (za (zc 1) zu)))) (zc 0) [.no,.val (.int k)] (bars.map (jB wd))=some ((zgj (wd k)).map λj=>jB wd (A j)):=by
   have:((bars.filter λb=>b.has k).map (jB wd))=(zgj (wd k)).map λj=>jB wd (A j):=by rw [eA,zhf];rfl
   rw [<- this];refine zP (g:=jB wd) (λb=>b.has k) (jB wd) bars λb hb=>⟨[.val (jB wd b),.val (.int k)],rfl,?_,λ_=>by rfl⟩;have e:=qW (wd:=wd) (b:=b) (by have:=(I.ok b hb).le;omega) k;simp [e]
  have e5:zG (.nm 0) z6 (zw qS (za (zc 1) (za (zc 2) (za (zc 0) zu)))) [.no,.val (.int p),.val (qM w wd T k)] ((zgj (wd k)).map λi=>jB wd (stB p A (wd k) r B l i))=some ((zgj (wd k)).map λi=>jB wd (exB k (stB p A (wd k) r B l i) (nx i))):=by
   refine zo _ _ λi hi=>zq rfl rfl ?_;have hi:=zgl.mp hi;have h1:=has_iff.mp (ad i hi);have e:=Y9 (p:=p) (okS i hi).n1 (by have:=(okS i hi).le;omega) (show k<=20 by omega) (U i hi).1;simp [e]
  have e6:zG (.nm 0) z6 (ju (za (zm jo (zc 1) (zh (.int 1))) (za (ju (za (zc 0) zu)) zu))) [.no,.val (.int k)] (S.map λy=>D.tup (zA (wd (k+1)) y))=some ((S.map (nuB k)).map (jB wd)):=by
   rw [zhf];refine zo _ _ λy hy=>zq rfl rfl ?_;show _=some (jB wd (nuB k y));rw [zeI];rfl
  have b9:S.length<=lim:=by have:=J (k+1);omega
  have ba:wd k<=lim:=by have:=J k;omega
  let Y:D:= .lst ((bars.filter λb=> !b.has k).map (jB wd));let Se:D:= .lst ((zgj (wd k)).map λi=>jB wd (stB p A (wd k) r B l i));let Ol:D:= .lst ((zgj (wd k)).map λi=>jB wd (exB k (stB p A (wd k) r B l i) (nx i)));let Ne:D:= .lst ((S.map (nuB k)).map (jB wd));rw [Ye];refine jN (zD (γ':=[.val (qe p m w wd T),.val (.int k),.val L,.val (.int p),.no,.no,.no,.no,.no]) ?_
   (zD (γ':=[.val (qe p m w wd T),.val (.int k),.val L,.val (.int p),.val (qM w wd T k),.no,.no,.no,.no]) ?_
   (zD (γ':=[.val (qe p m w wd T),.val (.int k),.val L,.val (.int p),.val (qM w wd T k),.val Y,.no,.no,.no]) ?_
   (zD (γ':=[.val (qe p m w wd T),.val (.int k),.val L,.val (.int p),.val (qM w wd T k),.val Y,.val Se,.no,.no]) ?_
   (zD (γ':=[.val (qe p m w wd T),.val (.int k),.val L,.val (.int p),.val (qM w wd T k),.val Y,.val Se,.val Ol,.no]) ?_
   (zD (γ':=[.val (qe p m w wd T),.val (.int k),.val L,.val (.int p),.val (qM w wd T k),.val Y,.val Se,.val Ol,.val Ne]) ?_ ?_))))))
  ·simp [gr1,zV,zgm,qA,L]
  ·simp [gr2,qA,vq,a9]
  ·simp [gr3,z4,L,ab,e3,Y]
  ·simp [gr4,z4,L,ab,e4,eS,Se]
  ·simp [gr5,z4,Se,ba,e5,Ol]
  ·simp [gr6,z4,eN,b9]
   rw [e6];simp [Ne]
  ·have bd:(bars.filter λb=> !b.has k).length<=100:=zhh (zi9 _ _) ag
   have q1:=J k;have q2:=J (k+1);cases hw:w k with
   | false=>
    have eq:=w6 false;have h1:S.length+wd k<=lim:=by omega
    have h2:(bars.filter λb=> !b.has k).length+(S.length+wd k)<=lim:=by omega
    simp [gr7,qH,hw,eq,Y,Ol,Ne,xZ,h1,h2]
   | true=>
    have eq:=w6 true;have h1:wd k+S.length<=lim:=by omega
    have h2:(bars.filter λb=> !b.has k).length+(wd k+S.length)<=lim:=by omega
    simp [gr7,qH,hw,eq,Y,Ol,Ne,xZ,h1,h2]
end
section
variable{wd:Nat->Nat}{m k:Nat}{p:Int}{w:Nat->Bool}{T:Nat->Nat->Nat->Int}
def Y0(c:Nat):Bar:=⟨0,1,λ_=>jt c⟩
theorem zbe(S:Pr p):BrInv p w wd T 0 ((zgj (wd 0)).map Y0):=by
 have two:=S.two;have mem : ∀b,b∈(zgj (wd 0)).map Y0 ↔ ∃c,c<wd 0/\b=Y0 c:=λb=>by
  rw [zg1];exact⟨λ⟨c,h1,h2⟩=>⟨c,zgl.mp h1,h2.symm⟩,λ⟨c,h1,h2⟩=>⟨c,zgl.mpr h1,h2.symm⟩⟩
 have O : ∀c,(Y0 c).has 0=true:=λc=>has_iff.mpr ⟨zgp _,by show 0<0+1;omega⟩;refine⟨λb I=>?_,λr U v=>?_,λr U=>?_,?_⟩
 ·obtain⟨c,J,rfl⟩:=(mem b).mp I
  exact⟨zgp _,by show 0+1<=0+1;omega,λr i _ _=>by show 0<=jt c i/\jt c i<p;unfold jt;split<;>omega,λj Z=>by omega⟩
 ·have:r=0:=by omega
  subst this;refine(vj (wd 0) v).le λg Y=>?_;obtain⟨c,J,rfl⟩:=Y;exact .gen ⟨Y0 c,(mem _).mpr ⟨c,J,rfl⟩,O c,rfl⟩
 ·have:r=0:=by omega
  subst this;rw [List.countP_eq_length.mpr λb I=>?_]
  ·simp
  ·obtain⟨c,J,rfl⟩:=(mem b).mp I
   exact O c
 ·refine ziW _ ?_
  rw [ziw];exact zhT.mpr λ_ _ _ _ _=>⟨λz=>absurd z (zgZ 0),λz=>absurd z (zgZ 0)⟩
def ag1:CO Fl:=(zO 1 (ja (zC (zB (zz (sIx (zz (zw F_same_table (za (sIx (zz (sIx (zf 0) (zh (.int 1)))) (zh (.int 0))) zu))) (zh (.int 2))))) (.nm 0) 1 [] z6 (ju (za (zh (.int 0)) (za (ju (za (zc 0) zu)) zu))))))
def ag2:CO Fl:=(xK (zY (xV (zz (sIx (zf 0) (zh (.int 2)))))) (.nm 2) (zO 1 (zw vB (za (zc 0) (za (zc 2) (za (zc 1) zu))))))
def ag3:CO Fl:=(qy (Ki jI (zf 1)))
theorem Zl:vC=jb 3 (zF ag1 (zF ag2 ag3)):=rfl
def zeO(b:Bar):Int×Int:=((b.s:Int),((b.s+b.n - 1:Nat):Int))
theorem KU : ∀bars:List Bar,(∀b,b∈bars->1<=b.n/\b.s+b.n<=100)->KY jI (bars.map (jB wd))=some (bars.map zeO)
 | [],_=>rfl
 | b::bars,h=>by
  have h1:=h b zgI;have e:=Q5 (wd:=wd) h1.1 h1.2;have z:=KU bars λb I=>h b (zgJ _ I);simp only [zgO,KY,e,z,zgq];rfl
def Jo(bars:List Bar):List Bar:=(JB (bars.map zeO)).map λi=>bars.getD i XU
theorem Ji(z:Pr p)(J : ∀k,wd k<=8)(hm:m<=5)(Z : ∀k i j,k<m->i<hiW w wd k->j<wiW w wd k->0<=T k i j/\T k i j<p) :
 ∃bars,BrInv p w wd T m bars/\bars.length<=48/\vC [qe p m w wd T]=some (.own ((Jo bars).map (jB wd))):=by
 have hl:=jf;have h0:=J 0;have O:wd 0<=lim:=by omega
 have es:=xB (n:=wd 0) O;have a2:js (j5 (wd 0) (wd 0) λi j=>if i=j then 1 else 0)=some (.T,[.int (wd 0:Nat),.int (wd 0:Nat),.tup (zL (wd 0) (wd 0) λi j=>if i=j then 1 else 0)]):=rfl;have e1:zG (.nm 0) z6 (ju (za (zh (.int 0)) (za (ju (za (zc 0) zu)) zu))) [.no] (zL (wd 0) (wd 0) λi j=>if i=j then 1 else 0)=some (((zgj (wd 0)).map Y0).map (jB wd)):=by
  rw [zhf];unfold zL;refine zo _ _ λi hi=>zq rfl rfl ?_;show some _=some (jB wd (Y0 i));unfold jB Y0 qD;simp;rfl
 have x1:ag1 (zV 3 [qe p m w wd T])=some (.next [.val (qe p m w wd T),.val (.lst (((zgj (wd 0)).map Y0).map (jB wd))),.no]):=by
  simp [ag1,zV,zgm,qA,es,a2,z4,O];rw [e1];simp
 obtain⟨γ',x2,bars,c,I,a3,rfl⟩:=wb (T:= .nm 2) (F:=zO 1 (zw vB (za (zc 0) (za (zc 2) (za (zc 1) zu))))) (f:=xV (zz (sIx (zf 0) (zh (.int 2)))))
  (λj γ=>∃bars c,BrInv p w wd T j bars/\bars.length<=8*(j+1)/\γ=[.val (qe p m w wd T),.val (.lst (bars.map (jB wd))),c]) m ⋯ (γ:=[.val (qe p m w wd T),.val (.lst (((zgj (wd 0)).map Y0).map (jB wd))),.no])
  (by simp [qA]) ⟨_,_,zbe z,by simp;omega,rfl⟩ λs S γ hγ=>by
    obtain⟨bars,c,I,a3,rfl⟩:=hγ;obtain⟨U,I',h',e⟩:=V4 (T:=T) (w:=w) (k:=s) z J hm S (Z s · · S) I ⋯;refine⟨_,[.val (qe p m w wd T),.val (.lst (U.map (jB wd))),.val (.int s)],rfl,?_,U,_,I',by omega,rfl⟩;simp [e]
 refine⟨bars,I,by omega,?_⟩;have ek:=KU (wd:=wd) bars λb Y=>⟨(I.ok b Y).n1,by have:=(I.ok b Y).le;omega⟩;rw [Zl];refine jN (zD x1 (zD (show ag2 _=_ from x2) ?_));have a7:bars.length<64:=by omega
 unfold ag3;have e3:Ki jI (zf 1) [.val (qe p m w wd T),.val (.lst (bars.map (jB wd))),c]=some ((Jo bars).map (jB wd)):=by
  show((KY jI (bars.map (jB wd))).bind λps=>if (bars.map (jB wd)).length<64 then some ((JB ps).map λi=>(bars.map (jB wd)).getD i .non)else none)=_;rw [ek];simp only [zgq,zgH,a7,if_true];congr 1;unfold Jo;rw [zhf];refine zgD λi hi=>?_;have h:=Xk (bars.map zeO);have hi:=zgl.mp (h.mem_iff.mp hi);rw [zgH]at hi;simp [hi]
 rw [YR,e3];rfl
end
abbrev TB:=Nat×Nat×(Nat->Nat->Int)
section
variable{wd:Nat->Nat}{m k N:Nat}{p:Int}{w:Nat->Bool}{T:Nat->Nat->Nat->Int}{A:Nat->Bar}
def ixs(A:Nat->Bar)(N r:Nat):List Nat:=(zgj N).filter λj=>(A j).has r
def zby(A:Nat->Bar)(N r:Nat):Nat->Nat->Int:=λi j=>(A ((ixs A N r).getD j 0)).v r i
end
section
variable{wd:Nat->Nat}{m k N:Nat}{p:Int}{w:Nat->Bool}{T:Nat->Nat->Nat->Int}{A:Nat->Bar}{g:Nat->Nat->Nat->Int}
theorem K2(A N r):(ixs A N r).Nodup:=zjL.sublist ziK
end
structure Decp(p:Int)(w:Nat->Bool)(wd:Nat->Nat)(T:Nat->Nat->Nat->Int)(m N:Nat)(A:Nat->Bar):Prop where
 ok : ∀j,j<N->BarOk p w wd T m (A j)
 sp : ∀r,r<=m->∀v:Vc,∃t:Vc,∀i,i<wd r->v i%p=sumTo (λj=>if (A j).has r=true then t j*(A j).v r i else 0) N%p
 inj : ∀r,r<=m->∀t:Vc,(∀i,i<wd r->sumTo (λj=>if (A j).has r=true then t j*(A j).v r i else 0) N%p=0)->∀j,j<N->(A j).has r=true->t j%p=0
 cnt : ∀r,r<=m->(ixs A N r).length=wd r
def Lk(p:Int)(w:Nat->Bool)(wd:Nat->Nat)(T:Nat->Nat->Nat->Int)(k:Nat)(y z:Vc):Prop:=
 if w k=true then ∀i,i<wd k->y i%p=app (T k) (wd (k+1)) z i%p else ∀i,i<wd (k+1)->z i%p=app (T k) (wd k) y i%p
def Wk(p:Int)(w:Nat->Bool)(wd:Nat->Nat)(T:Nat->Nat->Nat->Int)(d:Nat):Nat->Vc->Vc->Prop
 | 0,u,z=>∀i,i<wd d->u i%p=z i%p
 | n+1,u,z=>∃y,Wk p w wd T d n u y/\Lk p w wd T (d+n) y z
section
variable{p:Int}{w:Nat->Bool}{wd:Nat->Nat}{T:Nat->Nat->Nat->Int}{m N N':Nat}{A A':Nat->Bar}{d:Nat}
theorem JE{a b a' b' c:Int}(h1:a%p=b%p)(h2:a'%p=b'%p):(a+c*a')%p=(b+c*b')%p:=by
 rw [zgL,h1,zgt,h2,<- zgt,<- zgL]
theorem zdE{k:Nat}{y z I J:Vc}(c:Int)(h:Lk p w wd T k y z)(h':Lk p w wd T k I J):Lk p w wd T k (λi=>y i+c*I i) λi=>z i+c*J i:=by
 unfold Lk at *;split
 ·next hw=>
  rw [if_pos hw]at h h';intro i hi;rw [JE (h i hi) (h' i hi)];exact(vw (λ_ _=>rfl) i).symm
 ·next hw=>
  rw [if_neg hw]at h h';intro i hi;rw [JE (h i hi) (h' i hi)];exact(vw (λ_ _=>rfl) i).symm
theorem zaa : ∀(n:Nat) {u z I J:Vc} (c:Int),Wk p w wd T d n u z->Wk p w wd T d n I J->Wk p w wd T d n (λi=>u i+c*I i) λi=>z i+c*J i
 | 0,u,z,I,J,c,h,h'=>λi hi=>JE (h i hi) (h' i hi)
 | n+1,u,z,I,J,c,⟨y,h1,h2⟩,⟨y',h1',h2'⟩=>⟨_,zaa n c h1 h1',zdE c h2 h2'⟩
theorem YW(k:Nat):Lk p w wd T k (λ_=>0) λ_=>0:=by
 unfold Lk;split<;>exact λi _=>by rw [kQ (λ_ _=>by simp) i];simp
theorem JY : ∀n,Wk p w wd T d n (λ_=>0) λ_=>0
 | 0=>λ_ _=>rfl
 | n+1=>⟨_,JY n,YW _⟩
theorem Ww{k:Nat}{y z I:Vc}(h:Lk p w wd T k y z)(J : ∀i,i<wd (k+1)->I i%p=z i%p):Lk p w wd T k y I:=by
 unfold Lk at *;split
 ·next hw=>rw [if_pos hw]at h;intro i hi;rw [h i hi];exact(jH J i).symm
 ·next hw=>rw [if_neg hw]at h;intro i hi;rw [J i hi,h i hi]
theorem zfr : ∀{n:Nat} {u z I:Vc},Wk p w wd T d n u z->(∀i,i<wd (d+n)->I i%p=z i%p)->Wk p w wd T d n u I
 | 0,u,z,I,h,hz=>λi hi=>by rw [h i hi,hz i hi]
 | n+1,u,z,I,⟨y,h1,h2⟩,hz=>⟨y,h1,Ww h2 hz⟩
theorem Jj : ∀{n:Nat} {u I z:Vc},Wk p w wd T d n u z->(∀i,i<wd d->I i%p=u i%p)->Wk p w wd T d n I z
 | 0,u,I,z,h,hu=>λi hi=>by rw [hu i hi,h i hi]
 | n+1,u,I,z,⟨y,h1,h2⟩,hu=>⟨y,Jj h1 hu,h2⟩
theorem W9{n:Nat}(t:Vc)(u z:Nat->Vc) : ∀K,(∀j,j<K->Wk p w wd T d n (u j) (z j))->Wk p w wd T d n (λi=>sumTo (λj=>t j*u j i) K) λi=>sumTo (λj=>t j*z j i) K
 | 0,_=>JY n
 | K+1,h=>zaa n (t K) (W9 t u z K λj I=>h j ⋯) (h K ⋯)
theorem Wp{b:Bar}(J:BarOk p w wd T m b){k:Nat}(O:k<m)(h1:b.has k=true)(h2:b.has (k+1)=true):Lk p w wd T k (b.v k) (b.v (k+1)):=by
 unfold Lk;cases hw:w k with
 | true=>
  have z:begR w k=k+1:=by unfold begR;rw [hw];rfl
  have I:endR w k=k:=by unfold endR;rw [hw];rfl
  rw [if_pos rfl];intro i hi;have:=J.arr k O (by rw [z];exact h2) i (by rw [I];exact hi);rw [z,I,h1,if_pos rfl]at this;exact this.symm
 | false=>
  have z:begR w k=k:=by unfold begR;rw [hw];rfl
  have I:endR w k=k+1:=by unfold endR;rw [hw];rfl
  rw [if_neg ⋯];intro i hi;have:=J.arr k O (by rw [z];exact h1) i (by rw [I];exact hi);rw [z,I,h2,if_pos rfl]at this;exact this.symm
theorem Zi{b:Bar}(z:BarOk p w wd T m b)(h1:b.has d=true) : ∀n,d+n<=m->b.has (d+n)=true->Wk p w wd T d n (b.v d) (b.v (d+n))
 | 0,_,_=>λ_ _=>rfl
 | n+1,hn,h2=>by
  have I:b.has (d+n)=true:=has_iff.mpr (by have:=has_iff.mp h1;have:=has_iff.mp h2;omega);exact⟨_,Zi z h1 n ⋯ I,Wp z ⋯ I h2⟩
theorem YM{b:Bar}(I:BarOk p w wd T m b)(h1:b.has d=true)(hw:w (b.s+b.n - 1)=false) : ∀n,d+n<=m->b.has (d+n)=false->Wk p w wd T d n (b.v d) λ_=>0
 | 0,_,h2=>by rw [zjK,h1]at h2;cases h2
 | n+1,hn,h2=>by
  cases h3:b.has (d+n)with
  | false=>exact⟨_,YM I h1 hw n ⋯ h3,YW _⟩
  | true=>
   refine⟨_,Zi I h1 n ⋯ h3,?_⟩;have U:=has_iff.mp h3;have Y : ¬(d+n+1<b.s+b.n):=λz=>by
    have:b.has (d+(n+1))=true:=has_iff.mpr ⋯;rw [this]at h2;cases h2
   have J:b.s+b.n - 1=d+n:=by omega
   rw [J]at hw;have O:begR w (d+n)=d+n:=by unfold begR;rw [hw];rfl
   have S:endR w (d+n)=d+n+1:=by unfold endR;rw [hw];rfl
   have:=I.arr (d+n) ⋯;rw [O,S]at this;unfold Lk;rw [hw,if_neg ⋯];intro i hi;rw [this h3 i hi,show b.has (d+n+1)=false from h2];simp
theorem vV(D:Decp p w wd T m N A) : ∀n,d+n<=m->∀{u z:Vc},Wk p w wd T d n u z->∀{a b:Vc},(∀i,i<wd d->u i%p=sumTo (λj=>if (A j).has d=true then a j*(A j).v d i else 0) N%p)->(∀i,i<wd (d+n)->z i%p=sumTo (λj=>if (A j).has (d+n)=true then b j*(A j).v (d+n) i else 0) N%p)->
 ∀j,j<N->(A j).has d=true->((A j).has (d+n)=true->a j%p=b j%p)/\((A j).has (d+n)=false->w ((A j).s+(A j).n - 1)=true->a j%p=0):=by
 have Z : ∀r,r<=m->∀{v:Vc} {a b:Vc},(∀i,i<wd r->v i%p=sumTo (λj=>if (A j).has r=true then a j*(A j).v r i else 0) N%p)->(∀i,i<wd r->v i%p=sumTo (λj=>if (A j).has r=true then b j*(A j).v r i else 0) N%p)->∀j,j<N->(A j).has r=true->a j%p=b j%p:=λr hr v a b h1 h2 j J O=>by
  have:=D.inj r hr (λj=>a j - b j) (λi hi=>by
   have e:sumTo (λj=>if (A j).has r=true then (a j - b j)*(A j).v r i else 0) N=sumTo (λj=>if (A j).has r=true then a j*(A j).v r i else 0) N+sumTo (λj=>(if (A j).has r=true then b j*(A j).v r i else 0)*(-1)) N:=by
    rw [<- jC];refine zy λj _=>?_;split
    ·rw [Int.sub_mul];omega
    ·simp
   rw [e,xI,zgL,<- h1 i hi,zgt,<- h2 i hi,<- zgt,<- zgL,show v i+v i * -1=0 by omega];simp) j J O
  exact zig.mpr this
 have a5 : ∀k,k<m->∀(c:Vc) (r r':Nat),r=begR w k->r'=endR w k->∀i,i<wd r'->app (T k) (wd r) (mxV p A N c r) i%p=sumTo (λj=>if (A j).has r'=true then (if (A j).has r=true then c j else 0)*(A j).v r' i else 0) N%p:=λk hk c r r' e1 e2 i hi=>by
  rw [YO];refine zW λj J=>?_;cases hx:(A j).has r with
  | false=>simp
  | true=>
   have q:=(D.ok j J).arr k hk (by rw [<- e1];exact hx) i (by rw [<- e2];exact hi);rw [<- e1,<- e2]at q;simp only [if_true];rw [zgt,q,<- zgt];cases hy:(A j).has r'<;>simp
 intro n
 induction n with
 | zero=>
  intro hn u z a0 a b ha U j J O;refine⟨λ_=>Z d ⋯ ha (λi hi=>by rw [a0 i hi];exact U i hi) j J O,λh=>?_⟩;rw [zjK,O]at h;cases h
 | succ n ih=>
  intro hn u z a0 a b ha U j J O;obtain⟨y,h1,h2⟩:=a0;obtain⟨c,hc⟩:=D.sp (d+n) ⋯ y;obtain⟨i1,i2⟩:=ih ⋯ h1 ha hc j J O;have ab : ∀i,i<wd (d+n)->y i%p=mxV p A N c (d+n) i%p:=λi hi=>by rw [hc i hi];unfold mxV;rw [zgT]
  have ac : ∀i,i<wd (d+n+1)->z i%p=mxV p A N b (d+n+1) i%p:=λi hi=>by rw [U i hi];unfold mxV;rw [zgT];rfl
  have qd:=has_iff.mp O;cases hw:w (d+n)with
  | false=>
   have eb:begR w (d+n)=d+n:=by unfold begR;rw [hw];rfl
   have ee:endR w (d+n)=d+n+1:=by unfold endR;rw [hw];rfl
   unfold Lk at h2;rw [hw,if_neg ⋯]at h2;have Y:=Z (d+n+1) ⋯ (v:=z) U (b:=λj=>if (A j).has (d+n)=true then c j else 0) λi hi=>by
    rw [h2 i hi,jH ab i];exact a5 (d+n) ⋯ c (d+n) (d+n+1) eb.symm ee.symm i hi
   refine⟨λh=>?_,λh S=>?_⟩
   ·have I:(A j).has (d+n)=true:=has_iff.mpr (by have:=has_iff.mp h;omega)
    have:=Y j J h;rw [I,if_pos rfl]at this;rw [i1 I,this]
   ·cases I:(A j).has (d+n)with
    | false=>exact i2 I S
    | true=>
     have q3:=has_iff.mp I;have q2 : ¬(d+n+1<(A j).s+(A j).n):=λz=>by
      have:(A j).has (d+(n+1))=true:=has_iff.mpr ⋯;rw [this]at h;cases h
     rw [show(A j).s+(A j).n - 1=d+n by omega,hw]at S;cases S
  | true=>
   have eb:begR w (d+n)=d+n+1:=by unfold begR;rw [hw];rfl
   have ee:endR w (d+n)=d+n:=by unfold endR;rw [hw];rfl
   unfold Lk at h2;rw [hw,if_pos rfl]at h2;have Y:=Z (d+n) ⋯ (v:=y) hc (b:=λj=>if (A j).has (d+n+1)=true then b j else 0) λi hi=>by
    rw [h2 i hi,jH ac i];exact a5 (d+n) ⋯ b (d+n+1) (d+n) eb.symm ee.symm i hi
   refine⟨λh=>?_,λh S=>?_⟩
   ·have I:(A j).has (d+n)=true:=has_iff.mpr (by have:=has_iff.mp h;omega)
    have:=Y j J I;rw [show(A j).has (d+n+1)=true from h,if_pos rfl]at this;rw [i1 I,this]
   ·cases I:(A j).has (d+n)with
    | false=>exact i2 I S
    | true=>
     have:=Y j J I;rw [show(A j).has (d+n+1)=false from h,if_neg ⋯]at this;rw [i1 I,this];simp
end
section
variable{p:Int}{n:Nat}
theorem zdg(I:Pr p){h N:Nat}(O:h<=20)(S:N<=8){f:Nat->Nat->Int}(inj : ∀t:Vc,(∀i,i<h->app f N t i%p=0)->∀j,j<N->t j%p=0):N<=h:=by
 obtain⟨q,K,l,s,_,J,U,Y,a1⟩:=qc I O S f;have hq:q=0:=by
  rcases ziR q with z | z
  ·exact z
  ·have Z:=J.lt 0 z
   have:=inj (K 0) (λi hi=>(U (K 0)).mp (.gen ⟨0,z,rfl⟩) i hi) (l 0) Z;rw [J.one 0 z,I.one]at this;cases this
 obtain⟨B,l',a0,_⟩:=Y;have:=k3 a0;omega
theorem wF{m:Nat}(W:Nat->Vc)(t:Vc):Span p n (Fam m W) λi=>sumTo (λj=>t j*W j i) m:=Span.sum (u:=W) t λj z=> .gen ⟨j,z,rfl⟩
theorem zdn(z:Pr p){s m:Nat}{B:Nat->Vc}{l:Nat->Nat}(I:IsB p n s B l){W:Nat->Vc}(hn:n<=20)(hm:m<=8)(sp : ∀v,Span p n (Fam s B) v↔Span p n (Fam m W) v)(J : ∀t:Vc,(∀i,i<n->sumTo (λj=>t j*W j i) m%p=0)->∀j,j<m->t j%p=0):m=s:=by
 have h1:s<=m:=by
  obtain⟨r,Y,O⟩:=ZE z (n:=n) ⋯ hm W;have:=xl z (m:=m) (W:=W) ⟨B,l,I,sp⟩ O;omega
 have Z:s<=n:=k3 I;have h2:m<=s:=zdg z ⋯ hm (f:=λi j=>W j (l i)) λt S=>J t λi hi=>by
  have c:=ya I ((sp _).mpr (wF (n:=n) W t)) i hi;rw [c];have:sumTo (λk=>sumTo (λj=>t j*W j (l k)) m*B k i) s%p=sumTo (λ_=>0) s%p:=zW λk U=>by
   have:=S k U;unfold app at this;rw [qm]at this;rw [zgt,this];simp
  rw [this,zI];simp
 omega
theorem Wd(hp:Pr p){s q c:Nat}{B B2 V:Nat->Vc}{l l2:Nat->Nat}(hX:IsB p n s B l)(O:IsB p n q B2 l2)(hn:n<=20)(hc:q+c<=8)(a4 : ∀j,j<c->Span p n (Fam s B) (V j))(KX : ∀v,Span p n (Fam q B2) v->Span p n (Fam s B) v)
 (spX : ∀v,Span p n (Fam s B) v->∃t:Vc,Span p n (Fam q B2) λi=>v i - sumTo (λj=>t j*V j i) c) (a6 : ∀t:Vc,Span p n (Fam q B2) (λi=>sumTo (λj=>t j*V j i) c)->∀j,j<c->t j%p=0):q+c=s:=by
 let W:Nat->Vc:=λj=>if j<q then B2 j else V (j - q);have w1 : ∀j,j<q->W j=B2 j:=λj I=>if_pos I;have w2 : ∀j,W (q+j)=V j:=λj=>by show(if q+j<q then _ else _)=_;rw [if_neg ⋯,zgS]
 have Y : ∀t:Vc,∀i,sumTo (λj=>t j*W j i) (q+c)=sumTo (λj=>t j*B2 j i) q+sumTo (λj=>t (q+j)*V j i) c:=λt i=>by
  rw [kl];congr 1
  ·exact zy λj I=>by rw [w1 j I]
  ·exact zy λj I=>by rw [w2 j]
 refine zdn hp hX hn hc (W:=W) (λv=>⟨λS=>?_,λS=>S.le λg U=>?_⟩) λt Z=>?_
 ·obtain⟨t,h⟩:=spX v S
  have h1:Span p n (Fam (q+c) W) λi=>v i - sumTo (λj=>t j*V j i) c:=h.le λg U=>by
   obtain⟨k,J,rfl⟩:=U;rw [<- w1 k J];exact .gen ⟨k,by omega,rfl⟩
  have h2:Span p n (Fam (q+c) W) λi=>sumTo (λj=>t j*V j i) c:=Span.sum t λj I=>by rw [<- w2 j];exact .gen ⟨q+j,by omega,rfl⟩
  exact(h2.add h1 1).congr λi _=>by rw [Int.one_mul,Int.sub_add_cancel]
 ·obtain⟨k,J,rfl⟩:=U
  rcases zgF k q with z | z
  ·rw [w1 k z];exact KX _ (.gen ⟨k,z,rfl⟩)
  ·obtain⟨j,rfl⟩ : ∃j,k=q+j:=⟨k - q,by omega⟩
   rw [w2 j];exact a4 j ⋯
 ·have hz : ∀j,j<c->t (q+j)%p=0:=a6 (λj=>t (q+j)) ((wF (n:=n) B2 λj=> -1*t j).congr λi hi=>by
   have:=Z i hi;rw [Y]at this;have e:sumTo (λj=> -1*t j*B2 j i) q=sumTo (λj=>t j*B2 j i) q * -1:=by
    rw [<- xI];exact zy λj _=>by rw [zhH (-1),zie,zhH (-1),zie]
   rw [e];refine zig.mpr ?_;rw [<- this];congr 1;omega)
  intro j I;rcases zgF j q with z | z
  ·have h0 : ∀i,i<n->sumTo (λj=>t j*B2 j i) q%p=0:=λi hi=>by
    have:=Z i hi;rw [Y,zgL]at this;have e:sumTo (λj=>t (q+j)*V j i) c%p=sumTo (λ_=>0) c%p:=zW λj I=>by rw [zgt,hz j I];simp
    rw [e,zI]at this;simpa using this
   have h1:=h0 (l2 j) (O.lt j z);rw [je (f:=λk=>t k*B2 k (l2 j)) z λk J a8=>by rw [O.oth k j J z (zht a8)];simp]at h1;rw [O.one j z,Int.mul_one]at h1;exact h1
  ·obtain⟨k,rfl⟩ : ∃k,j=q+k:=⟨j - q,by omega⟩
   exact hz k ⋯
end
def cvL(A:Nat->Bar)(N d e:Nat):List Nat:=(zgj N).filter λj=>(A j).has d && (A j).has e
section
variable{p:Int}{w:Nat->Bool}{wd:Nat->Nat}{T:Nat->Nat->Nat->Int}{m N n:Nat}{A:Nat->Bar}{d:Nat}
theorem Yv{d e k:Nat}(z:k<(cvL A N d e).length):(cvL A N d e).getD k 0<N/\(A ((cvL A N d e).getD k 0)).has d=true/\(A ((cvL A N d e).getD k 0)).has e=true:=by
 have hm:(cvL A N d e).getD k 0∈cvL A N d e:=by rw [zgr,zgn z];exact zh6 _
 obtain⟨h1,h2⟩:=zgC.mp hm;simp only [Bool.and_eq_true]at h2;exact⟨zgl.mp h1,h2.1,h2.2⟩
theorem zdp(D:Decp p w wd T m N A)(hd:d<=m)(e:Nat):(cvL A N d e).length<=wd d:=by
 rw [<- D.cnt d hd];unfold cvL ixs;rw [<- zgY,<- zgY];exact List.countP_mono_left λj _ h=>by simp only [Bool.and_eq_true]at h;exact h.1
theorem Wj(d e:Nat)(t:Vc) : ∃a:Vc,∀k,k<(cvL A N d e).length->a ((cvL A N d e).getD k 0)=t k:=by
 refine⟨λj=>t ((cvL A N d e).idxOf j),λk z=>?_⟩;have nd:(cvL A N d e).Nodup:=zjL.sublist ziK;show t _=_;rw [zgr,zgn z,zjB,nd.idxOf_getElem _ z]
theorem Yu(d e:Nat)(a:Vc)(i:Nat):sumTo (λk=>a ((cvL A N d e).getD k 0)*(A ((cvL A N d e).getD k 0)).v d i) (cvL A N d e).length=sumTo (λj=>if (A j).has d=true then (if (A j).has e=true then a j else 0)*(A j).v d i else 0) N:=by
 have:=xG (λj=>(A j).has d && (A j).has e) (λj=>a j*(A j).v d i) N;refine this.trans (zy λj _=>?_);cases (A j).has d<;>cases (A j).has e<;>simp
theorem QB(hp:Pr p)(D:Decp p w wd T m N A)(hd:d+n<=m)(hw:wd d<=4){s q:Nat}{B B2:Nat->Vc}{l l2:Nat->Nat}(hX:IsB p (wd d) s B l)(O : ∀u,Span p (wd d) (Fam s B) u ↔ ∃z,Wk p w wd T d n u z)
 (hK:IsB p (wd d) q B2 l2) (S : ∀u,Span p (wd d) (Fam q B2) u↔Wk p w wd T d n u λ_=>0):q+(cvL A N d (d+n)).length=s:=by
 have hc:=zdp D (show d<=m by omega) (d+n);have hq:=k3 hK;refine Wd hp hX hK ⋯ ⋯ (V:=λk=>(A ((cvL A N d (d+n)).getD k 0)).v d) (λk I=>?_) (λv U=>(O v).mpr ⟨_,(S v).mp U⟩) (λv U=>?_) λt ht=>?_
 ·obtain⟨h1,h2,J⟩:=Yv I
  exact(O _).mpr ⟨_,Zi (D.ok _ h1) h2 n hd J⟩
 ·obtain⟨z,Y⟩:=(O v).mp U
  obtain⟨a,ha⟩:=D.sp d ⋯ v;obtain⟨b,hb⟩:=D.sp (d+n) hd z;have Z:=vV D n hd Y ha hb;refine⟨λk=>a ((cvL A N d (d+n)).getD k 0),(S _).mpr ?_⟩;let u:Nat->Vc:=λj=>if (A j).has d=true/\(A j).has (d+n)=false/\w ((A j).s+(A j).n - 1)=false then (A j).v d else λ_=>0;have hu : ∀j,j<N->Wk p w wd T d n (u j) λ_=>0:=λj hj=>by
   show Wk p w wd T d n (if _ then _ else _) _;split
   ·next h=>exact YM (D.ok j hj) h.1 h.2.2 n hd h.2.1
   ·exact JY n
  have hs:=W9 a u (λ_ _=>0) N hu;refine zfr (Jj hs λi hi=>?_) λi _=>by simp [zI]
  rw [Yu d (d+n) a i];rw [zhO,ha i hi,<- zhO];have e:sumTo (λj=>if (A j).has d=true then a j*(A j).v d i else 0) N - sumTo (λj=>if (A j).has d=true then (if (A j).has (d+n)=true then a j else 0)*(A j).v d i else 0) N=sumTo (λj=>(if (A j).has d=true then a j*(A j).v d i else 0)+(if (A j).has d=true then (if (A j).has (d+n)=true then a j else 0)*(A j).v d i else 0) * -1) N:=by
   rw [jC,xI];omega
  rw [e];refine zW λj hj=>?_;show _=a j*(if _ then (A j).v d else λ_=>0) i%p;cases h1:(A j).has d with
  | false=>simp
  | true=>
   cases h2:(A j).has (d+n)with
   | true=>
    have e0:a j*(A j).v d i+a j*(A j).v d i * -1=0:=by omega
    simp only [if_true,e0,Bool.true_eq_false,false_and,and_false,if_false,zjN]
   | false=>
    cases J:w ((A j).s+(A j).n - 1)with
    | false=>simp
    | true=>
     have:=(Z j hj h1).2 h2 J;simp only [if_true,zib,if_false,Int.zero_mul,Int.add_zero,zjN,Bool.true_eq_false,and_false];rw [zgt,this];simp
 ·obtain⟨a,ha⟩:=Wj (A:=A) (N:=N) d (d+n) t
  have Y:=(S _).mp ht;have Z:=vV D n hd Y (a:=λj=>if (A j).has (d+n)=true then a j else 0) (b:=λ_=>0) (λi hi=>by
   rw [<- Yu d (d+n) a i];congr 1;exact zy λk I=>by rw [ha k I]) (λi _=>by
   have:sumTo (λj=>if (A j).has (d+n)=true then 0*(A j).v (d+n) i else 0) N=sumTo (λ_=>0) N:=zy λj _=>by simp
   rw [this,zI])
  intro k I;obtain⟨h1,h2,J⟩:=Yv I;have:=(Z _ h1 h2).1 J;rw [J,if_pos rfl,ha k I]at this;simpa using this
theorem wT : ∀(t:Nat) (z:Vc),QW p w wd T d (wd d) t z↔Wk p w wd T d t z λx=>z (wd d+x)
 | 0,z=>Iff.rfl
 | t+1,z=>by
  have e : ∀u:Vc,QW p w wd T d (wd d) t (jT (wd d) z u)↔Wk p w wd T d t z u:=λu=>by
   rw [wT t];have e1:(λx=>jT (wd d) z u (wd d+x))=u:=funext λx=>jd x;rw [e1];exact⟨λh=>Jj h λi hi=>by rw [zR hi],λh=>Jj h λi hi=>by rw [zR hi]⟩
  show(∃u:Vc,QW p w wd T d (wd d) t (jT (wd d) z u)/\Stp p w wd T (d+t) u λx=>z (wd d+x)) ↔ ∃y,Wk p w wd T d t z y/\Lk p w wd T (d+t) y λx=>z (wd d+x);exact exists_congr λu=>and_congr (e u) Iff.rfl
end
section
variable{p:Int}{w:Nat->Bool}{wd:Nat->Nat}{T:Nat->Nat->Nat->Int}{m N:Nat}{A:Nat->Bar}
theorem VX(r:Nat)(t:Vc) : ∃a:Vc,∀k,k<(ixs A N r).length->a ((ixs A N r).getD k 0)=t k:=by
 refine⟨λj=>t ((ixs A N r).idxOf j),λk z=>?_⟩;show t _=_;rw [zgr,zgn z,zjB,(K2 A N r).idxOf_getElem _ z]
theorem K1(r:Nat)(a:Vc)(i:Nat):sumTo (λj=>if (A j).has r=true then a j*(A j).v r i else 0) N=app (zby A N r) (ixs A N r).length (λk=>a ((ixs A N r).getD k 0)) i:=by
 have:=xG (λj=>(A j).has r) (λj=>a j*(A j).v r i) N;rw [<- this];unfold app;rw [qm];rfl
theorem W1{r j:Nat}(z:j<N)(I:(A j).has r=true) : ∃k,k<(ixs A N r).length/\(ixs A N r).getD k 0=j:=by
 have J:j∈ixs A N r:=zgC.mpr ⟨zgl.mpr z,by simpa using I⟩;obtain⟨i,hi,e⟩:=zjl J;exact⟨i,hi,by rw [zgr,zgn hi];simpa using e⟩
theorem zbk(S:Pr p)(U : ∀k,wd k<=8)(ok : ∀j,j<N->BarOk p w wd T m (A j))(cnt : ∀r,r<=m->(ixs A N r).length=wd r)(O : ∀r,r<=m->∀v:Vc,∃t,∀i,i<wd r->v i%p=app (zby A N r) (wd r) t i%p):Decp p w wd T m N A where
 ok:=ok
 cnt:=cnt
 sp:=λr z v=>by
  obtain⟨t,I⟩:=O r z v;obtain⟨a,ha⟩:=VX (A:=A) (N:=N) r t;refine⟨a,λi hi=>?_⟩;rw [I i hi,K1,cnt r z];unfold app;congr 1;exact zy λk J=>by show _=_*a _;rw [ha k (by rw [cnt r z];exact J)]
 inj:=λr z t I j Y Z=>by
  obtain⟨k,J,e⟩:=W1 Y Z;have:=vh S (U r) (O r z) (t:=λk=>t ((ixs A N r).getD k 0)) (λi hi=>by
   have:=I i hi;rw [K1,cnt r z]at this;exact this) k (by rw [<- cnt r z];exact J)
  rw [e]at this;exact this
theorem Wf(S:Pr p)(U : ∀k,wd k<=8){bars:List Bar}(I:BrInv p w wd T m bars):Decp p w wd T m bars.length λj=>bars.getD j XU:=by
 let A:Nat->Bar:=λj=>bars.getD j XU;have O:bars=(zgj bars.length).map A:=(jR XU _).symm;have cnt : ∀r,r<=m->(ixs A bars.length r).length=wd r:=λr z=>by
  have:=I.ct r z;rw [O,zja,zgY]at this;exact this
 refine zbk S U (λj J=>I.ok _ ?_) cnt λr z v=>?_
 ·rw [zgr,zgn J];exact zh6 _
 ·have Y:Span p (wd r) (Fam (wd r) λj i=>zby A bars.length r i j) v:=(I.sp r z v).le λgg Z=>by
   obtain⟨b,h1,h2,rfl⟩:=Z;rw [O]at h1;obtain⟨j,J,rfl⟩:=zg1.mp h1;obtain⟨k,hk,e⟩:=W1 (A:=A) (zgl.mp J) h2;refine .gen ⟨k,by rw [<- cnt r z];exact hk,?_⟩;funext c;show(A j).v r c=(A ((ixs A bars.length r).getD k 0)).v r c;rw [e]
  exact col_span.mp Y
end
def F_kept:List D->Option Res:=jb 7 (zF (zO 3 (ja (zQ F_link (za (zc 0) (za (zc 1) (za (zc 2) zu)))))) (zF (zO 4 (sIx (zz (sIx (zf 0) (zh (.int 1)))) (zc 1))) (zF (zO 5 (sIx (zz (sIx (zf 0) (zh (.int 1)))) (zc 2))) (zF (zO 6 (ja (zQ F_base_of (za (sIx (zf 0) (zh (.int 0))) (za (zm jo (zc 5) (zc 4)) (za (ja (zC (zB (zf 3)) (.nm 0) 1 [4] z6 (zm jo (Qd (zc 0) (sBd (zc 1)) XT) (Qd (zc 0) XT (sBd (zc 1)))))) zu)))))) (jO (zm kf (zm kf (xV (zf 3)) (xV (jh (zQ F_behind_noughts (za (zc 5) (za (zc 6) zu)))))) (xV (jh (zQ F_behind_noughts (za (zc 4) (za (zc 3) zu)))))))))))
def F_number_of:List D->Option Res:=jb 4 (zF (zO 3 (zm jo (ZC (zc 0) (ju (za (zm kf (zc 1) (zh (.int 1))) (za (zc 2) zu))) (zh (.int 0))) (ZC (zc 0) (ju (za (zc 1) (za (zm jo (zc 2) (zh (.int 1))) zu))) (zh (.int 0))))) (jO (zm jo (zm kf (k0 (zc 0) (ju (za (zc 1) (za (zc 2) zu)))) (zc 3)) (ZC (zc 0) (ju (za (zm kf (zc 1) (zh (.int 1))) (za (zm jo (zc 2) (zh (.int 1))) zu))) (zh (.int 0))))))
def F_numbers:List D->Option Res:=jb 3 (zF (zO 1 (ja (zQ F_stretches_of (za (xV (zz (sIx (zf 0) (zh (.int 1))))) zu)))) (zF (zO 2 (v5 (zC (zB (zf 1)) (.tp [0,1]) 2 [0] z6 (ju (za (ju (za (zc 0) (za (zc 1) zu))) (za (zw F_kept (za (zc 2) (za (zc 0) (za (zc 1) zu)))) zu)))))) (jO (v5 (zC (zB (zf 1)) (.tp [0,1]) 2 [2] z6 (ju (za (ju (za (zc 0) (za (zc 1) zu))) (za (zw F_number_of (za (zc 2) (za (zc 0) (za (zc 1) zu)))) zu))))))))
def F_law_having:List D->Option Res:=jb 3 (jO (zay (jh (zC (Xb (zc 0)) (.nm 0) 1 [0,1,2] (wL (sB (zm dLe (sIx (zf 0) (zh (.int 0))) (zc 2))) (sB (zm dGe (sIx (zf 0) (zh (.int 1))) (zc 3)))) (k0 (zc 1) (zc 0))))))
def F_law_k27:List D->Option Res:=jb 14 (zF (zO 1 (zw F_law_cell (za (zc 0) (za (zh (.int 0)) zu)))) (zF (zO 2 (sIx (jh (jX (za (zh (.int 2)) (za (zh (.int 3)) (za (zh (.int 5)) (za (zh (.int 7)) zu)))))) (zm qa (zc 1) (zh (.int 4))))) (zF (zO 3 (zm jo (zh (.int 1)) (zm qa (zm Z5 (zc 1) (zh (.int 4))) (zh (.int 5))))) (zF (zO 4 (zw F_law_drawn_k22 (za (zc 0) (za (zh (.int 2)) (za (zc 2) (za (zw F_law_ways_k22 (za (zm Z5 (zc 1) (zh (.int 32))) (za (zc 3) zu))) (za (zh (.int 4)) zu))))))) (zF (zO 5 (zw F_numbers (za (zc 4) zu))) (zF (sIf (qN (sB (zaC (jh (zC (Xb (zc 5)) (.nm 0) 1 [5] z6 (Vm (zw F_law_whole (za (k0 (zc 1) (zc 0)) zu)) (zm dGe (k0 (zc 1) (zc 0)) (zh (.int 0))))))))) (jO (zh (.bl false))) jP) (zF (xK (zY (zc 3)) (.nm 6) (sIf (sB (zm dNe (zw F_law_having (za (zc 5) (za (zc 6) (za (zc 6) zu)))) (sIx (zz (sIx (zf 4) (zh (.int 1)))) (zc 6)))) (jO (zh (.bl false))) jP)) (zF (xK (wK (sIx (zf 4) (zh (.int 2)))) (.tp [6,7]) (zF (wI (.tp [8,9,10]) (sIx (zf 7) (zh (.int 1)))) (sIf (sB (zm dNe (zw F_law_having (za (zc 5) (za (zc 6) (za (zm jo (zc 6) (zh (.int 1))) zu)))) (xV (jh (zQ F_law_base_k22 (za (zc 2) (za (zc 9) (za (zc 10) zu)))))))) (jO (zh (.bl false))) jP))) (zF (zO 11 (zm qa (zw F_law_cell (za (zc 0) (za (zh (.int 1)) zu))) (zc 3))) (zF (zO 12 (zm jo (zc 11) (zm qa (zm Z5 (zw F_law_cell (za (zc 0) (za (zh (.int 1)) zu))) (zh (.int 7))) (zm kf (zc 3) (zc 11))))) (zF (zO 13 (zw F_kept (za (zc 4) (za (zc 11) (za (zc 12) zu))))) (zF (sIf (zaA (sB (zm dNe (zc 13) (zw F_law_having (za (zc 5) (za (zc 11) (za (zc 12) zu)))))) (wL (sB (zm dGt (zc 11) (zh (.int 0)))) (sB (zm dGt (zw F_kept (za (zc 4) (za (zm kf (zc 11) (zh (.int 1))) (za (zc 12) zu)))) (zc 13))))) (jO (zh (.bl false))) jP) (jO (sOr (zm dEq (zm jo (zc 12) (zh (.int 1))) (zc 3)) (zm dLe (zw F_kept (za (zc 4) (za (zc 11) (za (zm jo (zc 12) (zh (.int 1))) zu)))) (zc 13))))))))))))))))
def kp1:CO Fl:=zO 3 (ja (zQ F_link (za (zc 0) (za (zc 1) (za (zc 2) zu)))))
def kp2:CO Fl:=zO 4 (sIx (zz (sIx (zf 0) (zh (.int 1)))) (zc 1))
def kp3:CO Fl:=zO 5 (sIx (zz (sIx (zf 0) (zh (.int 1)))) (zc 2))
def kp4:CO Fl:=zO 6 (ja (zQ F_base_of (za (sIx (zf 0) (zh (.int 0))) (za (zm jo (zc 5) (zc 4)) (za (ja (zC (zB (zf 3)) (.nm 0) 1 [4] z6 (zm jo (Qd (zc 0) (sBd (zc 1)) XT) (Qd (zc 0) XT (sBd (zc 1)))))) zu)))))
def kp5:CO Fl:=jO (zm kf (zm kf (xV (zf 3)) (xV (jh (zQ F_behind_noughts (za (zc 5) (za (zc 6) zu)))))) (xV (jh (zQ F_behind_noughts (za (zc 4) (za (zc 3) zu))))))
theorem zc2:F_kept=jb 7 (zF kp1 (zF kp2 (zF kp3 (zF kp4 kp5)))):=rfl
section
variable{p:Int}{w:Nat->Bool}{wd:Nat->Nat}{T:Nat->Nat->Nat->Int}{m:Nat}
theorem Xy{a b q s:Nat}{B:Nat->Vc}{l:Nat->Nat}(I:IsB p (a+b) q B l)(hs:s<=q)(s1 : ∀k,k<s->l k<a)(s2 : ∀k,s<=k->k<q->a<=l k) :
 IsB p a s B l/\∀u,Span p a (Fam s B) u ↔ ∃z,Span p (a+b) (Fam q B) (jT a u z):=by
 refine⟨{
  lt:=s1
  mono:=λk m h1 h2=>I.mono k m h1 ⋯
  one:=λk J=>I.one k ⋯
  bef:=λk j J S=>I.bef k j ⋯ S
  oth:=λk m J hm U=>I.oth k m ⋯ ⋯ U
  rng:=λk i J hi=>I.rng k i ⋯ ⋯},λu=>⟨λO=>?_,λO=>?_⟩⟩
 ·obtain⟨t,Y⟩:=yM O
  refine⟨λj=>sumTo (λk=>t k*B k (a+j)) s,(Span.sum (u:=B) t (m:=s) λk J=> .gen ⟨k,by omega,rfl⟩).congr λi hi=>?_⟩;rcases zgF i a with z | z
  ·rw [zR z,Y i z]
  ·obtain⟨j,rfl⟩ : ∃j,i=a+j:=⟨i - a,by omega⟩
   rw [jd]
 ·obtain⟨z,Z⟩:=O
  have c:=ya I Z;refine(wF (n:=a) B λk=>jT a u z (l k)).congr λi hi=>?_;have:=c i ⋯;rw [zR hi]at this;rw [this];obtain⟨e,rfl⟩ : ∃e,q=s+e:=⟨q - s,by omega⟩;rw [kl];have e0:sumTo (λk=>jT a u z (l (s+k))*B (s+k) i) e=sumTo (λ_=>0) e:=zy λk J=>by
   rw [I.bef (s+k) i ⋯ (by have:=s2 (s+k) ⋯ ⋯;omega)];simp
  rw [e0,zI,Int.add_zero]
theorem Q3{a b q:Nat}{B:Nat->Vc}(v:Vc):Span p (b+a) (Fam q λk=>jT b (λj=>B k (a+j)) (B k)) (jT b (λ_=>0) v)↔Span p (a+b) (Fam q B) (jT a v λ_=>0):=by
 constructor
 ·intro h
  refine(h.map (n':=a+b) (G':=Fam q B) (λi=>if i<a then b+i else i - a) (λi hi=>by split<;>omega) λg I=>?_).congr λi hi=>?_
  ·obtain⟨k,J,rfl⟩:=I
   refine(Span.gen (g:=B k) ⟨k,J,rfl⟩).congr λi hi=>?_;show jT b (λj=>B k (a+j)) (B k) (if i<a then b+i else i - a)%p=_;split
   ·rw [jd]
   ·rw [zR ⋯];congr 2;omega
  ·split
   ·next z=>rw [jd,zR z]
   ·next z=>
    obtain⟨j,rfl⟩ : ∃j,i=a+j:=⟨i - a,by omega⟩;rw [jd,zR ⋯]
 ·intro h
  refine(h.map (n':=b+a) (G':=Fam q λk=>jT b (λj=>B k (a+j)) (B k)) (λi=>if i<b then a+i else i - b) (λi hi=>by split<;>omega) λg I=>?_).congr λi hi=>?_
  ·obtain⟨k,J,rfl⟩:=I
   refine(Span.gen (g:=jT b (λj=>B k (a+j)) (B k)) ⟨k,J,rfl⟩).congr λi hi=>?_;split
   ·next z=>rw [zR z]
   ·next z=>
    obtain⟨j,rfl⟩ : ∃j,i=b+j:=⟨i - b,by omega⟩;rw [jd];congr 2;omega
  ·split
   ·next z=>rw [jd,zR z]
   ·next z=>
    obtain⟨j,rfl⟩ : ∃j,i=b+j:=⟨i - b,by omega⟩;rw [jd,zR ⋯];congr 2;omega
theorem K0(hp:Pr p)(U : ∀k,wd k<=4)(hT : ∀k x y,0<=T k x y/\T k x y<p)(hm:m<=20){i j:Nat}(a8:i<=j)(hj:j<=m) :
 ∃(s q:Nat) (B B2:Nat->Vc) (l l2:Nat->Nat),F_kept [qe p m w wd T,.int i,.int j]=some (.val (.int ((s:Int) - (q:Int))))/\IsB p (wd i) s B l/\(∀u,Span p (wd i) (Fam s B) u ↔ ∃z,Wk p w wd T i (j - i) u z)/\IsB p (wd i) q B2 l2/\∀u,Span p (wd i) (Fam q B2) u↔Wk p w wd T i (j - i) u λ_=>0:=by
 have hl:=jf;have ha:=U i;have aj:=U j;obtain⟨q,B,l,e1,J,Y⟩:=YY (m:=m) (w:=w) hp U hT a8 hj;have hq:=k3 J;have O:q<=lim:=by omega
 obtain⟨r,B',l',e2,S,hS⟩:=jV hp (show wd j+wd i<=100 by omega) O .L λk=>jT (wd j) (λx=>B k (wd i+x)) (B k);have hr:=k3 S;obtain⟨s,hs,s1,s2⟩:=xJ (l:=l) (wd i) J.mono;obtain⟨s',a3,a4,a5⟩:=xJ (l:=l') (wd j) S.mono;have b1:=xf J O hs s1 s2;have b2:=xf S ⋯ a3 a4 a5;obtain⟨h1,h2⟩:=Xy J hs s1 s2;obtain⟨h3,h4⟩:=vX S a3 a4 a5;refine⟨s,r - s',B,_,l,_,?_,h1,λu=>?_,h3,λu=>?_⟩
 ·have ad:i<m+1:=by omega
  have ae:j<m+1:=by omega
  have sw:zG (.nm 0) z6 (zm jo (Qd (zc 0) (sBd (zc 1)) XT) (Qd (zc 0) XT (sBd (zc 1)))) [.no,.val (.int (wd i))] (zL q (wd i+wd j) B)=some (zL q (wd j+wd i) λk=>jT (wd j) (λx=>B k (wd i+x)) (B k)):=by
   unfold zL;refine zo _ _ λk hk=>zq rfl rfl ?_;have a6:wd j+wd i<=lim:=by omega
   simp [QL,QK,jo,a6,qY]
  let R:=qe p m w wd T;let I:D:= .lst (zL q (wd i+wd j) B);let L2:D:= .lst (zL r (wd j+wd i) B');rw [zc2];refine jN (zD (γ':=[.val R,.val (.int i),.val (.int j),.val I,.no,.no,.no]) ?_
   (zD (γ':=[.val R,.val (.int i),.val (.int j),.val I,.val (.int (wd i)),.no,.no]) ?_
   (zD (γ':=[.val R,.val (.int i),.val (.int j),.val I,.val (.int (wd i)),.val (.int (wd j)),.no]) ?_
   (zD (γ':=[.val R,.val (.int i),.val (.int j),.val I,.val (.int (wd i)),.val (.int (wd j)),.val L2]) ?_ ?_))))
  ·simp [kp1,zV,zgm,R,I,e1]
  ·simp [kp2,R,qA,ad]
  ·simp [kp3,R,qA,ae]
  ·have c1:((wd j:Int)+(wd i:Int))=((wd j+wd i:Nat):Int):=by omega
   have a6:wd j+wd i<=lim:=by omega
   simp only [dsq]at e2;simp [kp4,z4,R,qA,I,O,sw];rw [c1,e2];simp [L2]
  ·have r1:q - s<=lim:=by omega
   have r2:r - s'<=lim:=by omega
   have f1:(q:Int) - ((r - s':Nat):Int) - ((q - s:Nat):Int)=(s:Int) - ((r - s':Nat):Int):=by omega
   simp [kp5,I,L2,b1,b2,O,r1,r2,f1]
 ·rw [h2 u]
  constructor
  ·rintro⟨z,Z⟩
   have:=(wT (j - i) _).mp ((Y _).mp Z);exact⟨_,Jj this λx hx=>by rw [zR hx]⟩
  ·rintro⟨z,Z⟩
   refine⟨z,(Y _).mpr ((wT (j - i) _).mpr ?_)⟩;rw [show(λx=>jT (wd i) u z (wd i+x))=z from funext λx=>jd x];exact Jj Z λx hx=>by rw [zR hx]
 ·rw [h4 u,hS,Q3,Y,wT,show(λx=>jT (wd i) u (λ_=>0) (wd i+x))=λ_=>0 from funext λx=>jd x]
  exact⟨λh=>Jj h λx hx=>by rw [zR hx],λh=>Jj h λx hx=>by rw [zR hx]⟩
end
def stN(M:Nat):List (Nat×Nat):=(zgj M).flatMap λi=>(zh3 i (M - i)).map λj=>(i,j)
def kI(s:Nat×Nat):List Int:=[(s.1:Int),(s.2:Int)]
def kD(s:Nat×Nat):D:= .tup [.int s.1,.int s.2]
theorem mem_st{M:Nat}{s:Nat×Nat}:s∈stN M↔s.1<=s.2/\s.2<M:=by
 unfold stN;simp only [List.mem_flatMap,zgl,zg1,List.mem_range'_1];constructor
 ·rintro⟨i,hi,j,z,rfl⟩
  exact⟨z.1,by show j<M;omega⟩
 ·intro h
  exact⟨s.1,by omega,s.2,⟨h.1,by omega⟩,rfl⟩
theorem yv : ∀M:Fin 7,(stN M.val).Nodup/\((stN M.val).map kI).Nodup/\(stN M.val).length<=21:=by decide +kernel
theorem zen : ∀M:Fin 7,F_stretches_of [.int (M.val:Int)]=some (.own ((stN M.val).map kD))
 | ⟨0,_⟩=>by kernel_rfl
 | ⟨1,_⟩=>by kernel_rfl
 | ⟨2,_⟩=>by kernel_rfl
 | ⟨3,_⟩=>by kernel_rfl
 | ⟨4,_⟩=>by kernel_rfl
 | ⟨5,_⟩=>by kernel_rfl
 | ⟨6,_⟩=>by kernel_rfl
theorem zc8{s t:Nat×Nat}(h:kI s=kI t):s=t:=by
 unfold kI at h;simp only [List.cons.injEq,and_true]at h;obtain⟨a,b⟩:=s;obtain⟨c,d⟩:=t;simp only [Prod.mk.injEq];have h1:=h.1;have h2:=h.2;dsimp only at h1 h2;omega
theorem JK(f:Nat×Nat->D)(k:List Int) : ∀L:List (Nat×Nat),XD (L.map kI) (L.map f) k=(L.find? λs=>decide (kI s=k)).map f
 | []=>rfl
 | s::L=>by
  show(if kI s=k then _ else _)=_;by_cases h:kI s=k
  ·rw [if_pos h,List.find?_cons_of_pos (by simpa using h)];rfl
  ·rw [if_neg h,List.find?_cons_of_neg (by simpa using h)];exact JK f k L
theorem Yg{L:List (Nat×Nat)}{s:Nat×Nat}(h:s∈L):(L.find? λt=>decide (kI t=kI s))=some s:=by
 cases e:L.find? λt=>decide (kI t=kI s)with
 | none=>
  have:=ziP.mp e s h;simp at this
 | some t=>
  have:=List.find?_some e;rw [zc8 (of_decide_eq_true this)]
def atS(f:Nat×Nat->Int)(M:Nat)(a b:Int):Int:=if 0<=a/\a<=b/\b<M then f (a.toNat,b.toNat)else 0
theorem w5(f:Nat×Nat->Int)(M:Nat)(a b:Int):(XD ((stN M).map kI) ((stN M).map λs=> .int (f s)) [a,b]).getD (.int 0) = .int (atS f M a b):=by
 rw [JK (λs=> .int (f s))];unfold atS;split
 ·next h=>
  have e:[a,b]=kI (a.toNat,b.toNat):=by unfold kI;simp;omega
  rw [e,Yg (mem_st.mpr (by show a.toNat<=b.toNat/\b.toNat<M;omega))];rfl
 ·next h=>
  rw [ziP.mpr λs I z=>h ?_]
  ·rfl
  ·have hm:=mem_st.mp I
   have z:=of_decide_eq_true z;unfold kI at z;simp only [List.cons.injEq,and_true]at z;omega
theorem JL(f:Nat×Nat->Int){M:Nat}{s:Nat×Nat}(h:s∈stN M):XD ((stN M).map kI) ((stN M).map λs=>D.int (f s)) [(s.1:Int),(s.2:Int)]=some (.int (f s)):=by
 rw [JK (λs=> .int (f s))];rw [show [(s.1:Int),(s.2:Int)]=kI s from rfl,Yg h];rfl
def za1(f:Nat×Nat->Int)(M:Nat)(s:Nat×Nat):Int:=f s - (atS f M ((s.1:Int) - 1) s.2+atS f M s.1 ((s.2:Int)+1))+atS f M ((s.1:Int) - 1) ((s.2:Int)+1)
def yz(f:Nat×Nat->Int)(M:Nat):D:= .dct ((stN M).map kI) ((stN M).map λs=> .int (f s))
theorem VW(a b:Int):W0 (.tup [.int a,.int b])=some [a,b]:=rfl
def no1:CO Fl:=zO 3 (zm jo (ZC (zc 0) (ju (za (zm kf (zc 1) (zh (.int 1))) (za (zc 2) zu))) (zh (.int 0))) (ZC (zc 0) (ju (za (zc 1) (za (zm jo (zc 2) (zh (.int 1))) zu))) (zh (.int 0))))
def no2:CO Fl:=jO (zm jo (zm kf (k0 (zc 0) (ju (za (zc 1) (za (zc 2) zu)))) (zc 3)) (ZC (zc 0) (ju (za (zm kf (zc 1) (zh (.int 1))) (za (zm jo (zc 2) (zh (.int 1))) zu))) (zh (.int 0))))
theorem zcW:F_number_of=jb 4 (zF no1 no2):=rfl
theorem KJ(f:Nat×Nat->Int){M:Nat}{s:Nat×Nat}(h:s∈stN M):F_number_of [yz f M,.int s.1,.int s.2]=some (.val (.int (za1 f M s))):=by
 have h1:=w5 f M ((s.1:Int) - 1) s.2;have h2:=w5 f M s.1 ((s.2:Int)+1);have z:=w5 f M ((s.1:Int) - 1) ((s.2:Int)+1);have I:=JL f h;rw [zcW];refine jN (zD (γ':=[.val (yz f M),.val (.int s.1),.val (.int s.2),.val (.int (atS f M ((s.1:Int) - 1) s.2+atS f M s.1 ((s.2:Int)+1)))]) ?_ ?_)
 ·simp [no1,zV,zgm,yz,V7,VW,h1,h2]
 ·simp [no2,yz,V7,VW,z,I,za1]
theorem wB(f:Nat×Nat->Int) : ∀L:List (Nat×Nat),xj (L.map λs=>D.tup [kD s,.int (f s)])=some (L.map kD,L.map λs=> .int (f s))
 | []=>rfl
 | s::L=>by
  show(xj (L.map λs=>D.tup [kD s,.int (f s)])).map _=_;rw [wB f L];rfl
theorem KT : ∀L:List (Nat×Nat),Xv (L.map kD)=some (L.map kI)
 | []=>rfl
 | s::L=>by
  show(W0 (kD s)).bind _=_;rw [show W0 (kD s)=some (kI s)from rfl];show(Xv (L.map kD)).map _=_;rw [KT L];rfl
def nm1:CO Fl:=zO 1 (ja (zQ F_stretches_of (za (xV (zz (sIx (zf 0) (zh (.int 1))))) zu)))
def nm2:CO Fl:=zO 2 (v5 (zC (zB (zf 1)) (.tp [0,1]) 2 [0] z6 (ju (za (ju (za (zc 0) (za (zc 1) zu))) (za (zw F_kept (za (zc 2) (za (zc 0) (za (zc 1) zu)))) zu)))))
def nm3:CO Fl:=jO (v5 (zC (zB (zf 1)) (.tp [0,1]) 2 [2] z6 (ju (za (ju (za (zc 0) (za (zc 1) zu))) (za (zw F_number_of (za (zc 2) (za (zc 0) (za (zc 1) zu)))) zu)))))
theorem zcZ:F_numbers=jb 3 (zF nm1 (zF nm2 nm3)):=rfl
section
variable{p:Int}{w:Nat->Bool}{wd:Nat->Nat}{T:Nat->Nat->Nat->Int}{m:Nat}
theorem Xo(hm:m<=5)(f:Nat×Nat->Int)(Y : ∀s,s∈stN (m+1)->F_kept [qe p m w wd T,.int s.1,.int s.2]=some (.val (.int (f s)))):F_numbers [qe p m w wd T]=some (.val (yz (za1 f (m+1)) (m+1))):=by
 have hl:=jf;obtain⟨n1,z,Z⟩:=yv ⟨m+1,by omega⟩;have J:=zen ⟨m+1,by omega⟩;dsimp only at n1 z Z J;have O:(stN (m+1)).length<=lim:=by omega
 let S:D:= .lst ((stN (m+1)).map kD);have c1:zG (.tp [0,1]) z6 (ju (za (ju (za (zc 0) (za (zc 1) zu))) (za (zw F_kept (za (zc 2) (za (zc 0) (za (zc 1) zu)))) zu))) [.no,.no,.val (qe p m w wd T)] ((stN (m+1)).map kD)=some ((stN (m+1)).map λs=>D.tup [kD s,.int (f s)]):=by
  refine zo _ _ λs I=>zq (γ1:=[.val (.int s.1),.val (.int s.2),.val (qe p m w wd T)]) rfl rfl ?_;have:=Y s I;simp [this,kD]
 have c2:zG (.tp [0,1]) z6 (ju (za (ju (za (zc 0) (za (zc 1) zu))) (za (zw F_number_of (za (zc 2) (za (zc 0) (za (zc 1) zu)))) zu))) [.no,.no,.val (yz f (m+1))] ((stN (m+1)).map kD)=some ((stN (m+1)).map λs=>D.tup [kD s,.int (za1 f (m+1) s)]):=by
  refine zo _ _ λs I=>zq (γ1:=[.val (.int s.1),.val (.int s.2),.val (yz f (m+1))]) rfl rfl ?_;have:=KJ f I;simp [this,kD]
 have u1:=wB f (stN (m+1));have u2:=wB (za1 f (m+1)) (stN (m+1));have U:=KT (stN (m+1));have em:((m:Int)+1)=((m+1:Nat):Int):=by omega
 rw [zcZ];refine jN (zD (γ':=[.val (qe p m w wd T),.val S,.no]) ?_ (zD (γ':=[.val (qe p m w wd T),.val S,.val (yz f (m+1))]) ?_ ?_))
 ·simp [nm1,zV,zgm,qA]
  rw [em,J];simp [S]
 ·simp [nm2,z4,S,O,c1,u1,U,z,yz]
 ·simp [nm3,z4,S,O,c2,u2,U,z]
  rfl
end
def Q4:List Int->Int
 | []=>0
 | x::r=>x+Q4 r
theorem Zt : ∀L:List Int,XS (L.map D.int)=some (Q4 L)
 | []=>rfl
 | x::L=>by
  show(XS (L.map D.int)).map _=_;rw [Zt L];rfl
def kC(i j:Nat)(s:Nat×Nat):Bool:=decide (s.1<=i) && decide (j<=s.2)
def hv1:CO Fl:=jO (zay (jh (zC (Xb (zc 0)) (.nm 0) 1 [0,1,2] (wL (sB (zm dLe (sIx (zf 0) (zh (.int 0))) (zc 2))) (sB (zm dGe (sIx (zf 0) (zh (.int 1))) (zc 3)))) (k0 (zc 1) (zc 0)))))
theorem zdi:F_law_having=jb 3 (hv1):=rfl
theorem Ya(g:Nat×Nat->Int){M:Nat}(hM:M<=6)(i j:Nat):F_law_having [yz g M,.int i,.int j]=some (.val (.int (Q4 (((stN M).filter (kC i j)).map g)))):=by
 have hl:=jf;obtain⟨n1,J,O⟩:=yv ⟨M,by omega⟩;dsimp only at n1 J O;have z:(stN M).length<=lim:=by omega
 have S:((λk=>D.tup (zjP D.int k))∘kI)=kD:=rfl;have I:zG (.nm 0) (wL (sB (zm dLe (sIx (zf 0) (zh (.int 0))) (zc 2))) (sB (zm dGe (sIx (zf 0) (zh (.int 1))) (zc 3)))) (k0 (zc 1) (zc 0)) [.no,.val (yz g M),.val (.int i),.val (.int j)] ((stN M).map kD)=some (((stN M).filter (kC i j)).map λs=>D.int (g s)):=by
  refine zP (g:=kD) (kC i j) (λs=> .int (g s)) (stN M) λs U=>⟨[.val (kD s),.val (yz g M),.val (.int i),.val (.int j)],rfl,?_,λ_=>?_⟩
  ·simp [kD,kC]
   by_cases h1:s.1<=i<;>by_cases h2:j<=s.2<;>simp [h1,h2]
  ·have:=JL g U
   simp [kD,yz,VW,this]
 rw [zdi];refine jN ?_;simp only [hv1];have e1:(((stN M).filter (kC i j)).map λs=>D.int (g s))=(((stN M).filter (kC i j)).map g).map D.int:=by rw [zhf];rfl
 have Y:=Zt (((stN M).filter (kC i j)).map g);have Z:((stN M).filter (kC i j)).length<=lim:=zhh (zi9 _ _) z;simp [zV,zgm,z4,yz,z,Z];rw [S];unfold yz at I;rw [I,e1];simp;rw [<- zhf];exact Y
def cvZ(K:List (Nat×Nat))(a b:Int):Nat:=K.countP λx=>decide ((x.1:Int)<=a) && decide (b<=(x.2:Int))
def muZ(K:List (Nat×Nat))(s:Nat×Nat):Nat:=K.countP λx=>decide (x=s)
theorem kJ(x:Nat×Nat)(K:List (Nat×Nat))(a b:Int):(cvZ (x::K) a b:Int)=(cvZ K a b:Int)+if (x.1:Int)<=a/\b<=(x.2:Int)then 1 else 0:=by
 unfold cvZ;rw [List.countP_cons];by_cases h1:(x.1:Int)<=a
 ·by_cases h2:b<=(x.2:Int)
  ·rw [if_pos (show(decide ((x.1:Int)<=a) && decide (b<=(x.2:Int)))=true by simp only [decide_eq_true h1,decide_eq_true h2];rfl),if_pos ⟨h1,h2⟩];rfl
  ·rw [if_neg (show ¬(decide ((x.1:Int)<=a) && decide (b<=(x.2:Int)))=true by simp only [decide_eq_false h2,Bool.and_false];decide),if_neg λz=>h2 z.2];rfl
 ·rw [if_neg (show ¬(decide ((x.1:Int)<=a) && decide (b<=(x.2:Int)))=true by simp only [decide_eq_false h1,Bool.false_and];decide),if_neg λz=>h1 z.1];rfl
theorem Qt(x s:Nat×Nat)(K:List (Nat×Nat)):(muZ (x::K) s:Int)=(muZ K s:Int)+if (x.1=s.1/\x.2=s.2)then 1 else 0:=by
 unfold muZ;rw [List.countP_cons];by_cases h:x=s
 ·rw [if_pos (decide_eq_true h),if_pos (by rw [h];exact⟨rfl,rfl⟩)];rfl
 ·rw [if_neg (by simpa using h),if_neg λz=>h (Prod.ext z.1 z.2)];rfl
theorem ZY(s:Nat×Nat) : ∀K:List (Nat×Nat),(cvZ K s.1 s.2:Int) - ((cvZ K ((s.1:Int) - 1) s.2:Int)+(cvZ K s.1 ((s.2:Int)+1):Int))+(cvZ K ((s.1:Int) - 1) ((s.2:Int)+1):Int)=(muZ K s:Int)
 | []=>rfl
 | x::K=>by
  have z:=ZY s K;rw [kJ,kJ,kJ,kJ,Qt];generalize (cvZ K s.1 s.2:Int)=I at *;generalize (cvZ K ((s.1:Int) - 1) s.2:Int)=J at *;generalize (cvZ K s.1 ((s.2:Int)+1):Int)=O at *;generalize (cvZ K ((s.1:Int) - 1) ((s.2:Int)+1):Int)=S at *;generalize (muZ K s:Int)=c5 at *
  repeat' split
  all_goals omega
theorem WX(x:Nat×Nat) : ∀{L:List (Nat×Nat)},L.Nodup->Q4 (L.map λs=>if x=s then (1:Int)else 0)=if x∈L then 1 else 0
 | [],_=>rfl
 | s::L,h=>by
  have h':=ziq.mp h;show(if x=s then (1:Int)else 0)+Q4 (L.map λs=>if x=s then (1:Int)else 0)=_;rw [WX x h'.2];by_cases e:x=s
  ·subst e
   simp [h'.1]
  ·simp [e]
theorem Qb(f g:Nat×Nat->Int) : ∀L:List (Nat×Nat),Q4 (L.map λs=>f s+g s)=Q4 (L.map f)+Q4 (L.map g)
 | []=>rfl
 | s::L=>by
  show f s+g s+Q4 (L.map λs=>f s+g s)=f s+Q4 (L.map f)+(g s+Q4 (L.map g));rw [Qb f g L];omega
theorem WC{M:Nat}(i j:Nat)(hn:(stN M).Nodup) : ∀{K:List (Nat×Nat)},(∀x,x∈K->x∈stN M)->Q4 (((stN M).filter (kC i j)).map λs=>(muZ K s:Int))=(cvZ K i j:Int)
 | [],_=>by
  have e : ∀L:List (Nat×Nat),Q4 (L.map λs=>(muZ [] s:Int))=0:=λL=>by
   induction L with
   | nil=>rfl
   | cons s L I=>show(muZ [] s:Int)+_=0;rw [I];rfl
  rw [e];rfl
 | x::K,h=>by
  have I:=WC i j hn (K:=K) λy O=>h y (zgJ _ O);have e:(λs=>(muZ (x::K) s:Int))=λs=>(if x=s then (1:Int)else 0)+(muZ K s:Int):=funext λs=>by
   rw [Qt];by_cases z:x=s
   ·rw [if_pos z,if_pos (by rw [z];exact⟨rfl,rfl⟩)];omega
   ·rw [if_neg z,if_neg λq=>z (Prod.ext q.1 q.2)];omega
  rw [e,Qb,I,WX x (hn.sublist ziK),kJ];have hx:=h x zgI;have J:x∈(stN M).filter (kC i j)↔kC i j x=true:=by simp [hx]
  by_cases c:kC i j x=true
  ·rw [if_pos (J.mpr c)]
   unfold kC at c;simp only [Bool.and_eq_true,decide_eq_true_eq]at c;rw [if_pos ⋯];omega
  ·rw [if_neg λz=>c (J.mp z)]
   unfold kC at c;simp only [Bool.and_eq_true,decide_eq_true_eq]at c;rw [if_neg λz=>c ⟨by omega,by omega⟩];omega
theorem Wi{K:List (Nat×Nat)}{a b a' b':Int}(h1:a<=a')(h2:b'<=b):cvZ K a b<=cvZ K a' b':=by
 unfold cvZ;exact List.countP_mono_left λx _ h=>by
  simp only [Bool.and_eq_true,decide_eq_true_eq]at h ⊢;omega
section
variable{p:Int}{w:Nat->Bool}{wd:Nat->Nat}{T:Nat->Nat->Nat->Int}{m N:Nat}{A:Nat->Bar}
def vE(A:Nat->Bar)(N:Nat):List (Nat×Nat):=(zgj N).map λj=>((A j).s,(A j).s+(A j).n - 1)
theorem KZ(D:Decp p w wd T m N A) : ∀x,x∈vE A N->x∈stN (m+1):=λx hx=>by
 obtain⟨j,z,rfl⟩:=zg1.mp hx;have h1:=(D.ok j (zgl.mp z)).n1;have h2:=(D.ok j (zgl.mp z)).le;exact mem_st.mpr (by show(A j).s<=(A j).s+(A j).n - 1/\(A j).s+(A j).n - 1<m+1;omega)
theorem Yy(D:Decp p w wd T m N A){i j:Nat}(I:i<=j):(cvL A N i j).length=cvZ (vE A N) i j:=by
 unfold cvL cvZ vE;rw [<- zgY,zja];refine zhN λk z=>?_;have h1:=(D.ok k (zgl.mp z)).n1;simp only [Bool.and_eq_true,Function.comp_def,decide_eq_true_eq];rw [has_iff,has_iff];omega
theorem zbB(D:Decp p w wd T m N A){a b:Int}(I:a<=b):atS (λs=>(cvZ (vE A N) s.1 s.2:Int)) (m+1) a b=(cvZ (vE A N) a b:Int):=by
 unfold atS;split
 ·next h=>
  show((cvZ (vE A N) (a.toNat:Int) (b.toNat:Int):Nat):Int)=_;rw [ziM h.1,ziM ⋯]
 ·next h=>
  have:cvZ (vE A N) a b=0:=by
   unfold cvZ;rw [zjn];intro x hx z;have:=mem_st.mp (KZ D x hx);simp only [Bool.and_eq_true,decide_eq_true_eq]at z;omega
  rw [this];rfl
theorem zcV(D:Decp p w wd T m N A){s:Nat×Nat}(z:s.1<=s.2):za1 (λs=>(cvZ (vE A N) s.1 s.2:Int)) (m+1) s=(muZ (vE A N) s:Int):=by
 unfold za1;rw [zbB D ⋯,zbB D ⋯,zbB D ⋯];exact ZY s _
theorem QA(z:Pr p)(I : ∀k,wd k<=4)(O : ∀k x y,0<=T k x y/\T k x y<p)(hm:m<=20)(D:Decp p w wd T m N A){i j:Nat}(J:i<=j)(S:j<=m):F_kept [qe p m w wd T,.int i,.int j]=some (.val (.int ((cvZ (vE A N) i j:Nat):Int))):=by
 obtain⟨s,q,B,B2,l,l2,e,h1,h2,U,Y⟩:=K0 (w:=w) z I O hm J S;have:=QB z D (n:=j - i) ⋯ (I i) h1 h2 U Y;rw [show i+(j - i)=j by omega]at this;rw [e,<- Yy D J];congr 3;omega
end
def ZD:CO Fl:=(zF (wI (.tp [7,8]) (zw F_law_ends_k22 (za (zc 5) (za (zc 6) zu)))) (qp 4 (ju (za (zc 6) (za (ju (za (sIx (zf 2) (zc 8)) (za (sIx (zf 2) (zc 7)) (za (zM (jh (zC (zB (zz (sIx (zf 3) (zc 5)))) (.nm 0) 1 [] z6 (zM (zf 0))))) zu)))) zu)))))
theorem Km:F_law_row_k22=jb 9 (zF (qJ 4 (jX zu)) (zF (xK (ye (zc 1)) (.tp [5,6]) ZD) (jO (ju (za (zc 0) (za (zM (zf 2)) (za (zM (zf 4)) zu))))))):=rfl
def Yr:CO Fl:=(zF (wI (.tp [9,10]) (zw F_law_ends_k22 (za (zc 7) (za (zc 8) zu)))) (qp 6 (ja (zQ F_law_rows_k22 (za (zc 0) (za (zm jo (zm jo (zc 1) (zh (.int 10))) (zm qi (zh (.int 20)) (zc 7))) (za (zc 2) (za (sIx (zf 5) (zc 10)) (za (sIx (zf 5) (zc 9)) zu)))))))))
theorem JQ:F_law_drawn_k22=jb 11 (zF (zO 5 (ja (zC (zY (zm jo (Js (zc 3)) (zh (.int 1)))) (.nm 0) 1 [0,1,4] z6 (zm qa (zw F_law_cell (za (zc 1) (za (zm jo (zc 2) (zc 0)) zu))) (zm jo (zc 3) (zh (.int 1))))))) (zF (qJ 6 (jX zu)) (zF (xK (ye (zc 3)) (.tp [7,8]) Yr) (zbH 6 (jO (zw F_law_row_k22 (za (zc 2) (za (zc 3) (za (zc 5) (za (zc 6) zu)))))))))):=rfl
section
variable{p:Int}{m:Nat}{w:Nat->Bool}{wd:Nat->Nat}{T:Nat->Nat->Nat->Int}
def qz(w:Nat->Bool)(wd:Nat->Nat)(T:Nat->Nat->Nat->Int)(m:Nat):List D:=(zgj m).map λk=>D.lst (jG (hiW w wd k) (wiW w wd k) (T k))
@[simp] theorem X7(m):(qz w wd T m).length=m:=by simp [qz]
theorem Jm(k):qz w wd T (k+1)=qz w wd T k++[D.lst (jG (hiW w wd k) (wiW w wd k) (T k))]:=by simp [qz,zhi]
theorem XN(k):qR (k+1) w wd T=qR k w wd T++[qM w wd T k]:=by simp [qR,zhi]
theorem VP(h v:Nat)(f:Nat->Nat->Int):zG (.nm 0) z6 (zM (zf 0)) [Cell.no] (jG h v f)=some (zL h v f):=by
 unfold jG zL;refine zo _ _ λy z=>zq rfl rfl ?_;simp
abbrev rc(p:Int)(m:Nat)(w:Nat->Bool)(wd:Nat->Nat)(T:Nat->Nat->Nat->Int)(acc:List D)(c5 c6 c7 c8:Cell):Ctx:=[.val (.int p),.val (.str (kh m w)),.val (.lst (zA (m+1) λk=>(wd k:Int))),.val (.lst (qz w wd T m)),.own acc,c5,c6,c7,c8]
theorem Xc(hm:m<=5)(I : ∀k,wd k<=4){k:Nat}(z:k<m)(acc:List D)(ha:acc.length<lim)(c7 c8:Cell) : ∃J O,ZD (rc p m w wd T acc (.val (.int k)) (.val (.str (qO (wch (w k))))) c7 c8)=some (.next (rc p m w wd T (acc++[qM w wd T k]) (.val (.int k)) (.val (.str (qO (wch (w k))))) J O)):=by
 have hl:=jf;have h1:=Yn w z;have h2:=YL w z;have S:hiW w wd k<=lim:=by rw [QD];have:=I (endR w k);omega
 have U:ixD (m+1) ((endR w k:Nat):Int)=some (endR w k):=by rw [j4,if_pos h1]
 have Y:ixD (m+1) ((begR w k:Nat):Int)=some (begR w k):=by rw [j4,if_pos h2]
 have Z:ixD m (k:Int)=some k:=by rw [j4,if_pos z]
 have w1:(zA (m+1) λk=>(wd k:Int))[endR w k]? = some (.int (wd (endR w k):Int)):=xO (n:=m+1) (λk=>(wd k:Int)) h1;have w2:(zA (m+1) λk=>(wd k:Int))[begR w k]? = some (.int (wd (begR w k):Int)):=xO (n:=m+1) (λk=>(wd k:Int)) h2;have tx:(qz w wd T m)[k]? = some (D.lst (jG (hiW w wd k) (wiW w wd k) (T k))):=by simp [qz,z]
 refine⟨.val (.int ((begR w k:Nat):Int)),.val (.int ((endR w k:Nat):Int)),?_⟩;unfold ZD;rw [zN,YQ,yd];simp only [rc,xA,yh,qx,zgA,zgE,zZ,zgq,zg3,Ym,kq,kO,zgN,zgM];have cm:(zC (zB (zz (sIx (zf 3) (zc 5)))) (.nm 0) 1 [] z6 (zM (zf 0))) [.val (.int p),.val (.str (kh m w)),.val (.lst (zA (m+1) λk=>(wd k:Int))),.val (.lst (qz w wd T m)),.own acc,.val (.int k),.val (.str (qO (wch (w k)))),.val (.int ((begR w k:Nat):Int)),.val (.int ((endR w k:Nat):Int))]=some (zL (hiW w wd k) (wiW w wd k) (T k)):=by
  simp only [yc,kS,yH,Jf,qL,qx,zgA,zgE,zZ,jz,QT,zgq,zg3,qw,X7,Z,tx,wq,S,if_true];exact VP _ _ _
 simp only [vy,zdw,xA,yh,qx,Jf,qL,XO,zbC,cm,zgA,zgE,zZ,jz,qt,QT,zgq,zg3,qw,qX,U,Y,w1,w2,zg2,zhW,ha,if_true];rw [<- QD w wd k,<- XW w wd k];rfl
theorem vS(hm:m<=5)(O : ∀k,wd k<=4):F_law_row_k22 [.int p,.str (kh m w),.lst (zA (m+1) λk=>(wd k:Int)),.lst (qz w wd T m)]=some (.val (qe p m w wd T)):=by
 have hl:=jf;have S:=kX w (show m<=1000 by omega);have U : ∀(k s:Nat) (c5 c6 c7 c8:Cell),s+k=m->∃Y Z a0 a1,qh (.tp [5,6]) ZD ((zh3 s k).map λ(k:Nat)=>D.tup [.int k,.str (qO (wch (w k)))]) (rc p m w wd T (qR s w wd T) c5 c6 c7 c8)=some (.next (rc p m w wd T (qR m w wd T) Y Z a0 a1)):=by
  intro k
  induction k with
  | zero=>
   intro s c5 c6 c7 c8 h;obtain rfl:s=m:=by omega
   exact⟨c5,c6,c7,c8,rfl⟩
  | succ k ih=>
   intro s c5 c6 c7 c8 h;obtain⟨z,I,e⟩:=Xc (p:=p) (w:=w) (T:=T) hm O (show s<m by omega) (qR s w wd T) (by simp;omega) c7 c8;obtain⟨a3,a4,a5,a6,J⟩:=ih (s+1) (.val (.int s)) (.val (.str (qO (wch (w s))))) z I ⋯;refine⟨a3,a4,a5,a6,?_⟩;rw [zhJ,zgO,jA];show((ZD (rc p m w wd T _ (.val (.int s)) (.val (.str (qO (wch (w s))))) c7 c8)).bind _)=_;rw [e];rw [XN]at J;exact J
 obtain⟨d5,d6,z,I,e⟩:=U m 0 .no .no .no .no ⋯;rw [<- zhA]at e;rw [Km];unfold jb;rw [zN];show(zF _ _ (rc p m w wd T [] .no .no .no .no)).bind _=_;rw [zN,Jg,Jh];simp only [rc,qx,zgA,zgE,zZ,zgq,S,if_true,wp];have e0:qR 0 w wd T=[]:=rfl;simp only [rc,e0]at e;rw [e];simp;rfl
abbrev wc(ns:List Int)(p:Int)(m:Nat)(w:Nat->Bool)(wd:Nat->Nat)(wide:Nat)(acc:List D)(c7 c8 c9 c10:Cell):Ctx:=[.val (qE ns),.val (.int 2),.val (.int p),.val (.str (kh m w)),.val (.int wide),.val (.lst (zA (m+1) λk=>(wd k:Int))),.own acc,c7,c8,c9,c10]
def T22(ns:List Int)(p:Int)(w:Nat->Bool)(wd:Nat->Nat)(k x y:Nat):Int:=Jl ns p (2+10+20*(k:Int)+(x:Int)*((wiW w wd k:Nat):Int)+(y:Int))
theorem Yq{ns:List Int}(J:ns.length<=63)(O:Pr p)(hm:m<=5)(z : ∀k,wd k<=4)(wide:Nat){k:Nat}(I:k<m)(acc:List D)(ha:acc.length<lim)(c9 c10:Cell) : ∃S U,Yr (wc ns p m w wd wide acc (.val (.int k)) (.val (.str (qO (wch (w k))))) c9 c10)=some (.next (wc ns p m w wd wide (acc++[D.lst (jG (hiW w wd k) (wiW w wd k) (T22 ns p w wd k))]) (.val (.int k)) (.val (.str (qO (wch (w k))))) S U)):=by
 have hl:=jf;have h1:=Yn w I;have h2:=YL w I;have Y:ixD (m+1) ((endR w k:Nat):Int)=some (endR w k):=by rw [j4,if_pos h1]
 have Z:ixD (m+1) ((begR w k:Nat):Int)=some (begR w k):=by rw [j4,if_pos h2]
 have w1:(zA (m+1) λk=>(wd k:Int))[endR w k]? = some (.int (wd (endR w k):Int)):=xO (n:=m+1) (λk=>(wd k:Int)) h1;have w2:(zA (m+1) λk=>(wd k:Int))[begR w k]? = some (.int (wd (begR w k):Int)):=xO (n:=m+1) (λk=>(wd k:Int)) h2;have cm:vF 20 (k:Int)=true:=qP _ _ ⋯ ⋯;have R:=zcc J O (at_:=2+10+20*(k:Int)) ⋯ ⋯ (h:=wd (endR w k)) (w:=wd (begR w k)) (z _) (z _);refine⟨.val (.int ((begR w k:Nat):Int)),.val (.int ((endR w k:Nat):Int)),?_⟩;unfold Yr;rw [zN,YQ,yd];simp only [wc,xA,yh,qx,zgA,zgE,zZ,zgq,zg3,Ym,kq,kO,zgN,zgM];have bm:qi (.int 20) (.int (k:Int))=some (.int (20*(k:Int))):=by rw [Wg,cm];rfl
 simp only [vy,QU,Wu,xA,yh,qx,yi,YS,Jf,qL,QJ,bm,zgA,zgE,zZ,jz,qt,QT,zgq,zg3,qw,qX,Y,Z,w1,w2,zg2,zhW,ha,if_true,R,wM];unfold T22;rw [QD,XW];rfl
theorem yt{ns:List Int}(J:ns.length<=63)(O:Pr p)(hm:m<=5){wide:Nat}(hw:wide<=4) :
 ∃wd T,F_law_drawn_k22 [qE ns,.int 2,.int p,.str (kh m w),.int wide]=some (.val (qe p m w wd T))/\(∀k,wd k<=wide)/\∀k x y,0<=T k x y/\T k x y<p:=by
 have hl:=jf;have S:m+1<=lim:=by omega
 have U:=kX w (show m<=1000 by omega);let wd:Nat->Nat:=λk=>(qK ns (2+(k:Int))%((wide:Int)+1)).toNat;have z : ∀k:Nat,qK ns (2+(k:Int))%((wide:Int)+1)=(wd k:Int)/\wd k<=wide:=λk=>by
  have g1:=zhd (qK ns (2+(k:Int))) (show(wide:Int)+1≠0 by omega);have g2:=zgV (qK ns (2+(k:Int))) (show(0:Int)<(wide:Int)+1 by omega);have:(wd k:Int)=qK ns (2+(k:Int))%((wide:Int)+1):=ziM g1;exact⟨this.symm,by omega⟩
 refine⟨wd,T22 ns p w wd,?_,λk=>(z k).2,λk x y=>zbx O.pos⟩;have I : ∀k,wd k<=4:=λk=>by have:=(z k).2;omega
 generalize wd=wd at z I ⊢;have a3:(0:Int)<(wide:Int)+1:=by omega
 have k1:zG (.nm 0) z6 (zm qa (zw F_law_cell (za (zc 1) (za (zm jo (zc 2) (zc 0)) zu))) (zm jo (zc 3) (zh (.int 1)))) [Cell.no,Cell.val (qE ns),Cell.val (.int 2),Cell.val (.int wide)] (zA (m+1) λi=>(i:Int))=some (zA (m+1) λk=>(wd k:Int)):=by
  rw [zU,zU];refine zo _ _ λk Y=>zq rfl rfl ?_;have Y:=zgl.mp Y;simp [(Ze J (k:=2+(k:Int)) ⋯ ⋯).1,a3,(z k).1]
 have e1:(zO 5 (ja (zC (zY (zm jo (Js (zc 3)) (zh (.int 1)))) (.nm 0) 1 [0,1,4] z6 (zm qa (zw F_law_cell (za (zc 1) (za (zm jo (zc 2) (zc 0)) zu))) (zm jo (zc 3) (zh (.int 1))))))) (zV 11 [qE ns,.int 2,.int p,.str (kh m w),.int wide])=some (.next [.val (qE ns),.val (.int 2),.val (.int p),.val (.str (kh m w)),.val (.int wide),.val (.lst (zA (m+1) λk=>(wd k:Int))),.no,.no,.no,.no,.no]):=by
  rw [Je,QU,yc,vx,show zV 11 [qE ns,D.int 2,.int p,.str (kh m w),.int wide]=[.val (qE ns),.val (.int 2),.val (.int p),.val (.str (kh m w)),.val (.int wide),.no,.no,.no,.no,.no,.no]from rfl];simp only [YS,zbD,qx,yi,zgA,zgE,zZ,zgq,U,if_true,J5,QJ,qw];rw [show((m:Int)+1)=((m+1:Nat):Int)by omega];simp only [vi S,if_true,zhn,zgq,jv,qX,S];rw [show z4 1 [0,1,4] [Cell.val (qE ns),Cell.val (D.int 2),Cell.val (D.int p),Cell.val (D.str (kh m w)),Cell.val (D.int (wide:Int)),Cell.no,Cell.no,Cell.no,Cell.no,Cell.no,Cell.no]=[Cell.no,Cell.val (qE ns),Cell.val (.int 2),Cell.val (.int wide)]from rfl,k1];rfl
 have a5 : ∀(k s:Nat) (c7 c8 c9 c10:Cell),s+k=m->∃a6 a7 a8 a9,qh (.tp [7,8]) Yr ((zh3 s k).map λ(k:Nat)=>D.tup [.int k,.str (qO (wch (w k)))]) (wc ns p m w wd wide (qz w wd (T22 ns p w wd) s) c7 c8 c9 c10)=some (.next (wc ns p m w wd wide (qz w wd (T22 ns p w wd) m) a6 a7 a8 a9)):=by
  intro k
  induction k with
  | zero=>
   intro s c7 c8 c9 c10 h;obtain rfl:s=m:=by omega
   exact⟨c7,c8,c9,c10,rfl⟩
  | succ k ih=>
   intro s c7 c8 c9 c10 h;obtain⟨Z,a0,e⟩:=Yq (p:=p) (w:=w) J O hm I wide (show s<m by omega) (qz w wd (T22 ns p w wd) s) (by simp;omega) c9 c10;obtain⟨ab,ac,ad,ae,e'⟩:=ih (s+1) (.val (.int s)) (.val (.str (qO (wch (w s))))) Z a0 ⋯;refine⟨ab,ac,ad,ae,?_⟩;rw [zhJ,zgO,jA];show((Yr (wc ns p m w wd wide _ (.val (.int s)) (.val (.str (qO (wch (w s))))) c9 c10)).bind _)=_;rw [e];rw [Jm]at e';exact e'
 obtain⟨d7,d8,Z,a0,e⟩:=a5 m 0 .no .no .no .no ⋯;rw [<- zhA]at e;have R:=vS (p:=p) (w:=w) (T:=T22 ns p w wd) hm I;rw [JQ];unfold jb;rw [zN,e1,qT,zN];show(zF _ _ (wc ns p m w wd wide [] .no .no .no .no)).bind _=_;rw [zN,Jg,Jh];simp only [wc,qx,zgA,zgE,zZ,zgq,U,if_true,wp];have e0:qz w wd (T22 ns p w wd) 0=[]:=rfl;simp only [wc,e0]at e;rw [e];simp [R]
end
section
variable{p:Int}{w:Nat->Bool}{wd:Nat->Nat}{T:Nat->Nat->Nat->Int}{m N:Nat}{A:Nat->Bar}
theorem wk_one{k:Nat}{u z:Vc}:Wk p w wd T k 1 u z↔Lk p w wd T k u z:=by
 constructor
 ·rintro⟨y,h1,h2⟩
  unfold Lk at *;split
  ·next hw=>
   rw [if_pos (by simpa using hw)]at h2;exact λi hi=>by rw [h1 i hi];exact h2 i hi
  ·next hw=>
   rw [if_neg (by simpa using hw)]at h2;exact λi hi=>by rw [h2 i hi];exact(jH (λj I=>h1 j I) i).symm
 ·intro h
  exact⟨u,λ_ _=>rfl,h⟩
theorem zaD(I:Pr p)(O : ∀k,wd k<=4)(hT : ∀k x y,0<=T k x y/\T k x y<p)(hm:m<=20)(D:Decp p w wd T m N A){k:Nat}(hk:k<m){r:Nat}(S:Rk p (wiW w wd k) (hiW w wd k) (T k) r):cvZ (vE A N) k ((k:Int)+1)=r:=by
 obtain⟨s,q,B,B2,l,l2,_,h1,h2,U,J⟩:=K0 (w:=w) I O hT hm (Nat.le_succ k) (show k+1<=m from hk);rw [show k+1 - k=1 by omega]at h2 J;have kc:=QB I D (n:=1) ⋯ (O k) h1 h2 U J;rw [Yy D ⋯,show((k+1:Nat):Int)=(k:Int)+1 by omega]at kc;have e1:=O k;have e2:=O (k+1);cases hw:w k with
 | false=>
  have Y:wiW w wd k=wd k:=by unfold wiW;rw [hw];rfl
  have Z:hiW w wd k=wd (k+1):=by unfold hiW;rw [hw];rfl
  rw [Y,Z]at S;have sf:s=wd k:=(kP I h1 (wC I (wd k)) (λv _=>vj _ v) λv _=>(h2 v).mpr ⟨app (T k) (wd k) v,wk_one.mpr (by unfold Lk;rw [hw];exact λ_ _=>rfl)⟩).1;obtain⟨q',K,l',s',_,a7,a1,a8,ac⟩:=qc I (h:=wd (k+1)) (w:=wd k) ⋯ ⋯ (T k);have a2 : ∀v,Wk p w wd T k 1 v (λ_=>0)↔Ker p (wd (k+1)) (wd k) (T k) v:=λv=>by
   rw [wk_one];unfold Lk Ker;rw [hw];exact⟨λh i hi=>by have:=h i hi;unfold app at this;rw [<- this];simp,λh i hi=>by unfold app;rw [h i hi];simp⟩
  have qf:q=q':=(kP I U a7 (λv hv=>(a1 v).mpr ((a2 v).mp ((J v).mp hv))) λv hv=>(J v).mpr ((a2 v).mpr ((a1 v).mp hv))).1;have:=Ko I ⋯ ⋯ a8 S;omega
 | true=>
  have Y:wiW w wd k=wd (k+1):=by unfold wiW;rw [hw];rfl
  have Z:hiW w wd k=wd k:=by unfold hiW;rw [hw];rfl
  rw [Y,Z]at S;have q0:q=0:=by
   rcases ziR q with z | z
   ·exact z
   ·have:=wk_one.mp ((J (B2 0)).mp (.gen ⟨0,z,rfl⟩))
    unfold Lk at this;rw [hw,if_pos rfl]at this;have:=this (l2 0) (U.lt 0 z);rw [U.one 0 z,kQ (λ_ _=>by simp),I.one]at this;cases this
  have hc:Rk p (wd k) (wd (k+1)) (λj i=>T k i j) s:=⟨B,l,h1,λv=>(h2 v).trans (by
   rw [col_span];refine exists_congr λz=>?_;rw [wk_one];unfold Lk;rw [hw,if_pos rfl])⟩
  have:=Ko I ⋯ ⋯ hc S;omega
end
def u1:CO Fl:=(zO 1 (zw F_law_cell (za (zc 0) (za (zh (.int 0)) zu))))
def u2:CO Fl:=(zO 2 (sIx (jh (jX (za (zh (.int 2)) (za (zh (.int 3)) (za (zh (.int 5)) (za (zh (.int 7)) zu)))))) (zm qa (zc 1) (zh (.int 4)))))
def u3:CO Fl:=(wI (.tp [3,4]) (sIx (jh (jX (za (ju (za (zh (.int 4)) (za (zh (.int 2)) zu))) (za (ju (za (zh (.int 3)) (za (zh (.int 2)) zu))) (za (ju (za (zh (.int 2)) (za (zh (.int 2)) zu))) (za (ju (za (zh (.int 2)) (za (zh (.int 2)) zu))) (za (ju (za (zh (.int 6)) (za (zh (.int 1)) zu))) (za (ju (za (zh (.int 5)) (za (zh (.int 1)) zu))) (za (ju (za (zh (.int 4)) (za (zh (.int 1)) zu))) (za (ju (za (zh (.int 3)) (za (zh (.int 1)) zu))) zu)))))))))) (zm qa (zc 1) (zh (.int 8)))))
theorem yY{c:Int}{n:Nat}(hn:0<n) : ∃a:Nat,c%(n:Int)=a/\a<n:=by
 obtain⟨a,ha⟩:=zhB (zhd c (show(n:Int)≠0 by omega));have:=zgV c (show(0:Int)<n by omega);exact⟨a,ha,by omega⟩
def zbV:CO Fl:=zO 1 (zw F_law_cell (za (zc 0) (za (zh (.int 0)) zu)))
def zbU:CO Fl:=zO 2 (sIx (jh (jX (za (zh (.int 2)) (za (zh (.int 3)) (za (zh (.int 5)) (za (zh (.int 7)) zu)))))) (zm qa (zc 1) (zh (.int 4))))
def zbT:CO Fl:=zO 3 (zm jo (zh (.int 1)) (zm qa (zm Z5 (zc 1) (zh (.int 4))) (zh (.int 5))))
def zbS:CO Fl:=zO 4 (zw F_law_drawn_k22 (za (zc 0) (za (zh (.int 2)) (za (zc 2) (za (zw F_law_ways_k22 (za (zm Z5 (zc 1) (zh (.int 32))) (za (zc 3) zu))) (za (zh (.int 4)) zu))))))
def zbR:CO Fl:=zO 5 (zw F_numbers (za (zc 4) zu))
def zbQ:CO Fl:=sIf (qN (sB (zaC (jh (zC (Xb (zc 5)) (.nm 0) 1 [5] z6 (Vm (zw F_law_whole (za (k0 (zc 1) (zc 0)) zu)) (zm dGe (k0 (zc 1) (zc 0)) (zh (.int 0))))))))) (jO (zh (.bl false))) jP
def J6:CO Fl:=sIf (sB (zm dNe (zw F_law_having (za (zc 5) (za (zc 6) (za (zc 6) zu)))) (sIx (zz (sIx (zf 4) (zh (.int 1)))) (zc 6)))) (jO (zh (.bl false))) jP
def Zr:CO Fl:=wI (.tp [8,9,10]) (sIx (zf 7) (zh (.int 1)))
def Zq:CO Fl:=sIf (sB (zm dNe (zw F_law_having (za (zc 5) (za (zc 6) (za (zm jo (zc 6) (zh (.int 1))) zu)))) (xV (jh (zQ F_law_base_k22 (za (zc 2) (za (zc 9) (za (zc 10) zu)))))))) (jO (zh (.bl false))) jP
def zbP:CO Fl:=zO 11 (zm qa (zw F_law_cell (za (zc 0) (za (zh (.int 1)) zu))) (zc 3))
def WA:CO Fl:=zO 12 (zm jo (zc 11) (zm qa (zm Z5 (zw F_law_cell (za (zc 0) (za (zh (.int 1)) zu))) (zh (.int 7))) (zm kf (zc 3) (zc 11))))
def Wz:CO Fl:=zO 13 (zw F_kept (za (zc 4) (za (zc 11) (za (zc 12) zu))))
def Wy:CO Fl:=sIf (zaA (sB (zm dNe (zc 13) (zw F_law_having (za (zc 5) (za (zc 11) (za (zc 12) zu)))))) (wL (sB (zm dGt (zc 11) (zh (.int 0)))) (sB (zm dGt (zw F_kept (za (zc 4) (za (zm kf (zc 11) (zh (.int 1))) (za (zc 12) zu)))) (zc 13))))) (jO (zh (.bl false))) jP
def X0:CO Fl:=jO (sOr (zm dEq (zm jo (zc 12) (zh (.int 1))) (zc 3)) (zm dLe (zw F_kept (za (zc 4) (za (zc 11) (za (zm jo (zc 12) (zh (.int 1))) zu)))) (zc 13)))
theorem zah:F_law_k27=jb 14 (zF zbV (zF zbU (zF zbT (zF zbS (zF zbR (zF zbQ (zF (xK (zY (zc 3)) (.nm 6) J6) (zF (xK (wK (sIx (zf 4) (zh (.int 2)))) (.tp [6,7]) (zF Zr Zq)) (zF zbP (zF WA (zF Wz (zF Wy X0)))))))))))):=rfl
theorem zcx{c:Int}(h:0<=c) : ∃q:Nat,Pr (q:Int)/\([D.int 2,.int 3,.int 5,.int 7])[(c%4).toNat]? = some (.int q)/\ixD 4 (c%4)=some (c%4).toNat:=by
 have h1:=zhd c (show(4:Int)≠0 by decide);have h2:=zgV c (show(0:Int)<4 by decide);obtain⟨r,z⟩:=zhB h1;rw [z];have I:r<4:=by omega
 rw [j4,if_pos I,zhn];rcases (by omega:r=0\/r=1\/r=2\/r=3)with e | e | e | e<;>subst e
 ·exact⟨2,.inl rfl,rfl,rfl⟩
 ·exact⟨3,.inr (.inl rfl),rfl,rfl⟩
 ·exact⟨5,.inr (.inr (.inl rfl)),rfl,rfl⟩
 ·exact⟨7,.inr (.inr (.inr rfl)),rfl,rfl⟩
section
variable{p:Int}{w:Nat->Bool}{wd:Nat->Nat}{T:Nat->Nat->Nat->Int}{m N:Nat}{A:Nat->Bar}
theorem Xm(I:Pr p)(J : ∀k,wd k<=4)(O : ∀k x y,0<=T k x y/\T k x y<p)(hm:m<=5)(D:Decp p w wd T m N A):F_numbers [qe p m w wd T]=some (.val (yz (λs=>(muZ (vE A N) s:Int)) (m+1))):=by
 rw [Xo hm (λs=>(cvZ (vE A N) s.1 s.2:Int)) λs z=>by
  have:=mem_st.mp z;exact QA I J O ⋯ D this.1 ⋯]
 congr 2;unfold yz;congr 1;exact zgD λs z=>by rw [zcV D (mem_st.mp z).1]
theorem K9(D:Decp p w wd T m N A)(hm:m<=5)(i j:Nat):F_law_having [yz (λs=>(muZ (vE A N) s:Int)) (m+1),.int i,.int j]=some (.val (.int ((cvZ (vE A N) i j:Nat):Int))):=by
 rw [Ya _ ⋯];have:=WC i j (yv ⟨m+1,by omega⟩).1 (KZ D);rw [this]
theorem zbq(D:Decp p w wd T m N A){k:Nat}(z:k<=m):cvZ (vE A N) k k=wd k:=by
 rw [<- Yy D (zgp k),<- D.cnt k z];unfold cvL ixs;congr 1;exact zjC λj _=>by simp
end
theorem law_k27(ns:List Int)(ac:ns.length<=63):F_law_k27 [qE ns]=some (.val (.bl true)):=by
 have hl:=jf;obtain⟨a1,a2,a3⟩:=Ze ac (k:=0) ⋯ ⋯;obtain⟨y1,y2,y3⟩:=Ze ac (k:=1) ⋯ ⋯;generalize qK ns 0=c at a1 a2 a3;generalize qK ns 1=d at y1 y2 y3;obtain⟨q,Z,ep,bb⟩:=zcx a2;obtain⟨m,em,bv⟩:=yY (c:=c/4) (n:=5) ⋯;have hm:m<=5:=by omega
 obtain⟨w,hw⟩:=zbN (c:=c/32) ⋯ hm;obtain⟨wd,T,hd,a4,hT⟩:=yt (w:=w) ac Z hm (wide:=4) ⋯;obtain⟨i,ei,hi⟩:=yY (c:=d) (n:=m+1) ⋯;obtain⟨O,ej,hj⟩:=yY (c:=d/7) (n:=m+1 - i) ⋯;have am : ∀k,wd k<=8:=λk=>by have:=a4 k;omega
 obtain⟨bars,I,_,_⟩:=Ji (T:=T) (w:=w) (wd:=wd) Z am hm λk x y _ _ _=>hT k x y;have Dc:=Wf Z am I;generalize bars.length=N at Dc;generalize (λj=>bars.getD j XU)=A at Dc;have nu:=Xm Z a4 hT hm Dc;have hv:=K9 Dc hm;have kn : ∀{i j:Nat},i<=j->j<=m->F_kept [qe q m w wd T,.int i,.int j]=some (.val (.int ((cvZ (vE A N) i j:Nat):Int))):=λh1 h2=>QA Z a4 hT ⋯ Dc h1 h2;have rk : ∀k,k<m->∀{r:Nat},Rk q (wiW w wd k) (hiW w wd k) (T k) r->cvZ (vE A N) k ((k:Int)+1)=r:=λk hk {r} hr=>zaD Z a4 hT ⋯ Dc hk hr;have cw : ∀k,k<=m->cvZ (vE A N) k k=wd k:=λk hk=>zbq Dc hk;have mono : ∀{a b a' b':Int},a<=a'->b'<=b->cvZ (vE A N) a b<=cvZ (vE A N) a' b':=λh1 h2=>Wi h1 h2;obtain⟨n1,n2,n3⟩:=yv ⟨m+1,by omega⟩;dsimp only at n1 n2 n3;generalize vE A N=K at nu hv kn rk cw mono;let g:Nat×Nat->Int:=λs=>(muZ K s:Int);let R:=qe q m w wd T;let S:=yz g (m+1);let M:D:= .int ((m:Int)+1);have bf:c/4%5=(m:Int):=em;have eM:(1+(m:Int))=(m:Int)+1:=by omega
 have L7 : ∃c6,xK (zY (zc 3)) (.nm 6) J6 [.val (qE ns),.val (.int c),.val (.int q),.val M,.val R,.val S,.no,.no,.no,.no,.no,.no,.no,.no]=some (.next [.val (qE ns),.val (.int c),.val (.int q),.val M,.val R,.val S,c6,.no,.no,.no,.no,.no,.no,.no]):=by
  obtain⟨γ',e,c6,rfl⟩:=wb (T:= .nm 6) (F:=J6) (f:=zc 3) (λ_ γ=>∃c6,γ=[.val (qE ns),.val (.int c),.val (.int q),.val M,.val R,.val S,c6,.no,.no,.no,.no,.no,.no,.no]) (m+1) ⋯ (γ:=[.val (qE ns),.val (.int c),.val (.int q),.val M,.val R,.val S,.no,.no,.no,.no,.no,.no,.no,.no]) (by show some (D.int ((m:Int)+1))=_;congr 2) ⟨.no,rfl⟩ (by
   rintro s hs γ ⟨c6,rfl⟩;refine⟨[.val (qE ns),.val (.int c),.val (.int q),.val M,.val R,.val S,.val (.int s),.no,.no,.no,.no,.no,.no,.no],_,rfl,?_,.val (.int s),rfl⟩;have h1:=hv s s;have h2:=cw s ⋯;rw [h2]at h1;simp [J6,S,g,h1,R,qA,hs])
  exact⟨c6,e⟩
 obtain⟨c6,L7⟩:=L7;have L8 : ∃Y c7 c8 c9 c10,xK (wK (sIx (zf 4) (zh (.int 2)))) (.tp [6,7]) (zF Zr Zq) [.val (qE ns),.val (.int c),.val (.int q),.val M,.val R,.val S,c6,.no,.no,.no,.no,.no,.no,.no]=some (.next [.val (qE ns),.val (.int c),.val (.int q),.val M,.val R,.val S,Y,c7,c8,c9,c10,.no,.no,.no]):=by
  have src:wK (sIx (zf 4) (zh (.int 2))) [.val (qE ns),.val (.int c),.val (.int q),.val M,.val R,.val S,c6,.no,.no,.no,.no,.no,.no,.no]=some ((zgj m).map λ(k:Nat)=>D.tup [.int k,qM w wd T k]):=by
   rw [<- XE];rfl
  rw [Jg,src];obtain⟨γ',e,Y,c7,c8,c9,c10,rfl⟩:=qr (T:= .tp [6,7]) (F:=zF Zr Zq) (λ_ γ=>∃c6 c7 c8 c9 c10,γ=[.val (qE ns),.val (.int c),.val (.int q),.val M,.val R,.val S,c6,c7,c8,c9,c10,.no,.no,.no])
   ((zgj m).map λ(k:Nat)=>D.tup [.int k,qM w wd T k]) 0 [.val (qE ns),.val (.int c),.val (.int q),.val M,.val R,.val S,c6,.no,.no,.no,.no,.no,.no,.no] ⟨c6,.no,.no,.no,.no,rfl⟩ (by
   rintro k dd γ ar ⟨c6,c7,c8,c9,c10,rfl⟩;obtain⟨hk,rfl⟩:k<m/\dd=D.tup [.int k,qM w wd T k]:=by
    rw [zg6]at ar;obtain⟨k',h1,h2⟩:=Option.map_eq_some_iff.mp ar;obtain⟨h3,h4⟩:=zgw.mp h1;rw [zhz]at h3;rw [List.getElem_range]at h4;subst h4;exact⟨h3,h2.symm⟩
   have bz:hiW w wd k<=4:=by rw [QD];exact a4 _
   have c0:wiW w wd k<=4:=by rw [XW];exact a4 _
   obtain⟨r,B,l,eb,hb,c2,bi⟩:=yu Z (n:=wiW w wd k) (m:=hiW w wd k) ⋯ ⋯ .T (T k) λx y _ _=>hT k x y;have hr:=rk k hk ⟨B,l,hb,bi⟩;have h1:=hv k (k+1);rw [show((k+1:Nat):Int)=(k:Int)+1 by omega,hr]at h1;have bj:r<=lim:=by omega
   refine⟨_,.inl ?_,.val (.int k),.val (qM w wd T k),.val (.int (hiW w wd k)),.val (.int (wiW w wd k)),.val (.tup (zL (hiW w wd k) (wiW w wd k) (T k))),rfl⟩;show(zF Zr Zq) [.val (qE ns),.val (.int c),.val (.int q),.val M,.val R,.val S,.val (.int k),.val (qM w wd T k),c8,c9,c10,.no,.no,.no]=_;refine zD (γ':=[.val (qE ns),.val (.int c),.val (.int q),.val M,.val R,.val S,.val (.int k),.val (qM w wd T k),.val (.int (hiW w wd k)),.val (.int (wiW w wd k)),.val (.tup (zL (hiW w wd k) (wiW w wd k) (T k))),.no,.no,.no]) ?_ ?_
   ·simp [Zr,qH]
    rfl
   ·simp only [dsq]at eb
    simp [Zq,S,g,h1,eb,bj])
  exact⟨Y,c7,c8,c9,c10,e⟩
 obtain⟨Y,c7,c8,c9,c10,L8⟩:=L8;have rp:(0:Int)<(m:Int)+1:=by omega
 have ei:d%((m:Int)+1)=i:=ei;have bn:(i:Int)<(m:Int)+1:=by omega
 have sp:(0:Int)<(m:Int)+1 - (i:Int):=by omega
 have ej:d/7%((m:Int)+1 - (i:Int))=O:=by rw [<- ej];congr 1;omega
 have ec:((i+O:Nat):Int)=(i:Int)+(O:Int):=by omega
 let J:D:= .int ((i:Int)+(O:Int));have aw:=kn (i:=i) (j:=i+O) ⋯ ⋯;have ax:=hv i (i+O);rw [ec]at aw ax;rw [zah];refine jN (zD (γ':=[.val (qE ns),.val (.int c),.no,.no,.no,.no,.no,.no,.no,.no,.no,.no,.no,.no]) ?_
  (zD (γ':=[.val (qE ns),.val (.int c),.val (.int q),.no,.no,.no,.no,.no,.no,.no,.no,.no,.no,.no]) ?_
  (zD (γ':=[.val (qE ns),.val (.int c),.val (.int q),.val M,.no,.no,.no,.no,.no,.no,.no,.no,.no,.no]) ?_
  (zD (γ':=[.val (qE ns),.val (.int c),.val (.int q),.val M,.val R,.no,.no,.no,.no,.no,.no,.no,.no,.no]) ?_
  (zD (γ':=[.val (qE ns),.val (.int c),.val (.int q),.val M,.val R,.val S,.no,.no,.no,.no,.no,.no,.no,.no]) ?_
  (zD (γ':=[.val (qE ns),.val (.int c),.val (.int q),.val M,.val R,.val S,.no,.no,.no,.no,.no,.no,.no,.no]) ?_
  (zD L7 (zD L8
  (zD (γ':=[.val (qE ns),.val (.int c),.val (.int q),.val M,.val R,.val S,Y,c7,c8,c9,c10,.val (.int i),.no,.no]) ?_
  (zD (γ':=[.val (qE ns),.val (.int c),.val (.int q),.val M,.val R,.val S,Y,c7,c8,c9,c10,.val (.int i),.val J,.no]) ?_
  (zD (γ':=[.val (qE ns),.val (.int c),.val (.int q),.val M,.val R,.val S,Y,c7,c8,c9,c10,.val (.int i),.val J,.val (.int ((cvZ K i ((i:Int)+(O:Int)):Nat):Int))]) ?_
  (zD (γ':=[.val (qE ns),.val (.int c),.val (.int q),.val M,.val R,.val S,Y,c7,c8,c9,c10,.val (.int i),.val J,.val (.int ((cvZ K i ((i:Int)+(O:Int)):Nat):Int))]) ?_ ?_))))))))))))
 ·simp [zbV,zV,zgm,a1]
 ·simp [zbU,bb,ep]
 ·simp [zbT,bf,eM,M]
 ·rw [eM]at hw
  have bp:F_law_drawn_k22 [qE ns,.int 2,.int q,.str (kh m w),.int 4]=some (.val (qe q m w wd T)):=hd;simp [zbS,M,hw,bp,R]
 ·simp [zbR,R,nu,S,g]
 ·have bq:(stN (m+1)).length<=lim:=by omega
  have ek:((λk=>D.tup (zjP D.int k))∘kI)=kD:=rfl;have c1:zG (.nm 0) z6 (Vm (zw F_law_whole (za (k0 (zc 1) (zc 0)) zu)) (zm dGe (k0 (zc 1) (zc 0)) (zh (.int 0)))) [.no,.val (yz g (m+1))] ((stN (m+1)).map kD)=some ((stN (m+1)).map λ_=>D.bl true):=by
   refine zo _ _ λs hs=>zq (γ1:=[.val (kD s),.val (yz g (m+1))]) rfl rfl ?_;have h1:=JL g hs;have h2:(0:Int)<=g s:=by show(0:Int)<=(muZ K s:Int);omega
   simp [kD,yz,VW,h1,J0,h2]
  unfold yz at c1;simp [zbQ,S,yz,z4,bq];rw [ek,c1];simp [X5]
 ·simp [zbP,y1,M,rp,ei]
 ·simp [WA,y1,M,bn,sp,ej,J]
 ·simp [Wz,R,J,aw]
 ·have t2:(wL (sB (zm dGt (zc 11) (zh (.int 0)))) (sB (zm dGt (zw F_kept (za (zc 4) (za (zm kf (zc 11) (zh (.int 1))) (za (zc 12) zu)))) (zc 13)))) [.val (qE ns),.val (.int c),.val (.int q),.val M,.val R,.val S,Y,c7,c8,c9,c10,.val (.int i),.val J,.val (.int ((cvZ K i ((i:Int)+(O:Int)):Nat):Int))]=some false:=by
   rcases ziR i with z | z
   ·subst z
    simp
   ·obtain⟨U,rfl⟩ : ∃U,i=U+1:=⟨i - 1,by omega⟩
    have k2:=kn (i:=U) (j:=U+1+O) ⋯ ⋯;have e1:((U+1+O:Nat):Int)=((U+1:Nat):Int)+(O:Int):=by omega
    rw [e1]at k2;have e2:((U+1:Nat):Int) - 1=(U:Int):=by omega
    have e3 : ¬((cvZ K ((U+1:Nat):Int) (((U+1:Nat):Int)+(O:Int)):Nat):Int)<(cvZ K (U:Int) (((U+1:Nat):Int)+(O:Int)):Nat):=by
     have:=mono (a:=(U:Int)) (a':=((U+1:Nat):Int)) (b:=((U+1:Nat):Int)+(O:Int)) (b':=((U+1:Nat):Int)+(O:Int)) ⋯ ⋯;omega
    have z':(0:Int)<((U+1:Nat):Int):=by omega
    simp only [Int.natCast_add,Int.cast_ofNat_Int,Int.natCast_one]at k2 e2 e3 z' ⊢;simp [R,J,e2,k2,e3,z']
  simp only [Wy,zfj,zdA,t2];simp [S,g,J,ax]
 ·by_cases z:i+O=m
  ·have e1:(i:Int)+(O:Int)+1=(m:Int)+1:=by omega
   simp [X0,J,M,e1]
  ·have k2:=kn (i:=i) (j:=i+O+1) ⋯ ⋯
   have e1:((i+O+1:Nat):Int)=(i:Int)+(O:Int)+1:=by omega
   rw [e1]at k2;have e2 : ¬(i:Int)+(O:Int)+1=(m:Int)+1:=by omega
   have e3:((cvZ K i ((i:Int)+(O:Int)+1):Nat):Int)<=(cvZ K i ((i:Int)+(O:Int)):Nat):=by
    have:=mono (a:=(i:Int)) (a':=(i:Int)) (b:=(i:Int)+(O:Int)+1) (b':=(i:Int)+(O:Int)) ⋯ ⋯;omega
   simp [X0,J,M,R,k2,e2,e3]
def top(i:Nat):PySem.Stmt:=PySem.Challenge.pw_barsplit_k27_whole_widths_and_ranks.main.body.getD i (.Pass ⟨0,0,0,0⟩)
section
variable{CR CL:PySem.Addr}{P:PySem.Program}{w:PySem.World}{K:PySem.W.Frag}{mg:PySem.Str->Option PySem.Value}{base:PySem.Heap}
theorem JI{α:Type}{us:List α}{n:Nat}(h:us.length=n+1) : ∃a t,us=a::t/\t.length=n:=by
 cases us with
 | nil=>exact absurd h (Nat.zero_ne_add_one n)
 | cons a t=>exact⟨a,t,rfl,Nat.succ.inj h⟩
theorem len1{α:Type}{us:List α}(h:us.length=1) : ∃a,us=[a]:=by
 obtain⟨a,I,rfl,z⟩:=JI h;rw [zgX z];exact⟨a,rfl⟩
theorem len2{α:Type}{us:List α}(h:us.length=2) : ∃a b,us=[a,b]:=by
 obtain⟨a,I,rfl,z⟩:=JI h;obtain⟨b,J,rfl,h1⟩:=JI z;rw [zgX h1];exact⟨a,b,rfl⟩
theorem len3{α:Type}{us:List α}(h:us.length=3) : ∃a b c,us=[a,b,c]:=by
 obtain⟨a,I,rfl,z⟩:=JI h;obtain⟨b,J,rfl,h1⟩:=JI z;obtain⟨c,O,rfl,h2⟩:=JI h1;rw [zgX h2];exact⟨a,b,c,rfl⟩
theorem len4{α:Type}{us:List α}(h:us.length=4) : ∃a b c d,us=[a,b,c,d]:=by
 obtain⟨a,J,rfl,z⟩:=JI h;obtain⟨b,O,rfl,h1⟩:=JI z;obtain⟨c,S,rfl,h2⟩:=JI h1;obtain⟨d,U,rfl,I⟩:=JI h2;rw [zgX I];exact⟨a,b,c,d,rfl⟩
theorem len5{α:Type}{us:List α}(h:us.length=5) : ∃a b c d e,us=[a,b,c,d,e]:=by
 obtain⟨a,O,rfl,z⟩:=JI h;obtain⟨b,S,rfl,h1⟩:=JI z;obtain⟨c,U,rfl,h2⟩:=JI h1;obtain⟨d,Y,rfl,I⟩:=JI h2;obtain⟨e,Z,rfl,J⟩:=JI I;rw [zgX J];exact⟨a,b,c,d,e,rfl⟩
theorem ok_law_cell(D:DefAt K mg "_law_cell" (top 32) ["_law_script","_law_k"])(I:mg "len" = none)(J:mg "min" = none)(O:mg "range" = none):FnD P w K mg base 1 "_law_cell" 2 F_law_cell:=
 kG (N:=["_law_script","_law_k","_law_cell_here","_law_turn","_law_given"]) D ⋯ λX S hw U hm Y z hx=>by
  subst S hw U hm Y;exact(by refine zg ?_ ?_;exact(xp (Vu (Jv (ZJ (xo z ⋯ I (zv 0 (z.var ⋯))) zk) (wN (v7 z (jU (zX (zv 0 (z.var ⋯)) zk) zk) zk)))) ((by refine zg ?_ ?_;exact(z9 2 (z.set 2 ⋯ (zX (zv 0 (z.var ⋯)) (jm zk (jU (ze 1 (z.var ⋯)) (xh (xo z ⋯ I (zv 0 (z.var ⋯))) zk))))));refine zg ?_ ?_;exact(qj (T:= .nm 3) (xi hx) z.calm (jL z ⋯ O (zcl z ⋯ J zk (yQ (ze 1 (z.var ⋯)) (xh (xo z ⋯ I (zv 0 (z.var ⋯))) zk)))) (z.tgt 3 ⋯) (zx (z9 2 (z.set 2 ⋯ (yQ (ze 2 (z.var ⋯)) (Kr zk zk))))));exact(zx (ji (jU (ze 2 (z.var ⋯)) (Kr zk zk)))))) j1);refine zg ?_ ?_;exact(z9 4 (z.set 4 ⋯ (ze 1 (z.var ⋯))));refine zg ?_ ?_;exact(xp (ZJ (xo z ⋯ I (zv 0 (z.var ⋯))) zk) (zx (z9 4 (z.set 4 ⋯ (zX (zv 0 (z.var ⋯)) (jU (ze 1 (z.var ⋯)) (xo z ⋯ I (zv 0 (z.var ⋯)))))))) j1);exact(zx (ji (jU (jZ (jU (jm (jm (jm (jZ (jU (ze 4 (z.var ⋯)) (Kr zk zk)) zk) (jZ (jZ zk (ze 1 (z.var ⋯))) (ze 1 (z.var ⋯)))) (jZ zk (ze 1 (z.var ⋯)))) zk) zk) zk) zk))))
theorem ok_law_ends_k22(D:DefAt K mg "_law_ends" (top 36) ["_law_k","_law_way"]):FnD P w K mg base 1 "_law_ends" 2 F_law_ends_k22:=
 kG (N:=["_law_k","_law_way"]) D ⋯ λX I hw J hm O z hx=>by
  subst I hw J hm O;exact(by refine zg ?_ ?_;exact(xp (v7 z (ze 1 (z.var ⋯)) Kq) (zx (ji (jM (ka (zb (ze 0 (z.var ⋯)) (zb (jm (ze 0 (z.var ⋯)) zk) zn)))))) j1);exact(zx (ji (jM (ka (zb (jm (ze 0 (z.var ⋯)) zk) (zb (ze 0 (z.var ⋯)) zn)))))))
theorem ok_law_row_k22(D:DefAt K mg "_law_row" (top 37) ["_law_p","_law_ways_here","_law_widths","_law_tables"])(J:FnD P w K mg base 1 "_law_ends" 2 F_law_ends_k22)(O:mg "enumerate" = none)(I:mg "tuple" = none):FnD P w K mg base 2 "_law_row" 4 F_law_row_k22:=
 kG (N:=["_law_p","_law_ways_here","_law_widths","_law_tables","_law_arrows","_law_k","_law_way","_law_begin","_law_end"]) D ⋯ λX S hw U hm Y z hx=>by
  subst S hw U hm Y;exact(by refine zg ?_ ?_;exact(qC 4 (z.set 4 ⋯ (ku (ka zn))));refine zg ?_ ?_;exact(qj (T:= .tp [5,6]) (xi hx) z.calm (KA z ⋯ O (ze 1 (z.var ⋯))) (z.tgts (zS (z.tgt 5 ⋯) (zS (z.tgt 6 ⋯) j8))) ((by refine zg ?_ ?_;exact(wR (T:= .tp [7,8]) (z.tgts (zS (z.tgt 7 ⋯) (zS (z.tgt 8 ⋯) j8))) (jE J ⋯ z ⋯ (zb (ze 5 (z.var ⋯)) (zb (ze 6 (z.var ⋯)) zn))));exact(zx (Jy 4 z ⋯ (jM (ka (zb (ze 6 (z.var ⋯)) (zb (jM (ka (zb (zX (zv 2 (z.var ⋯)) (ze 8 (z.var ⋯))) (zb (zX (zv 2 (z.var ⋯)) (ze 7 (z.var ⋯))) (zb (jY z ⋯ I (PO.q (jx (own:=["_law_row_here"]) (fr:=[]) (T:= .nm 0) z.calm (z.compOk (fr:=[]) ⋯) ⋯ (jj (PV.q (zX (zv 3 (z.var ⋯)) (ze 5 (z.var ⋯))))) (λfp s2 H2=>have h1:=z.cq ["_law_row_here"] [] fp s2 H2 ⋯;h1.tgt 0 ⋯) (λfp s2 H2=>have h1:=z.cq ["_law_row_here"] [] fp s2 H2 ⋯;jY h1 ⋯ I (zv 0 (h1.var ⋯)))))) zn))))) zn)))))))));exact(zx (ji (jM (ka (zb (ze 0 (z.var ⋯)) (zb (jY z ⋯ I (zv 2 (z.var ⋯))) (zb (jY z ⋯ I (zv 4 (z.var ⋯))) zn))))))))
theorem ok_law_rows_k22(D:DefAt K mg "_law_rows" (top 39) ["_law_script","_law_at","_law_p","_law_high","_law_wide"])(J:FnD P w K mg base 1 "_law_cell" 2 F_law_cell)(O:mg "int" = none)(I:mg "range" = none):FnD P w K mg base 2 "_law_rows" 5 F_law_rows_k22:=
 kG (N:=["_law_script","_law_at","_law_p","_law_high","_law_wide","_law_rows_here","_law_x","_law_cells"]) D ⋯ λX S hw U hm Y z hx=>by
  subst S hw U hm Y;exact(by refine zg ?_ ?_;exact(qC 5 (z.set 5 ⋯ (ku (ka zn))));refine zg ?_ ?_;exact(qj (T:= .nm 6) (xi hx) z.calm (jL z ⋯ I (ze 3 (z.var ⋯))) (z.tgt 6 ⋯) ((by refine zg ?_ ?_;exact(jw 7 (psc 7 z ⋯ (own:=["_law_y"]) (fr:=[("_law_script",0),("_law_at",1),("_law_wide",4),("_law_x",6)]) (T:= .nm 0) z.calm (z.compOk (fr:=[("_law_script",0),("_law_at",1),("_law_wide",4),("_law_x",6)]) ⋯) ⋯ (PIF.c (jL z ⋯ I (ze 4 (z.var ⋯)))) (λfp s2 H2=>have h1:=z.cq ["_law_y"] [("_law_script",0),("_law_at",1),("_law_wide",4),("_law_x",6)] fp s2 H2 ⋯;h1.tgt 0 ⋯) (λfp s2 H2=>have h1:=z.cq ["_law_y"] [("_law_script",0),("_law_at",1),("_law_wide",4),("_law_x",6)] fp s2 H2 ⋯;jE J ⋯ h1 ⋯ (zb (ze 1 (h1.var ⋯)) (zb (jm (jm (ze 2 (h1.var ⋯)) (jZ (ze 4 (h1.var ⋯)) (ze 3 (h1.var ⋯)))) (ze 0 (h1.var ⋯))) zn)))));exact(zx (Jy 5 z ⋯ (PO.v (jx (own:=["_law_cell_here"]) (fr:=[("_law_p",2)]) (T:= .nm 0) z.calm (z.compOk (fr:=[("_law_p",2)]) ⋯) ⋯ (jj (zv 7 (z.var ⋯))) (λfp s2 H2=>have h1:=z.cq ["_law_cell_here"] [("_law_p",2)] fp s2 H2 ⋯;h1.tgt 0 ⋯) (λfp s2 H2=>have h1:=z.cq ["_law_cell_here"] [("_law_p",2)] fp s2 H2 ⋯;jZ (jU (yQ (ze 0 (h1.var ⋯)) zk) (ze 1 (h1.var ⋯))) (zaI h1 ⋯ O (zew (jU (ze 0 (h1.var ⋯)) zk) zk))))))))));exact(zx (qU 5 (z.var ⋯))))
theorem ok_law_drawn_k22(D:DefAt K mg "_law_drawn" (top 40) ["_law_script","_law_at","_law_p","_law_ways_here","_law_most"])(I:FnD P w K mg base 2 "_law_row" 4 F_law_row_k22)(J:FnD P w K mg base 1 "_law_ends" 2 F_law_ends_k22)(O:FnD P w K mg base 1 "_law_cell" 2 F_law_cell)(S:FnD P w K mg base 2 "_law_rows" 5 F_law_rows_k22)(U:mg "enumerate" = none)(Y:mg "len" = none)(Z:mg "range" = none):FnD P w K mg base 3 "_law_drawn" 5 F_law_drawn_k22:=
 kG (N:=["_law_script","_law_at","_law_p","_law_ways_here","_law_most","_law_widths","_law_tables","_law_k","_law_way","_law_begin","_law_end"]) D ⋯ λX hP hw hK hm hb z hx=>by
  subst hP hw hK hm hb;exact(by refine zg ?_ ?_;exact(jw 5 (psc 5 z ⋯ (own:=["_law_room"]) (fr:=[("_law_script",0),("_law_at",1),("_law_most",4)]) (T:= .nm 0) z.calm (z.compOk (fr:=[("_law_script",0),("_law_at",1),("_law_most",4)]) ⋯) ⋯ (PIF.c (jL z ⋯ Z (jm (zaH z ⋯ Y (ze 3 (z.var ⋯))) zk))) (λfp s2 H2=>have h1:=z.cq ["_law_room"] [("_law_script",0),("_law_at",1),("_law_most",4)] fp s2 H2 ⋯;h1.tgt 0 ⋯) (λfp s2 H2=>have h1:=z.cq ["_law_room"] [("_law_script",0),("_law_at",1),("_law_most",4)] fp s2 H2 ⋯;jU (jE O ⋯ h1 ⋯ (zb (ze 1 (h1.var ⋯)) (zb (jm (ze 2 (h1.var ⋯)) (ze 0 (h1.var ⋯))) zn))) (jm (ze 3 (h1.var ⋯)) zk))));refine zg ?_ ?_;exact(qC 6 (z.set 6 ⋯ (ku (ka zn))));refine zg ?_ ?_;exact(qj (T:= .tp [7,8]) (xi hx) z.calm (KA z ⋯ U (ze 3 (z.var ⋯))) (z.tgts (zS (z.tgt 7 ⋯) (zS (z.tgt 8 ⋯) j8))) ((by refine zg ?_ ?_;exact(wR (T:= .tp [9,10]) (z.tgts (zS (z.tgt 9 ⋯) (zS (z.tgt 10 ⋯) j8))) (jE J ⋯ z ⋯ (zb (ze 7 (z.var ⋯)) (zb (ze 8 (z.var ⋯)) zn))));exact(zx (Jy 6 z ⋯ (PO.v (yp S ⋯ z ⋯ (zb (ze 0 (z.var ⋯)) (zb (jm (jm (ze 1 (z.var ⋯)) zk) (jZ zk (ze 7 (z.var ⋯)))) (zb (ze 2 (z.var ⋯)) (zb (zX (zv 5 (z.var ⋯)) (ze 10 (z.var ⋯))) (zb (zX (zv 5 (z.var ⋯)) (ze 9 (z.var ⋯))) zn))))))))))));exact(zx (Kx 6 (ji (jE I ⋯ z ⋯ (zb (ze 2 (z.var ⋯)) (zb (ze 3 (z.var ⋯)) (zb (ze 5 (z.var ⋯)) (zb (ze 6 (z.var ⋯)) zn)))))))))
theorem ok_stretches_of(D:DefAt K mg "stretches_of" (top 28) ["many"])(I:mg "range" = none):FnD P w K mg base 1 "stretches_of" 1 F_stretches_of:=
 kG (N:=["many","found","i"]) D ⋯ λX J hw O hm S z hx=>by
  subst J hw O hm S;exact(by refine zg ?_ ?_;exact(qC 1 (z.set 1 ⋯ (ku (ka zn))));refine zg ?_ ?_;exact(qj (T:= .nm 2) (xi hx) z.calm (jL z ⋯ I (ze 0 (z.var ⋯))) (z.tgt 2 ⋯) (zx (zaM 1 z ⋯ (jx (own:=["j"]) (fr:=[("i",2)]) (T:= .nm 0) z.calm (z.compOk (fr:=[("i",2)]) ⋯) ⋯ (PIF.c (Qp z ⋯ I (ze 2 (z.var ⋯)) (ze 0 (z.var ⋯)))) (λfp s2 H2=>have h1:=z.cq ["j"] [("i",2)] fp s2 H2 ⋯;h1.tgt 0 ⋯) (λfp s2 H2=>have h1:=z.cq ["j"] [("i",2)] fp s2 H2 ⋯;jM (ka (zb (ze 1 (h1.var ⋯)) (zb (ze 0 (h1.var ⋯)) zn))))))));exact(zx (qU 1 (z.var ⋯))))
theorem ok_rests(D:DefAt K mg "rests" (top 4) ["p","numbers"])(I:mg "tuple" = none):FnD P w K mg base 1 "rests" 2 F_rests:=
 kG (N:=["p","numbers"]) D ⋯ λX J hw O hm S z hx=>by
  subst J hw O hm S;exact zx (ji (jY z ⋯ I (PO.q (jx (own:=["x"]) (fr:=[("p",0)]) (T:= .nm 0) z.calm (z.compOk (fr:=[("p",0)]) ⋯) ⋯ (jj (zv 1 (z.var ⋯))) (λfp s2 H2=>have h1:=z.cq ["x"] [("p",0)] fp s2 H2 ⋯;h1.tgt 0 ⋯) (λfp s2 H2=>have h1:=z.cq ["x"] [("p",0)] fp s2 H2 ⋯;jU (ze 0 (h1.var ⋯)) (ze 1 (h1.var ⋯)))))))
theorem ok_inverse(D:DefAt K mg "inverse" (top 5) ["p","x"])(I:mg "range" = none):FnD P w K mg base 1 "inverse" 2 F_inverse:=
 kG (N:=["p","x","y"]) D ⋯ λX J hw O hm S z hx=>by
  subst J hw O hm S;exact(by refine zg ?_ ?_;exact(qj (T:= .nm 2) (xi hx) z.calm (Qp z ⋯ I zk (ze 0 (z.var ⋯))) (z.tgt 2 ⋯) (zx (xp (v7 z (jU (jZ (ze 1 (z.var ⋯)) (ze 2 (z.var ⋯))) (ze 0 (z.var ⋯))) zk) (zx (qU 2 (z.var ⋯))) j1)));exact(zx Kw))
theorem ok_cleared(D:DefAt K mg "cleared" (top 11) ["p","load","pivot","place"])(I:FnD P w K mg base 1 "rests" 2 F_rests)(J:mg "zip" = none):FnD P w K mg base 2 "cleared" 4 F_cleared:=
 kG (N:=["p","load","pivot","place","much"]) D ⋯ λX O hw S hm U z hx=>by
  subst O hw S hm U;exact(by refine zg ?_ ?_;exact(z9 4 (z.set 4 ⋯ (zX (zv 1 (z.var ⋯)) (ze 3 (z.var ⋯)))));refine zg ?_ ?_;exact(xp (v7 z (ze 4 (z.var ⋯)) zk) (zx (qU 1 (z.var ⋯))) j1);exact(zx (ji (jE I ⋯ z ⋯ (zb (ze 0 (z.var ⋯)) (zb (PO.v (jx (own:=["x","y"]) (fr:=[("much",4)]) (T:= .tp [0,1]) z.calm (z.compOk (fr:=[("much",4)]) ⋯) ⋯ (PIF.c (ZM z ⋯ J (ze 1 (z.var ⋯)) (ze 2 (z.var ⋯)))) (λfp s2 H2=>have h1:=z.cq ["x","y"] [("much",4)] fp s2 H2 ⋯;h1.tgts (zS (h1.tgt 0 ⋯) (zS (h1.tgt 1 ⋯) j8))) (λfp s2 H2=>have h1:=z.cq ["x","y"] [("much",4)] fp s2 H2 ⋯;xh (ze 0 (h1.var ⋯)) (jZ (ze 2 (h1.var ⋯)) (ze 1 (h1.var ⋯)))))) zn))))))
theorem ok_base_of(D:DefAt K mg "base_of" (top 12) ["p","long","loads"])(I:FnD P w K mg base 1 "rests" 2 F_rests)(O:FnD P w K mg base 1 "inverse" 2 F_inverse)(J:FnD P w K mg base 2 "cleared" 4 F_cleared)(S:mg "range" = none):FnD P w K mg base 3 "base_of" 3 F_base_of:=
 kG (N:=["p","long","loads","left","base","place","leading","times","pivot"]) D ⋯ λX U hw Y hm Z z hx=>by
  subst U hw Y hm Z;exact(by refine zg ?_ ?_;exact(jw 3 (psc 3 z ⋯ (own:=["load"]) (fr:=[("p",0)]) (T:= .nm 0) z.calm (z.compOk (fr:=[("p",0)]) ⋯) ⋯ (jj (zv 2 (z.var ⋯))) (λfp s2 H2=>have h1:=z.cq ["load"] [("p",0)] fp s2 H2 ⋯;h1.tgt 0 ⋯) (λfp s2 H2=>have h1:=z.cq ["load"] [("p",0)] fp s2 H2 ⋯;jE I ⋯ h1 ⋯ (zb (ze 1 (h1.var ⋯)) (zb (ze 0 (h1.var ⋯)) zn)))));refine zg ?_ ?_;exact(qC 4 (z.set 4 ⋯ (ku (ka zn))));refine zg ?_ ?_;exact(qj (T:= .nm 5) (xi hx) z.calm (jL z ⋯ S (ze 1 (z.var ⋯))) (z.tgt 5 ⋯) ((by refine zg ?_ ?_;exact(jw 6 (zct 6 z ⋯ (own:=["load"]) (fr:=[("place",5)]) (T:= .nm 0) z.calm (z.compOk (fr:=[("place",5)]) ⋯) ⋯ (jj (zv 3 (z.var ⋯))) (λfp s2 H2=>have h1:=z.cq ["load"] [("place",5)] fp s2 H2 ⋯;h1.tgt 0 ⋯) (λfp s2 H2=>have h1:=z.cq ["load"] [("place",5)] fp s2 H2 ⋯;ZI h1 (zX (zv 0 (h1.var ⋯)) (ze 1 (h1.var ⋯))) zk) (λfp s2 H2=>have h1:=z.cq ["load"] [("place",5)] fp s2 H2 ⋯;ze 0 (h1.var ⋯))));refine zg ?_ ?_;exact(xp (Jx (Vv (zv 6 (z.var ⋯)))) (zx ZK) j1);refine zg ?_ ?_;exact(z9 7 (z.set 7 ⋯ (jE O ⋯ z ⋯ (zb (ze 0 (z.var ⋯)) (zb (zX (PV.q (zX (zv 6 (z.var ⋯)) zk)) (ze 5 (z.var ⋯))) zn)))));refine zg ?_ ?_;exact(z9 8 (z.set 8 ⋯ (jE I ⋯ z ⋯ (zb (ze 0 (z.var ⋯)) (zb (PO.v (jx (own:=["x"]) (fr:=[("times",7)]) (T:= .nm 0) z.calm (z.compOk (fr:=[("times",7)]) ⋯) ⋯ (jj (PV.q (zX (zv 6 (z.var ⋯)) zk))) (λfp s2 H2=>have h1:=z.cq ["x"] [("times",7)] fp s2 H2 ⋯;h1.tgt 0 ⋯) (λfp s2 H2=>have h1:=z.cq ["x"] [("times",7)] fp s2 H2 ⋯;jZ (ze 1 (h1.var ⋯)) (ze 0 (h1.var ⋯))))) zn)))));refine zg ?_ ?_;exact(jw 3 (psc 3 z ⋯ (own:=["load"]) (fr:=[("p",0),("place",5),("pivot",8)]) (T:= .nm 0) z.calm (z.compOk (fr:=[("p",0),("place",5),("pivot",8)]) ⋯) ⋯ (jj (zv 3 (z.var ⋯))) (λfp s2 H2=>have h1:=z.cq ["load"] [("p",0),("place",5),("pivot",8)] fp s2 H2 ⋯;h1.tgt 0 ⋯) (λfp s2 H2=>have h1:=z.cq ["load"] [("p",0),("place",5),("pivot",8)] fp s2 H2 ⋯;jE J ⋯ h1 ⋯ (zb (ze 1 (h1.var ⋯)) (zb (ze 0 (h1.var ⋯)) (zb (ze 3 (h1.var ⋯)) (zb (ze 2 (h1.var ⋯)) zn)))))));exact(zx (qC 4 (z.set 4 ⋯ (Qm (PO.q (jx (own:=["load"]) (fr:=[("p",0),("place",5),("pivot",8)]) (T:= .nm 0) z.calm (z.compOk (fr:=[("p",0),("place",5),("pivot",8)]) ⋯) ⋯ (jj (zv 4 (z.var ⋯))) (λfp s2 H2=>have h1:=z.cq ["load"] [("p",0),("place",5),("pivot",8)] fp s2 H2 ⋯;h1.tgt 0 ⋯) (λfp s2 H2=>have h1:=z.cq ["load"] [("p",0),("place",5),("pivot",8)] fp s2 H2 ⋯;jE J ⋯ h1 ⋯ (zb (ze 1 (h1.var ⋯)) (zb (ze 0 (h1.var ⋯)) (zb (ze 3 (h1.var ⋯)) (zb (ze 2 (h1.var ⋯)) zn))))))) (PO.q (ku (ka (zb (ze 8 (z.var ⋯)) zn)))))))))));exact(zx (qU 4 (z.var ⋯))))
theorem ok_led(D:DefAt K mg "led" (top 6) ["p","table","load"])(I:FnD P w K mg base 1 "rests" 2 F_rests)(J:mg "sum" = none)(O:mg "zip" = none):FnD P w K mg base 2 "led" 3 F_led:=
 kG (N:=["p","table","load"]) D ⋯ λX S hw U hm Y z hx=>by
  subst S hw U hm Y;exact zx (ji (jE I ⋯ z ⋯ (zb (ze 0 (z.var ⋯)) (zb (PO.v (jx (own:=["row"]) (fr:=[("load",2)]) (T:= .nm 0) z.calm (z.compOk (fr:=[("load",2)]) ⋯) ⋯ (jj (PV.q (zX (zv 1 (z.var ⋯)) zk))) (λfp s2 H2=>have h1:=z.cq ["row"] [("load",2)] fp s2 H2 ⋯;h1.tgt 0 ⋯) (λfp s2 H2=>have h1:=z.cq ["row"] [("load",2)] fp s2 H2 ⋯;WN h1 ⋯ J (PO.q (jx (own:=["x","y"]) (fr:=[]) (T:= .tp [0,1]) h1.calm (h1.compOk (fr:=[]) ⋯) ⋯ (PIF.c (ZM h1 ⋯ O (ze 0 (h1.var ⋯)) (ze 1 (h1.var ⋯)))) (λfp s2 H2=>have h2:=h1.cq ["x","y"] [] fp s2 H2 ⋯;h2.tgts (zS (h2.tgt 0 ⋯) (zS (h2.tgt 1 ⋯) j8))) (λfp s2 H2=>have h2:=h1.cq ["x","y"] [] fp s2 H2 ⋯;jZ (ze 0 (h2.var ⋯)) (ze 1 (h2.var ⋯)))))))) zn))))
theorem ok_led_on(D:DefAt K mg "led_on" (top 14) ["p","table","base"])(I:FnD P w K mg base 3 "base_of" 3 F_base_of)(J:FnD P w K mg base 2 "led" 3 F_led):FnD P w K mg base 4 "led_on" 3 F_led_on:=
 kG (N:=["p","table","base"]) D ⋯ λX O hw S hm U z hx=>by
  subst O hw S hm U;exact zx (kt (yp I ⋯ z ⋯ (zb (ze 0 (z.var ⋯)) (zb (zX (zv 1 (z.var ⋯)) zk) (zb (PO.v (jx (own:=["load"]) (fr:=[("p",0),("table",1)]) (T:= .nm 0) z.calm (z.compOk (fr:=[("p",0),("table",1)]) ⋯) ⋯ (jj (zv 2 (z.var ⋯))) (λfp s2 H2=>have h1:=z.cq ["load"] [("p",0),("table",1)] fp s2 H2 ⋯;h1.tgt 0 ⋯) (λfp s2 H2=>have h1:=z.cq ["load"] [("p",0),("table",1)] fp s2 H2 ⋯;jE J ⋯ h1 ⋯ (zb (ze 1 (h1.var ⋯)) (zb (ze 2 (h1.var ⋯)) (zb (ze 0 (h1.var ⋯)) zn)))))) zn)))))
theorem ok_behind_noughts(D:DefAt K mg "behind_noughts" (top 13) ["many","base"])(I:mg "any" = none):FnD P w K mg base 1 "behind_noughts" 2 F_behind_noughts:=
 kG (N:=["many","base"]) D ⋯ λX J hw O hm S z hx=>by
  subst J hw O hm S;exact zx (kt (yU (own:=["load"]) (fr:=[("many",0)]) (T:= .nm 0) z.calm (z.compOk (fr:=[("many",0)]) ⋯) ⋯ (jj (zv 1 (z.var ⋯))) (λfp s2 H2=>have h1:=z.cq ["load"] [("many",0)] fp s2 H2 ⋯;h1.tgt 0 ⋯) (λfp s2 H2=>have h1:=z.cq ["load"] [("many",0)] fp s2 H2 ⋯;Jx (Ku (zcn h1 ⋯ I (PV.q (ZH (ze 0 (h1.var ⋯)) wS (k5 (ze 1 (h1.var ⋯)))))))) (λfp s2 H2=>have h1:=z.cq ["load"] [("many",0)] fp s2 H2 ⋯;ZH (ze 0 (h1.var ⋯)) (k5 (ze 1 (h1.var ⋯))) wS)))
theorem ok_turned_over(D:DefAt K mg "turned_over" (top 7) ["table"])(J:mg "range" = none)(I:mg "tuple" = none):FnD P w K mg base 1 "turned_over" 1 F_turned_over:=
 kG (N:=["table","columns"]) D ⋯ λX O hw S hm U z hx=>by
  subst O hw S hm U;exact(by refine zg ?_ ?_;exact(jw 1 (psc 1 z ⋯ (own:=["j"]) (fr:=[("table",0)]) (T:= .nm 0) z.calm (z.compOk (fr:=[("table",0)]) ⋯) ⋯ (PIF.c (jL z ⋯ J (zX (zv 0 (z.var ⋯)) zk))) (λfp s2 H2=>have h1:=z.cq ["j"] [("table",0)] fp s2 H2 ⋯;h1.tgt 0 ⋯) (λfp s2 H2=>have h1:=z.cq ["j"] [("table",0)] fp s2 H2 ⋯;jY h1 ⋯ I (PO.q (jx (own:=["row"]) (fr:=[("j",0)]) (T:= .nm 0) h1.calm (h1.compOk (fr:=[("j",0)]) ⋯) ⋯ (jj (PV.q (zX (zv 1 (h1.var ⋯)) zk))) (λfp s2 H2=>have h2:=h1.cq ["row"] [("j",0)] fp s2 H2 ⋯;h2.tgt 0 ⋯) (λfp s2 H2=>have h2:=h1.cq ["row"] [("j",0)] fp s2 H2 ⋯;zX (zv 0 (h2.var ⋯)) (ze 1 (h2.var ⋯))))))));exact(zx (ji (jM (ka (zb (zX (zv 0 (z.var ⋯)) zk) (zb (zX (zv 0 (z.var ⋯)) zk) (zb (jY z ⋯ I (zv 1 (z.var ⋯))) zn))))))))
theorem ok_same_table(D:DefAt K mg "same_table" (top 8) ["many"])(I:mg "range" = none)(J:mg "tuple" = none):FnD P w K mg base 1 "same_table" 1 F_same_table:=
 kG (N:=["many","rows"]) D ⋯ λX O hw S hm U z hx=>by
  subst O hw S hm U;exact(by refine zg ?_ ?_;exact(jw 1 (psc 1 z ⋯ (own:=["i"]) (fr:=[("many",0)]) (T:= .nm 0) z.calm (z.compOk (fr:=[("many",0)]) ⋯) ⋯ (PIF.c (jL z ⋯ I (ze 0 (z.var ⋯)))) (λfp s2 H2=>have h1:=z.cq ["i"] [("many",0)] fp s2 H2 ⋯;h1.tgt 0 ⋯) (λfp s2 H2=>have h1:=z.cq ["i"] [("many",0)] fp s2 H2 ⋯;jY h1 ⋯ J (PO.q (jx (own:=["j"]) (fr:=[("i",0)]) (T:= .nm 0) h1.calm (h1.compOk (fr:=[("i",0)]) ⋯) ⋯ (PIF.c (jL h1 ⋯ I (ze 1 (h1.var ⋯)))) (λfp s2 H2=>have h2:=h1.cq ["j"] [("i",0)] fp s2 H2 ⋯;h2.tgt 0 ⋯) (λfp s2 H2=>have h2:=h1.cq ["j"] [("i",0)] fp s2 H2 ⋯;Vs (v7 h2 (ze 1 (h2.var ⋯)) (ze 0 (h2.var ⋯))) zk zk))))));exact(zx (ji (jM (ka (zb (ze 0 (z.var ⋯)) (zb (ze 0 (z.var ⋯)) (zb (jY z ⋯ J (zv 1 (z.var ⋯))) zn))))))))
theorem ok_led_into(D:DefAt K mg "led_into" (top 15) ["p","table","base"])(I:FnD P w K mg base 1 "behind_noughts" 2 F_behind_noughts)(J:FnD P w K mg base 3 "base_of" 3 F_base_of)(O:FnD P w K mg base 1 "turned_over" 1 F_turned_over)(S:FnD P w K mg base 1 "same_table" 1 F_same_table)(U:mg "zip" = none):FnD P w K mg base 4 "led_into" 3 F_led_into:=
 kG (N:=["p","table","base","pairs","free"]) D ⋯ λX Y hw Z hm hb z hx=>by
  subst Y hw Z hm hb;exact(by refine zg ?_ ?_;exact(jw 3 (psc 3 z ⋯ (own:=["column","unit"]) (fr:=[]) (T:= .tp [0,1]) z.calm (z.compOk (fr:=[]) ⋯) ⋯ (PIF.c (ZM z ⋯ U (zX (PV.q (jE O ⋯ z ⋯ (zb (ze 1 (z.var ⋯)) zn))) zk) (zX (PV.q (jE S ⋯ z ⋯ (zb (zX (zv 1 (z.var ⋯)) zk) zn))) zk))) (λfp s2 H2=>have h1:=z.cq ["column","unit"] [] fp s2 H2 ⋯;h1.tgts (zS (h1.tgt 0 ⋯) (zS (h1.tgt 1 ⋯) j8))) (λfp s2 H2=>have h1:=z.cq ["column","unit"] [] fp s2 H2 ⋯;jm (ze 0 (h1.var ⋯)) (ze 1 (h1.var ⋯)))));refine zg ?_ ?_;exact(jw 4 (psc 4 z ⋯ (own:=["load"]) (fr:=[("table",1)]) (T:= .nm 0) z.calm (z.compOk (fr:=[("table",1)]) ⋯) ⋯ (jj (zv 2 (z.var ⋯))) (λfp s2 H2=>have h1:=z.cq ["load"] [("table",1)] fp s2 H2 ⋯;h1.tgt 0 ⋯) (λfp s2 H2=>have h1:=z.cq ["load"] [("table",1)] fp s2 H2 ⋯;jm (ze 0 (h1.var ⋯)) (jZ (jM (ka (zb zk zn))) (zX (zv 1 (h1.var ⋯)) zk)))));exact(zx (kt (yp I ⋯ z ⋯ (zb (zX (zv 1 (z.var ⋯)) zk) (zb (PO.v (yp J ⋯ z ⋯ (zb (ze 0 (z.var ⋯)) (zb (jm (zX (zv 1 (z.var ⋯)) zk) (zX (zv 1 (z.var ⋯)) zk)) (zb (PO.v (Qm (zv 3 (z.var ⋯)) (zv 4 (z.var ⋯)))) zn))))) zn))))))
theorem ok_tables_joined(D:DefAt K mg "tables_joined" (top 22) ["one","other","join"])(I:mg "tuple" = none)(J:mg "zip" = none):FnD P w K mg base 1 "tables_joined" 3 F_tables_joined:=
 kG (N:=["one","other","join","first","second"]) D ⋯ λX O hw S hm U z hx=>by
  subst O hw S hm U;exact(by refine zg ?_ ?_;exact(jw 3 (psc 3 z ⋯ (own:=["row","beyond"]) (fr:=[]) (T:= .tp [0,1]) z.calm (z.compOk (fr:=[]) ⋯) ⋯ (PIF.c (ZM z ⋯ J (zX (zv 0 (z.var ⋯)) zk) (zX (zv 2 (z.var ⋯)) zk))) (λfp s2 H2=>have h1:=z.cq ["row","beyond"] [] fp s2 H2 ⋯;h1.tgts (zS (h1.tgt 0 ⋯) (zS (h1.tgt 1 ⋯) j8))) (λfp s2 H2=>have h1:=z.cq ["row","beyond"] [] fp s2 H2 ⋯;jm (ze 0 (h1.var ⋯)) (ze 1 (h1.var ⋯)))));refine zg ?_ ?_;exact(jw 4 (psc 4 z ⋯ (own:=["row"]) (fr:=[("one",0)]) (T:= .nm 0) z.calm (z.compOk (fr:=[("one",0)]) ⋯) ⋯ (jj (PV.q (zX (zv 1 (z.var ⋯)) zk))) (λfp s2 H2=>have h1:=z.cq ["row"] [("one",0)] fp s2 H2 ⋯;h1.tgt 0 ⋯) (λfp s2 H2=>have h1:=z.cq ["row"] [("one",0)] fp s2 H2 ⋯;jm (jZ (jM (ka (zb zk zn))) (zX (zv 1 (h1.var ⋯)) zk)) (ze 0 (h1.var ⋯)))));exact(zx (ji (jM (ka (zb (jm (zX (zv 0 (z.var ⋯)) zk) (zX (zv 1 (z.var ⋯)) zk)) (zb (jm (zX (zv 0 (z.var ⋯)) zk) (zX (zv 1 (z.var ⋯)) zk)) (zb (jY z ⋯ I (PV.q (PO.v (Qm (zv 3 (z.var ⋯)) (zv 4 (z.var ⋯)))))) zn))))))))
theorem ok_nought_table(D:DefAt K mg "nought_table" (top 9) ["high","wide"]):FnD P w K mg base 1 "nought_table" 2 F_nought_table:=
 kG (N:=["high","wide"]) D ⋯ λX I hw J hm O z hx=>by
  subst I hw J hm O;exact zx (ji (jM (ka (zb (ze 0 (z.var ⋯)) (zb (ze 1 (z.var ⋯)) (zb (jZ (jM (ka (zb (jZ (jM (ka (zb zk zn))) (ze 1 (z.var ⋯))) zn))) (ze 0 (z.var ⋯))) zn))))))
theorem ok_no_join(D:DefAt K mg "no_join" (top 23) ["one","other"])(I:FnD P w K mg base 1 "nought_table" 2 F_nought_table):FnD P w K mg base 2 "no_join" 2 F_no_join:=
 kG (N:=["one","other"]) D ⋯ λX J hw O hm S z hx=>by
  subst J hw O hm S;exact zx (ji (jE I ⋯ z ⋯ (zb (zX (zv 0 (z.var ⋯)) zk) (zb (zX (zv 1 (z.var ⋯)) zk) zn))))
theorem ok_tables_beside_5(D:DefAt K mg "tables_beside" (top 24) ["one","other"])(I:FnD P w K mg base 1 "tables_joined" 3 F_tables_joined)(J:FnD P w K mg base 2 "no_join" 2 F_no_join):FnD P w K mg base 3 "tables_beside" 2 F_tables_beside_5:=
 kG (N:=["one","other"]) D ⋯ λX O hw S hm U z hx=>by
  subst O hw S hm U;exact zx (ji (jE I ⋯ z ⋯ (zb (ze 0 (z.var ⋯)) (zb (ze 1 (z.var ⋯)) (zb (jE J ⋯ z ⋯ (zb (ze 0 (z.var ⋯)) (zb (ze 1 (z.var ⋯)) zn))) zn)))))
theorem ok_link(D:DefAt K mg "link" (top 26) ["row","i","j"])(a1:FnD P w K mg base 4 "led_on" 3 F_led_on)(a2:FnD P w K mg base 4 "led_into" 3 F_led_into)(I:FnD P w K mg base 1 "same_table" 1 F_same_table)(J:FnD P w K mg base 3 "tables_beside" 2 F_tables_beside_5)(O:FnBy P w K mg base 3 "arrow_by" CR CL)(S:MethAt P w K mg base 5 CR F_led_on)(U:MethAt P w K mg base 5 CL F_led_into):FnD P w K mg base 6 "link" 3 F_link:=
 kG (N:=["row","i","j","same","base","arrow"]) D ⋯ λX Y hw Z hm hb z hx=>by
  subst Y hw Z hm hb;exact(by refine zg ?_ ?_;exact(z9 3 (z.set 3 ⋯ (jE I ⋯ z ⋯ (zb (zX (PV.q (zX (zv 0 (z.var ⋯)) zk)) (ze 1 (z.var ⋯))) zn))));refine zg ?_ ?_;exact(qC 4 (psc 4 z ⋯ (own:=["unit"]) (fr:=[]) (T:= .nm 0) z.calm (z.compOk (fr:=[]) ⋯) ⋯ (jj (PV.q (zX (zv 3 (z.var ⋯)) zk))) (λfp s2 H2=>have h1:=z.cq ["unit"] [] fp s2 H2 ⋯;h1.tgt 0 ⋯) (λfp s2 H2=>have h1:=z.cq ["unit"] [] fp s2 H2 ⋯;jm (ze 0 (h1.var ⋯)) (ze 0 (h1.var ⋯)))));refine zg ?_ ?_;exact(qj (T:= .nm 5) (xi hx) z.calm (zaS (ZH (zX (zv 0 (z.var ⋯)) zk) (k5 (ze 1 (z.var ⋯))) (k5 (ze 2 (z.var ⋯))))) (z.tgt 5 ⋯) (zx (Kx 4 (qC 4 (z.set 4 ⋯ (VA O S U ⋯ ⋯ ⋯ z ⋯ (zX (zv 0 (z.var ⋯)) zk) (zX (zv 5 (z.var ⋯)) zk) (jE J ⋯ z ⋯ (zb (ze 3 (z.var ⋯)) (zb (zX (zv 5 (z.var ⋯)) zk) zn))) (ze 4 (z.var ⋯))))))));exact(zx (qU 4 (z.var ⋯))))
theorem ok_kept(D:DefAt K mg "kept" (top 27) ["row","i","j"])(O:FnD P w K mg base 6 "link" 3 F_link)(S:FnD P w K mg base 3 "base_of" 3 F_base_of)(J:FnD P w K mg base 1 "behind_noughts" 2 F_behind_noughts)(I:mg "len" = none):FnD P w K mg base 7 "kept" 3 F_kept:=
 kG (N:=["row","i","j","base","first","second","swapped"]) D ⋯ λX U hw Y hm Z z hx=>by
  subst U hw Y hm Z;exact(by refine zg ?_ ?_;exact(z9 3 (z.set 3 ⋯ (PO.v (yp O ⋯ z ⋯ (zb (ze 0 (z.var ⋯)) (zb (ze 1 (z.var ⋯)) (zb (ze 2 (z.var ⋯)) zn)))))));refine zg ?_ ?_;exact(z9 4 (z.set 4 ⋯ (zX (PV.q (zX (zv 0 (z.var ⋯)) zk)) (ze 1 (z.var ⋯)))));refine zg ?_ ?_;exact(z9 5 (z.set 5 ⋯ (zX (PV.q (zX (zv 0 (z.var ⋯)) zk)) (ze 2 (z.var ⋯)))));refine zg ?_ ?_;exact(z9 6 (z.set 6 ⋯ (PO.v (yp S ⋯ z ⋯ (zb (zX (zv 0 (z.var ⋯)) zk) (zb (jm (ze 5 (z.var ⋯)) (ze 4 (z.var ⋯))) (zb (PO.v (jx (own:=["load"]) (fr:=[("first",4)]) (T:= .nm 0) z.calm (z.compOk (fr:=[("first",4)]) ⋯) ⋯ (jj (zv 3 (z.var ⋯))) (λfp s2 H2=>have h1:=z.cq ["load"] [("first",4)] fp s2 H2 ⋯;h1.tgt 0 ⋯) (λfp s2 H2=>have h1:=z.cq ["load"] [("first",4)] fp s2 H2 ⋯;jm (ZH (ze 0 (h1.var ⋯)) (k5 (ze 1 (h1.var ⋯))) wS) (ZH (ze 0 (h1.var ⋯)) wS (k5 (ze 1 (h1.var ⋯))))))) zn)))))));exact(zx (ji (xh (xh (xo z ⋯ I (zv 3 (z.var ⋯))) (xo z ⋯ I (PO.q (yp J ⋯ z ⋯ (zb (ze 5 (z.var ⋯)) (zb (ze 6 (z.var ⋯)) zn)))))) (xo z ⋯ I (PO.q (yp J ⋯ z ⋯ (zb (ze 4 (z.var ⋯)) (zb (ze 3 (z.var ⋯)) zn)))))))))
theorem ok_number_of(D:DefAt K mg "number_of" (top 29) ["much","i","j"]):FnD P w K mg base 1 "number_of" 3 F_number_of:=
 kG (N:=["much","i","j","longer"]) D ⋯ λX I hw J hm O z hx=>by
  subst I hw J hm O;exact(by refine zg ?_ ?_;exact(z9 3 (z.set 3 ⋯ (jm (Jw z (ze 0 (z.var ⋯)) (jM (ka (zb (xh (ze 1 (z.var ⋯)) zk) (zb (ze 2 (z.var ⋯)) zn)))) zk) (Jw z (ze 0 (z.var ⋯)) (jM (ka (zb (ze 1 (z.var ⋯)) (zb (jm (ze 2 (z.var ⋯)) zk) zn)))) zk))));exact(zx (ji (jm (xh (wO z (ze 0 (z.var ⋯)) (jM (ka (zb (ze 1 (z.var ⋯)) (zb (ze 2 (z.var ⋯)) zn))))) (ze 3 (z.var ⋯))) (Jw z (ze 0 (z.var ⋯)) (jM (ka (zb (xh (ze 1 (z.var ⋯)) zk) (zb (jm (ze 2 (z.var ⋯)) zk) zn)))) zk)))))
theorem ok_numbers(D:DefAt K mg "numbers" (top 30) ["row"])(J:FnD P w K mg base 1 "stretches_of" 1 F_stretches_of)(O:FnD P w K mg base 7 "kept" 3 F_kept)(S:FnD P w K mg base 1 "number_of" 3 F_number_of)(I:mg "dict" = none)(U:mg "len" = none):FnD P w K mg base 8 "numbers" 1 F_numbers:=
 kG (N:=["row","stretches","much"]) D ⋯ λX Y hw Z hm hb z hx=>by
  subst Y hw Z hm hb;exact(by refine zg ?_ ?_;exact(z9 1 (z.set 1 ⋯ (PO.v (yp J ⋯ z ⋯ (zb (xo z ⋯ U (PV.q (zX (zv 0 (z.var ⋯)) zk))) zn)))));refine zg ?_ ?_;exact(z9 2 (z.set 2 ⋯ (Qj z ⋯ I (jx (own:=["i","j"]) (fr:=[("row",0)]) (T:= .tp [0,1]) z.calm (z.compOk (fr:=[("row",0)]) ⋯) ⋯ (jj (zv 1 (z.var ⋯))) (λfp s2 H2=>have h1:=z.cq ["i","j"] [("row",0)] fp s2 H2 ⋯;h1.tgts (zS (h1.tgt 0 ⋯) (zS (h1.tgt 1 ⋯) j8))) (λfp s2 H2=>have h1:=z.cq ["i","j"] [("row",0)] fp s2 H2 ⋯;jM (ka (zb (jM (ka (zb (ze 0 (h1.var ⋯)) (zb (ze 1 (h1.var ⋯)) zn)))) (zb (jE O ⋯ h1 ⋯ (zb (ze 2 (h1.var ⋯)) (zb (ze 0 (h1.var ⋯)) (zb (ze 1 (h1.var ⋯)) zn)))) zn))))))));exact(zx (ji (Qj z ⋯ I (jx (own:=["i","j"]) (fr:=[("much",2)]) (T:= .tp [0,1]) z.calm (z.compOk (fr:=[("much",2)]) ⋯) ⋯ (jj (zv 1 (z.var ⋯))) (λfp s2 H2=>have h1:=z.cq ["i","j"] [("much",2)] fp s2 H2 ⋯;h1.tgts (zS (h1.tgt 0 ⋯) (zS (h1.tgt 1 ⋯) j8))) (λfp s2 H2=>have h1:=z.cq ["i","j"] [("much",2)] fp s2 H2 ⋯;jM (ka (zb (jM (ka (zb (ze 0 (h1.var ⋯)) (zb (ze 1 (h1.var ⋯)) zn)))) (zb (jE S ⋯ h1 ⋯ (zb (ze 2 (h1.var ⋯)) (zb (ze 0 (h1.var ⋯)) (zb (ze 1 (h1.var ⋯)) zn)))) zn)))))))))
theorem ok_law_ways_k22(D:DefAt K mg "_law_ways" (top 38) ["_law_cell_here","_law_rooms"])(I:mg "range" = none):FnD P w K mg base 1 "_law_ways" 2 F_law_ways_k22:=
 kG (N:=["_law_cell_here","_law_rooms","_law_ways_here","_law_k"]) D ⋯ λX J hw O hm S z hx=>by
  subst J hw O hm S;exact(by refine zg ?_ ?_;exact(z9 2 (z.set 2 ⋯ Kq));refine zg ?_ ?_;exact(qj (T:= .nm 3) (xi hx) z.calm (jL z ⋯ I (xh (ze 1 (z.var ⋯)) zk)) (z.tgt 3 ⋯) ((by refine zg ?_ ?_;exact(z9 2 (z.set 2 ⋯ (zaJ (ze 2 (z.var ⋯)) (Vr Kq (jU (ze 0 (z.var ⋯)) zk)))));exact(zx (z9 0 (z.set 0 ⋯ (yQ (ze 0 (z.var ⋯)) zk)))))));exact(zx (qU 2 (z.var ⋯))))
theorem ok_law_having(D:DefAt K mg "_law_having" (top 41) ["_law_found","_law_i","_law_j"])(I:mg "sum" = none):FnD P w K mg base 1 "_law_having" 3 F_law_having:=
 kG (N:=["_law_found","_law_i","_law_j"]) D ⋯ λX J hw O hm S z hx=>by
  subst J hw O hm S;exact zx (ji (WN z ⋯ I (PO.q (yU (own:=["_law_each"]) (fr:=[("_law_found",0),("_law_i",1),("_law_j",2)]) (T:= .nm 0) z.calm (z.compOk (fr:=[("_law_found",0),("_law_i",1),("_law_j",2)]) ⋯) ⋯ (PIF.c (Qq (ze 0 (z.var ⋯)))) (λfp s2 H2=>have h1:=z.cq ["_law_each"] [("_law_found",0),("_law_i",1),("_law_j",2)] fp s2 H2 ⋯;h1.tgt 0 ⋯) (λfp s2 H2=>have h1:=z.cq ["_law_each"] [("_law_found",0),("_law_i",1),("_law_j",2)] fp s2 H2 ⋯;Vu (Jv (zcp (zX (zv 0 (h1.var ⋯)) zk) (ze 2 (h1.var ⋯))) (wN (zcq (zX (zv 0 (h1.var ⋯)) zk) (ze 3 (h1.var ⋯)))))) (λfp s2 H2=>have h1:=z.cq ["_law_each"] [("_law_found",0),("_law_i",1),("_law_j",2)] fp s2 H2 ⋯;wO h1 (ze 1 (h1.var ⋯)) (ze 0 (h1.var ⋯)))))))
theorem ok_law_less_k22(D:DefAt K mg "_law_less" (top 33) ["_law_p","_law_row_here","_law_other","_law_times"])(I:mg "zip" = none):FnD P w K mg base 1 "_law_less" 4 F_law_less_k22:=
 kG (N:=["_law_p","_law_row_here","_law_other","_law_times"]) D ⋯ λX J hw O hm S z hx=>by
  subst J hw O hm S;exact zx (kt (jx (own:=["_law_one","_law_two"]) (fr:=[("_law_p",0),("_law_times",3)]) (T:= .tp [0,1]) z.calm (z.compOk (fr:=[("_law_p",0),("_law_times",3)]) ⋯) ⋯ (PIF.c (ZM z ⋯ I (ze 1 (z.var ⋯)) (ze 2 (z.var ⋯)))) (λfp s2 H2=>have h1:=z.cq ["_law_one","_law_two"] [("_law_p",0),("_law_times",3)] fp s2 H2 ⋯;h1.tgts (zS (h1.tgt 0 ⋯) (zS (h1.tgt 1 ⋯) j8))) (λfp s2 H2=>have h1:=z.cq ["_law_one","_law_two"] [("_law_p",0),("_law_times",3)] fp s2 H2 ⋯;jU (xh (ze 0 (h1.var ⋯)) (jZ (ze 3 (h1.var ⋯)) (ze 1 (h1.var ⋯)))) (ze 2 (h1.var ⋯)))))
theorem ok_law_base_k22(D:DefAt K mg "_law_base" (top 34) ["_law_p","_law_long","_law_loads"])(I:FnD P w K mg base 1 "_law_less" 4 F_law_less_k22)(O:mg "len" = none)(S:mg "list" = none)(J:mg "range" = none)(U:mg "tuple" = none):FnD P w K mg base 2 "_law_base" 3 F_law_base_k22:=
 kG (N:=["_law_p","_law_long","_law_loads","_law_rows_here","_law_done","_law_place","_law_some","_law_over","_law_first"]) D ⋯ λX Y hw Z hm hb z hx=>by
  subst Y hw Z hm hb;exact(by refine zg ?_ ?_;exact(jw 3 (psc 3 z ⋯ (own:=["_law_load"]) (fr:=[]) (T:= .nm 0) z.calm (z.compOk (fr:=[]) ⋯) ⋯ (jj (zv 2 (z.var ⋯))) (λfp s2 H2=>have h1:=z.cq ["_law_load"] [] fp s2 H2 ⋯;h1.tgt 0 ⋯) (λfp s2 H2=>have h1:=z.cq ["_law_load"] [] fp s2 H2 ⋯;PO.v (zaP h1 ⋯ S (zv 0 (h1.var ⋯))))));refine zg ?_ ?_;exact(z9 4 (z.set 4 ⋯ (PO.v (ku (ka zn)))));refine zg ?_ ?_;exact(qj (T:= .nm 5) (xi hx) z.calm (jL z ⋯ J (ze 1 (z.var ⋯))) (z.tgt 5 ⋯) ((by refine zg ?_ ?_;exact(jw 6 (zct 6 z ⋯ (own:=["_law_row_here"]) (fr:=[("_law_place",5)]) (T:= .nm 0) z.calm (z.compOk (fr:=[("_law_place",5)]) ⋯) ⋯ (jj (zv 3 (z.var ⋯))) (λfp s2 H2=>have h1:=z.cq ["_law_row_here"] [("_law_place",5)] fp s2 H2 ⋯;h1.tgt 0 ⋯) (λfp s2 H2=>have h1:=z.cq ["_law_row_here"] [("_law_place",5)] fp s2 H2 ⋯;ZI h1 (zX (zv 0 (h1.var ⋯)) (ze 1 (h1.var ⋯))) zk) (λfp s2 H2=>have h1:=z.cq ["_law_row_here"] [("_law_place",5)] fp s2 H2 ⋯;ze 0 (h1.var ⋯))));exact(zx (xp (ZJ (xo z ⋯ O (zv 6 (z.var ⋯))) zk) ((by refine zg ?_ ?_;exact(z9 7 (z.set 7 ⋯ (zX (PO.q (yU (own:=["_law_x"]) (fr:=[("_law_p",0),("_law_place",5),("_law_some",6)]) (T:= .nm 0) z.calm (z.compOk (fr:=[("_law_p",0),("_law_place",5),("_law_some",6)]) ⋯) ⋯ (PIF.c (jL z ⋯ J (ze 0 (z.var ⋯)))) (λfp s2 H2=>have h1:=z.cq ["_law_x"] [("_law_p",0),("_law_place",5),("_law_some",6)] fp s2 H2 ⋯;h1.tgt 0 ⋯) (λfp s2 H2=>have h1:=z.cq ["_law_x"] [("_law_p",0),("_law_place",5),("_law_some",6)] fp s2 H2 ⋯;v7 h1 (jU (jZ (ze 0 (h1.var ⋯)) (zX (PV.q (zX (zv 3 (h1.var ⋯)) zk)) (ze 2 (h1.var ⋯)))) (ze 1 (h1.var ⋯))) zk) (λfp s2 H2=>have h1:=z.cq ["_law_x"] [("_law_p",0),("_law_place",5),("_law_some",6)] fp s2 H2 ⋯;ze 0 (h1.var ⋯)))) zk)));refine zg ?_ ?_;exact(jw 8 (psc 8 z ⋯ (own:=["_law_x"]) (fr:=[("_law_p",0),("_law_over",7)]) (T:= .nm 0) z.calm (z.compOk (fr:=[("_law_p",0),("_law_over",7)]) ⋯) ⋯ (jj (PV.q (zX (zv 6 (z.var ⋯)) zk))) (λfp s2 H2=>have h1:=z.cq ["_law_x"] [("_law_p",0),("_law_over",7)] fp s2 H2 ⋯;h1.tgt 0 ⋯) (λfp s2 H2=>have h1:=z.cq ["_law_x"] [("_law_p",0),("_law_over",7)] fp s2 H2 ⋯;jU (jZ (ze 2 (h1.var ⋯)) (ze 0 (h1.var ⋯))) (ze 1 (h1.var ⋯)))));refine zg ?_ ?_;exact(jw 3 (psc 3 z ⋯ (own:=["_law_row_here"]) (fr:=[("_law_p",0),("_law_place",5),("_law_first",8)]) (T:= .nm 0) z.calm (z.compOk (fr:=[("_law_p",0),("_law_place",5),("_law_first",8)]) ⋯) ⋯ (jj (zv 3 (z.var ⋯))) (λfp s2 H2=>have h1:=z.cq ["_law_row_here"] [("_law_p",0),("_law_place",5),("_law_first",8)] fp s2 H2 ⋯;h1.tgt 0 ⋯) (λfp s2 H2=>have h1:=z.cq ["_law_row_here"] [("_law_p",0),("_law_place",5),("_law_first",8)] fp s2 H2 ⋯;PO.v (yp I ⋯ h1 ⋯ (zb (ze 1 (h1.var ⋯)) (zb (ze 0 (h1.var ⋯)) (zb (ze 3 (h1.var ⋯)) (zb (zX (zv 0 (h1.var ⋯)) (ze 2 (h1.var ⋯))) zn))))))));exact(zx (z9 4 (z.set 4 ⋯ (PO.v (Qm (PO.q (jx (own:=["_law_row_here"]) (fr:=[("_law_p",0),("_law_place",5),("_law_first",8)]) (T:= .nm 0) z.calm (z.compOk (fr:=[("_law_p",0),("_law_place",5),("_law_first",8)]) ⋯) ⋯ (jj (zv 4 (z.var ⋯))) (λfp s2 H2=>have h1:=z.cq ["_law_row_here"] [("_law_p",0),("_law_place",5),("_law_first",8)] fp s2 H2 ⋯;h1.tgt 0 ⋯) (λfp s2 H2=>have h1:=z.cq ["_law_row_here"] [("_law_p",0),("_law_place",5),("_law_first",8)] fp s2 H2 ⋯;PO.v (yp I ⋯ h1 ⋯ (zb (ze 1 (h1.var ⋯)) (zb (ze 0 (h1.var ⋯)) (zb (ze 3 (h1.var ⋯)) (zb (zX (zv 0 (h1.var ⋯)) (ze 2 (h1.var ⋯))) zn)))))))) (PO.q (ku (ka (zb (ze 8 (z.var ⋯)) zn))))))))))) j1)))));exact(zx (kt (jx (own:=["_law_row_here"]) (fr:=[]) (T:= .nm 0) z.calm (z.compOk (fr:=[]) ⋯) ⋯ (jj (zv 4 (z.var ⋯))) (λfp s2 H2=>have h1:=z.cq ["_law_row_here"] [] fp s2 H2 ⋯;h1.tgt 0 ⋯) (λfp s2 H2=>have h1:=z.cq ["_law_row_here"] [] fp s2 H2 ⋯;jY h1 ⋯ U (zv 0 (h1.var ⋯)))))))
theorem ok_law_whole(D:DefAt K mg "_law_whole" (top 35) ["_law_found"])(J:mg "bool" = none)(O:mg "int" = none)(I:mg "isinstance" = none):FnD P w K mg base 1 "_law_whole" 1 F_law_whole:=
 kG (N:=["_law_found"]) D ⋯ λX S hw U hm Y z hx=>by
  subst S hw U hm Y;exact zx (ji (WO (Kt z ⋯ I ⋯ O (ze 0 (z.var ⋯))) (Ks (zck (Xe z ⋯ I ⋯ J (ze 0 (z.var ⋯)))))))
theorem ok_law{f:Addr}{fd:FuncData}(D:L2.Fun K "law" "law" (top 42) f fd)(I:FnD P w K mg base 1 "_law_cell" 2 F_law_cell)(S:FnD P w K mg base 3 "_law_drawn" 5 F_law_drawn_k22)(U:FnD P w K mg base 8 "numbers" 1 F_numbers)(J:FnD P w K mg base 7 "kept" 3 F_kept)(Y:FnD P w K mg base 1 "_law_ways" 2 F_law_ways_k22)(O:FnD P w K mg base 1 "_law_having" 3 F_law_having)(Z:FnD P w K mg base 2 "_law_base" 3 F_law_base_k22)(a0:FnD P w K mg base 1 "_law_whole" 1 F_law_whole)(a1:mg "all" = none)(a2:mg "enumerate" = none)(a3:mg "len" = none)(a4:mg "range" = none):FnOk P w K mg base CX0 9 f fd ["_law_script"] (spF K 1 F_law_k27):=
 zeZ (N:=["_law_script","_law_cell_here","_law_p","_law_rooms","_law_row_here","_law_found","_law_k","_law_arrow","_law_high","_law_wide","_law_rows_here","_law_i","_law_j","_law_many"]) D ⋯ λX hP hw hK hm hb z hx=>by
  subst hP hw hK hm hb;exact(by refine zg ?_ ?_;exact(z9 1 (z.set 1 ⋯ (jE I ⋯ z ⋯ (zb (ze 0 (z.var ⋯)) (zb zk zn)))));refine zg ?_ ?_;exact(z9 2 (z.set 2 ⋯ (zX (PO.q (ku (ka (zb zk (zb zk (zb zk (zb zk zn))))))) (jU (ze 1 (z.var ⋯)) zk))));refine zg ?_ ?_;exact(z9 3 (z.set 3 ⋯ (jm zk (jU (yQ (ze 1 (z.var ⋯)) zk) zk))));refine zg ?_ ?_;exact(z9 4 (z.set 4 ⋯ (jE S ⋯ z ⋯ (zb (ze 0 (z.var ⋯)) (zb zk (zb (ze 2 (z.var ⋯)) (zb (jE Y ⋯ z ⋯ (zb (yQ (ze 1 (z.var ⋯)) zk) (zb (ze 3 (z.var ⋯)) zn))) (zb zk zn))))))));refine zg ?_ ?_;exact(z9 5 (z.set 5 ⋯ (jE U ⋯ z ⋯ (zb (ze 4 (z.var ⋯)) zn))));refine zg ?_ ?_;exact(xp (Jx (Ku (zco z ⋯ a1 (PO.q (jx (own:=["_law_each"]) (fr:=[("_law_found",5)]) (T:= .nm 0) z.calm (z.compOk (fr:=[("_law_found",5)]) ⋯) ⋯ (PIF.c (Qq (ze 5 (z.var ⋯)))) (λfp s2 H2=>have h1:=z.cq ["_law_each"] [("_law_found",5)] fp s2 H2 ⋯;h1.tgt 0 ⋯) (λfp s2 H2=>have h1:=z.cq ["_law_each"] [("_law_found",5)] fp s2 H2 ⋯;WO (jE a0 ⋯ h1 ⋯ (zb (wO h1 (ze 1 (h1.var ⋯)) (ze 0 (h1.var ⋯))) zn)) (Ks (zex (wO h1 (ze 1 (h1.var ⋯)) (ze 0 (h1.var ⋯))) zk)))))))) (zx (ji Vt)) j1);refine zg ?_ ?_;exact(qj (T:= .nm 6) (xi hx) z.calm (jL z ⋯ a4 (ze 3 (z.var ⋯))) (z.tgt 6 ⋯) (zx (xp (ZI z (jE O ⋯ z ⋯ (zb (ze 5 (z.var ⋯)) (zb (ze 6 (z.var ⋯)) (zb (ze 6 (z.var ⋯)) zn)))) (zX (PV.q (zX (zv 4 (z.var ⋯)) zk)) (ze 6 (z.var ⋯)))) (zx (ji Vt)) j1)));refine zg ?_ ?_;exact(qj (T:= .tp [6,7]) (xi hx) z.calm (zcw z ⋯ a2 (zX (zv 4 (z.var ⋯)) zk)) (z.tgts (zS (z.tgt 6 ⋯) (zS (z.tgt 7 ⋯) j8))) ((by refine zg ?_ ?_;exact(wR (T:= .tp [8,9,10]) (z.tgts (zS (z.tgt 8 ⋯) (zS (z.tgt 9 ⋯) (zS (z.tgt 10 ⋯) j8)))) (zX (zv 7 (z.var ⋯)) zk));exact(zx (xp (ZI z (jE O ⋯ z ⋯ (zb (ze 5 (z.var ⋯)) (zb (ze 6 (z.var ⋯)) (zb (jm (ze 6 (z.var ⋯)) zk) zn)))) (xo z ⋯ a3 (PO.q (yp Z ⋯ z ⋯ (zb (ze 2 (z.var ⋯)) (zb (ze 9 (z.var ⋯)) (zb (ze 10 (z.var ⋯)) zn))))))) (zx (ji Vt)) j1)))));refine zg ?_ ?_;exact(z9 11 (z.set 11 ⋯ (jU (jE I ⋯ z ⋯ (zb (ze 0 (z.var ⋯)) (zb zk zn))) (ze 3 (z.var ⋯)))));refine zg ?_ ?_;exact(z9 12 (z.set 12 ⋯ (jm (ze 11 (z.var ⋯)) (jU (yQ (jE I ⋯ z ⋯ (zb (ze 0 (z.var ⋯)) (zb zk zn))) zk) (xh (ze 3 (z.var ⋯)) (ze 11 (z.var ⋯)))))));refine zg ?_ ?_;exact(z9 13 (z.set 13 ⋯ (jE J ⋯ z ⋯ (zb (ze 4 (z.var ⋯)) (zb (ze 11 (z.var ⋯)) (zb (ze 12 (z.var ⋯)) zn))))));refine zg ?_ ?_;exact(xp (Vu (zcg (ZI z (ze 13 (z.var ⋯)) (jE O ⋯ z ⋯ (zb (ze 5 (z.var ⋯)) (zb (ze 11 (z.var ⋯)) (zb (ze 12 (z.var ⋯)) zn))))) (zaF (Vu (Jv (ZJ (ze 11 (z.var ⋯)) zk) (wN (ZJ (jE J ⋯ z ⋯ (zb (ze 4 (z.var ⋯)) (zb (xh (ze 11 (z.var ⋯)) zk) (zb (ze 12 (z.var ⋯)) zn)))) (ze 13 (z.var ⋯))))))))) (zx (ji Vt)) j1);exact(zx (ji (zeu (zey z (jm (ze 12 (z.var ⋯)) zk) (ze 3 (z.var ⋯))) (Ks (zev (jE J ⋯ z ⋯ (zb (ze 4 (z.var ⋯)) (zb (ze 11 (z.var ⋯)) (zb (jm (ze 12 (z.var ⋯)) zk) zn)))) (ze 13 (z.var ⋯))))))))
theorem ok_init{f C:Addr}{fd:FuncData}(I:L2.Fun K "__init__" "Arrow.__init__" (inCls (top 17) 0) f fd)(c:ClsA K C):FnOk P w K mg base CX0 1 f fd ["self","p","table"] (yN C):=
 zbg (k:=0) I ⋯ c λX J hw O hm S z=>by
  subst J hw O hm S;exact Ql (WQ (z.var ⋯) (z.var ⋯) rfl) (yS (WQ (z.var ⋯) (z.var ⋯) rfl))
theorem ok_forthR{f C:Addr}{fd:FuncData}(J:L2.Fun K "forth" "Right.forth" (inCls (top 18) 0) f fd)(c:ClsA K C)(O:FnD P w K mg base 4 "led_on" 3 F_led_on):FnOk P w K mg base CX0 5 f fd ["self","base"] (spForth K C F_led_on):=
 QH (k:=4) J ⋯ c λX S hw U hm I z=>by
  subst S hw U hm I;obtain⟨fa,fd,ps,hn,G,hm,Y,I⟩:=O.ex;rw [hn]at G;exact yS (wa (yW G (z.room.mono ⋯) (z.gl (x:="led_on") ⋯).1 hm Y I .nil ZO (zT (Qr (z.var ⋯) rfl) (zT (Qr (z.var ⋯) rfl) (zT (z.var ⋯) jF)))))
theorem ok_forthL{f C:Addr}{fd:FuncData}(J:L2.Fun K "forth" "Left.forth" (inCls (top 19) 0) f fd)(c:ClsA K C)(O:FnD P w K mg base 4 "led_into" 3 F_led_into):FnOk P w K mg base CX0 5 f fd ["self","base"] (spForth K C F_led_into):=
 QH (k:=4) J ⋯ c λX S hw U hm I z=>by
  subst S hw U hm I;obtain⟨fa,fd,ps,hn,G,hm,Y,I⟩:=O.ex;rw [hn]at G;exact yS (wa (yW G (z.room.mono ⋯) (z.gl (x:="led_into") ⋯).1 hm Y I .nil ZO (zT (Qr (z.var ⋯) rfl) (zT (Qr (z.var ⋯) rfl) (zT (z.var ⋯) jF)))))
theorem ok_by{f fI CR CL:Addr}{fd I:FuncData}(O:L2.Fun K "arrow_by" "arrow_by" (top 20) f fd)(S:Mk K CR fI)(U:Mk K CL fI)(Y:FnOk P w K mg base CX0 1 fI I ["self","p","table"] (yN CR))(GL:FnOk P w K mg base CX0 1 fI I ["self","p","table"] (yN CL))(J:Binds K I ["self","p","table"] [])(mR:mg "Right" = some (.ref CR))(mL:mg "Left" = some (.ref CL)):FnOk P w K mg base CX0 3 f fd ["p","way","table"] (spBy CR CL):=
 zeY (k:=2) O ⋯ λX Z hw hK hm hb z=>by
  subst Z hw hK hm hb;exact yS (wa (L2.pe_ifExp (Kv zeF (z.var ⋯) WU (by with_unfolding_all rfl)) (KG S Y (z.room.mono ⋯) (z.gl (x:="Right") ⋯).1 mR J .nil ZO (zT (z.var ⋯) (zT (z.var ⋯) jF))) (KG U GL (z.room.mono ⋯) (z.gl (x:="Left") ⋯).1 mL J .nil ZO (zT (z.var ⋯) (zT (z.var ⋯) jF)))))
end
end DL
namespace PySem.W.Fast
def tw239215665261369656:=0
def tw2127587297162954809:=0
def tw1150156666402095960:=0
def tw14592066838203220957:=0
def tw217814589550308596:=0
def tw16538065677823575197:=0
def tw11601185398454356202:=0
def tw2235516365745805089:=0
def tw4120888235077826338:=0
def tw4100453539736610560:=0
def tw8152883697022521085:=0
def tw6479672762722552520:=0
def tw15414385315438704633:=0
def tw10842464055668068054:=0
def tw362542197742081657:=0
def tw6997984748564171551:=0
def tw1021392248833086756:=0
def tw15065086490613880905:=0
def tw7400982646645997631:=0
def tw9762785026285059740:=0
def tw4086321450306729439:=0
def tw14866834717235627493:=0
def tw7957458556352048501:=0
def tw14941599377505896910:=0
def tw4133342894348852988:=0
def tw13240602412218108764:=0
def tw12311361026128376740:=0
def tw313254393766428765:=0
def tw4399821124469700021:=0
def tw7178524102698427725:=0
def tw1648574500911178853:=0
def tw17104850650514450058:=0
def tw7310210618282685413:=0
def tw15425898078806261739:=0
def tw12795156833481393743:=0
def tw16717827569113845121:=0
def tw9285311708872852010:=0
def tw15671293082970730733:=0
end PySem.W.Fast
open PySem PySem.W PyProof.Rows
set_option maxRecDepth 100000 in
set_option maxHeartbeats 0 in
theorem PySem.Challenge.cw_barsplit_k27_whole_widths_and_ranks_holds : PySem.Challenge.rw_barsplit_k27_whole_widths_and_ranks.Holds := by
 w_on;o_law;k_head;(case hw=>w_witness2)
 k_fill
 refine L2.walk_ofK (l:=zgh) (n:=63) (k:=9) (x:="_law_script") (CX:=L2.CX0) (sp:=λK=>DL.spF K 1 DL.F_law_k27) rfl ⋯ rfl ⟨rfl,by decide,by decide⟩ (λw h Y=>PySem.W.kIn_of Y) ?F ?S ?C
 case S=>exact λK H a ns J hO hS=>DL.law_true hS (DL.law_k27 ns J)
 case C=>exact λ_ _ _ _ z=>z
 case F=>
  intro w mg fa h I G ai;have aj:mg "all" = none:=zg0 I G (by k_is);have ak:mg "any" = none:=zg0 I G (by k_is);have al:mg "bool" = none:=zg0 I G (by k_is);have am:mg "dict" = none:=zg0 I G (by k_is);have a1:mg "enumerate" = none:=zg0 I G (by k_is);have a7:mg "int" = none:=zg0 I G (by k_is);have an:mg "isinstance" = none:=zg0 I G (by k_is);have U:mg "len" = none:=zg0 I G (by k_is);have ao:mg "list" = none:=zg0 I G (by k_is);have ap:mg "min" = none:=zg0 I G (by k_is);have O:mg "range" = none:=zg0 I G (by k_is);have a8:mg "sum" = none:=zg0 I G (by k_is);have Z:mg "tuple" = none:=zg0 I G (by k_is);have a0:mg "zip" = none:=zg0 I G (by k_is);have aq:DL.DefAt (L2.KOf I) mg "_law_cell" (DL.top 32) ["_law_script","_law_k"]:=by
   dsimp only [L2.KOf];refine' DL.def_mk I G ?a ?l ?c ?k ?b
   (case a=>k_is);(case l=>k_is);(case c=>k_is);(case k=>k_is)
   (case b=>intro _ _ _ _ _ _ us J;obtain⟨_,_,rfl⟩:=DL.len2 J;rfl)
  have ar:DL.DefAt (L2.KOf I) mg "_law_ends" (DL.top 36) ["_law_k","_law_way"]:=by
   dsimp only [L2.KOf];refine' DL.def_mk I G ?a ?l ?c ?k ?b
   (case a=>k_is);(case l=>k_is);(case c=>k_is);(case k=>k_is)
   (case b=>intro _ _ _ _ _ _ us J;obtain⟨_,_,rfl⟩:=DL.len2 J;rfl)
  have as:DL.DefAt (L2.KOf I) mg "_law_row" (DL.top 37) ["_law_p","_law_ways_here","_law_widths","_law_tables"]:=by
   dsimp only [L2.KOf];refine' DL.def_mk I G ?a ?l ?c ?k ?b
   (case a=>k_is);(case l=>k_is);(case c=>k_is);(case k=>k_is)
   (case b=>intro _ _ _ _ _ _ us J;obtain⟨_,_,_,_,rfl⟩:=DL.len4 J;rfl)
  have au:DL.DefAt (L2.KOf I) mg "_law_rows" (DL.top 39) ["_law_script","_law_at","_law_p","_law_high","_law_wide"]:=by
   dsimp only [L2.KOf];refine' DL.def_mk I G ?a ?l ?c ?k ?b
   (case a=>k_is);(case l=>k_is);(case c=>k_is);(case k=>k_is)
   (case b=>intro _ _ _ _ _ _ us J;obtain⟨_,_,_,_,_,rfl⟩:=DL.len5 J;rfl)
  have av:DL.DefAt (L2.KOf I) mg "_law_drawn" (DL.top 40) ["_law_script","_law_at","_law_p","_law_ways_here","_law_most"]:=by
   dsimp only [L2.KOf];refine' DL.def_mk I G ?a ?l ?c ?k ?b
   (case a=>k_is);(case l=>k_is);(case c=>k_is);(case k=>k_is)
   (case b=>intro _ _ _ _ _ _ us J;obtain⟨_,_,_,_,_,rfl⟩:=DL.len5 J;rfl)
  have aw:DL.DefAt (L2.KOf I) mg "stretches_of" (DL.top 28) ["many"]:=by
   dsimp only [L2.KOf];refine' DL.def_mk I G ?a ?l ?c ?k ?b
   (case a=>k_is);(case l=>k_is);(case c=>k_is);(case k=>k_is)
   (case b=>intro _ _ _ _ _ _ us J;obtain⟨_,rfl⟩:=DL.len1 J;rfl)
  have ax:DL.DefAt (L2.KOf I) mg "rests" (DL.top 4) ["p","numbers"]:=by
   dsimp only [L2.KOf];refine' DL.def_mk I G ?a ?l ?c ?k ?b
   (case a=>k_is);(case l=>k_is);(case c=>k_is);(case k=>k_is)
   (case b=>intro _ _ _ _ _ _ us J;obtain⟨_,_,rfl⟩:=DL.len2 J;rfl)
  have ay:DL.DefAt (L2.KOf I) mg "inverse" (DL.top 5) ["p","x"]:=by
   dsimp only [L2.KOf];refine' DL.def_mk I G ?a ?l ?c ?k ?b
   (case a=>k_is);(case l=>k_is);(case c=>k_is);(case k=>k_is)
   (case b=>intro _ _ _ _ _ _ us J;obtain⟨_,_,rfl⟩:=DL.len2 J;rfl)
  have az:DL.DefAt (L2.KOf I) mg "cleared" (DL.top 11) ["p","load","pivot","place"]:=by
   dsimp only [L2.KOf];refine' DL.def_mk I G ?a ?l ?c ?k ?b
   (case a=>k_is);(case l=>k_is);(case c=>k_is);(case k=>k_is)
   (case b=>intro _ _ _ _ _ _ us J;obtain⟨_,_,_,_,rfl⟩:=DL.len4 J;rfl)
  have b0:DL.DefAt (L2.KOf I) mg "base_of" (DL.top 12) ["p","long","loads"]:=by
   dsimp only [L2.KOf];refine' DL.def_mk I G ?a ?l ?c ?k ?b
   (case a=>k_is);(case l=>k_is);(case c=>k_is);(case k=>k_is)
   (case b=>intro _ _ _ _ _ _ us J;obtain⟨_,_,_,rfl⟩:=DL.len3 J;rfl)
  have b9:DL.DefAt (L2.KOf I) mg "led" (DL.top 6) ["p","table","load"]:=by
   dsimp only [L2.KOf];refine' DL.def_mk I G ?a ?l ?c ?k ?b
   (case a=>k_is);(case l=>k_is);(case c=>k_is);(case k=>k_is)
   (case b=>intro _ _ _ _ _ _ us J;obtain⟨_,_,_,rfl⟩:=DL.len3 J;rfl)
  have ba:DL.DefAt (L2.KOf I) mg "led_on" (DL.top 14) ["p","table","base"]:=by
   dsimp only [L2.KOf];refine' DL.def_mk I G ?a ?l ?c ?k ?b
   (case a=>k_is);(case l=>k_is);(case c=>k_is);(case k=>k_is)
   (case b=>intro _ _ _ _ _ _ us J;obtain⟨_,_,_,rfl⟩:=DL.len3 J;rfl)
  have bb:DL.DefAt (L2.KOf I) mg "behind_noughts" (DL.top 13) ["many","base"]:=by
   dsimp only [L2.KOf];refine' DL.def_mk I G ?a ?l ?c ?k ?b
   (case a=>k_is);(case l=>k_is);(case c=>k_is);(case k=>k_is)
   (case b=>intro _ _ _ _ _ _ us J;obtain⟨_,_,rfl⟩:=DL.len2 J;rfl)
  have bc:DL.DefAt (L2.KOf I) mg "turned_over" (DL.top 7) ["table"]:=by
   dsimp only [L2.KOf];refine' DL.def_mk I G ?a ?l ?c ?k ?b
   (case a=>k_is);(case l=>k_is);(case c=>k_is);(case k=>k_is)
   (case b=>intro _ _ _ _ _ _ us J;obtain⟨_,rfl⟩:=DL.len1 J;rfl)
  have bd:DL.DefAt (L2.KOf I) mg "same_table" (DL.top 8) ["many"]:=by
   dsimp only [L2.KOf];refine' DL.def_mk I G ?a ?l ?c ?k ?b
   (case a=>k_is);(case l=>k_is);(case c=>k_is);(case k=>k_is)
   (case b=>intro _ _ _ _ _ _ us J;obtain⟨_,rfl⟩:=DL.len1 J;rfl)
  have be:DL.DefAt (L2.KOf I) mg "led_into" (DL.top 15) ["p","table","base"]:=by
   dsimp only [L2.KOf];refine' DL.def_mk I G ?a ?l ?c ?k ?b
   (case a=>k_is);(case l=>k_is);(case c=>k_is);(case k=>k_is)
   (case b=>intro _ _ _ _ _ _ us J;obtain⟨_,_,_,rfl⟩:=DL.len3 J;rfl)
  have bf:DL.DefAt (L2.KOf I) mg "tables_joined" (DL.top 22) ["one","other","join"]:=by
   dsimp only [L2.KOf];refine' DL.def_mk I G ?a ?l ?c ?k ?b
   (case a=>k_is);(case l=>k_is);(case c=>k_is);(case k=>k_is)
   (case b=>intro _ _ _ _ _ _ us J;obtain⟨_,_,_,rfl⟩:=DL.len3 J;rfl)
  have bg:DL.DefAt (L2.KOf I) mg "nought_table" (DL.top 9) ["high","wide"]:=by
   dsimp only [L2.KOf];refine' DL.def_mk I G ?a ?l ?c ?k ?b
   (case a=>k_is);(case l=>k_is);(case c=>k_is);(case k=>k_is)
   (case b=>intro _ _ _ _ _ _ us J;obtain⟨_,_,rfl⟩:=DL.len2 J;rfl)
  have bh:DL.DefAt (L2.KOf I) mg "no_join" (DL.top 23) ["one","other"]:=by
   dsimp only [L2.KOf];refine' DL.def_mk I G ?a ?l ?c ?k ?b
   (case a=>k_is);(case l=>k_is);(case c=>k_is);(case k=>k_is)
   (case b=>intro _ _ _ _ _ _ us J;obtain⟨_,_,rfl⟩:=DL.len2 J;rfl)
  have bi:DL.DefAt (L2.KOf I) mg "tables_beside" (DL.top 24) ["one","other"]:=by
   dsimp only [L2.KOf];refine' DL.def_mk I G ?a ?l ?c ?k ?b
   (case a=>k_is);(case l=>k_is);(case c=>k_is);(case k=>k_is)
   (case b=>intro _ _ _ _ _ _ us J;obtain⟨_,_,rfl⟩:=DL.len2 J;rfl)
  have bj:DL.DefAt (L2.KOf I) mg "link" (DL.top 26) ["row","i","j"]:=by
   dsimp only [L2.KOf];refine' DL.def_mk I G ?a ?l ?c ?k ?b
   (case a=>k_is);(case l=>k_is);(case c=>k_is);(case k=>k_is)
   (case b=>intro _ _ _ _ _ _ us J;obtain⟨_,_,_,rfl⟩:=DL.len3 J;rfl)
  have bl:DL.DefAt (L2.KOf I) mg "kept" (DL.top 27) ["row","i","j"]:=by
   dsimp only [L2.KOf];refine' DL.def_mk I G ?a ?l ?c ?k ?b
   (case a=>k_is);(case l=>k_is);(case c=>k_is);(case k=>k_is)
   (case b=>intro _ _ _ _ _ _ us J;obtain⟨_,_,_,rfl⟩:=DL.len3 J;rfl)
  have bm:DL.DefAt (L2.KOf I) mg "number_of" (DL.top 29) ["much","i","j"]:=by
   dsimp only [L2.KOf];refine' DL.def_mk I G ?a ?l ?c ?k ?b
   (case a=>k_is);(case l=>k_is);(case c=>k_is);(case k=>k_is)
   (case b=>intro _ _ _ _ _ _ us J;obtain⟨_,_,_,rfl⟩:=DL.len3 J;rfl)
  have bn:DL.DefAt (L2.KOf I) mg "numbers" (DL.top 30) ["row"]:=by
   dsimp only [L2.KOf];refine' DL.def_mk I G ?a ?l ?c ?k ?b
   (case a=>k_is);(case l=>k_is);(case c=>k_is);(case k=>k_is)
   (case b=>intro _ _ _ _ _ _ us J;obtain⟨_,rfl⟩:=DL.len1 J;rfl)
  have bo:DL.DefAt (L2.KOf I) mg "_law_ways" (DL.top 38) ["_law_cell_here","_law_rooms"]:=by
   dsimp only [L2.KOf];refine' DL.def_mk I G ?a ?l ?c ?k ?b
   (case a=>k_is);(case l=>k_is);(case c=>k_is);(case k=>k_is)
   (case b=>intro _ _ _ _ _ _ us J;obtain⟨_,_,rfl⟩:=DL.len2 J;rfl)
  have bp:DL.DefAt (L2.KOf I) mg "_law_having" (DL.top 41) ["_law_found","_law_i","_law_j"]:=by
   dsimp only [L2.KOf];refine' DL.def_mk I G ?a ?l ?c ?k ?b
   (case a=>k_is);(case l=>k_is);(case c=>k_is);(case k=>k_is)
   (case b=>intro _ _ _ _ _ _ us J;obtain⟨_,_,_,rfl⟩:=DL.len3 J;rfl)
  have bq:DL.DefAt (L2.KOf I) mg "_law_less" (DL.top 33) ["_law_p","_law_row_here","_law_other","_law_times"]:=by
   dsimp only [L2.KOf];refine' DL.def_mk I G ?a ?l ?c ?k ?b
   (case a=>k_is);(case l=>k_is);(case c=>k_is);(case k=>k_is)
   (case b=>intro _ _ _ _ _ _ us J;obtain⟨_,_,_,_,rfl⟩:=DL.len4 J;rfl)
  have br:DL.DefAt (L2.KOf I) mg "_law_base" (DL.top 34) ["_law_p","_law_long","_law_loads"]:=by
   dsimp only [L2.KOf];refine' DL.def_mk I G ?a ?l ?c ?k ?b
   (case a=>k_is);(case l=>k_is);(case c=>k_is);(case k=>k_is)
   (case b=>intro _ _ _ _ _ _ us J;obtain⟨_,_,_,rfl⟩:=DL.len3 J;rfl)
  have bt:DL.DefAt (L2.KOf I) mg "_law_whole" (DL.top 35) ["_law_found"]:=by
   dsimp only [L2.KOf];refine' DL.def_mk I G ?a ?l ?c ?k ?b
   (case a=>k_is);(case l=>k_is);(case c=>k_is);(case k=>k_is)
   (case b=>intro _ _ _ _ _ _ us J;obtain⟨_,rfl⟩:=DL.len1 J;rfl)
  have bu:DL.DefAt (L2.KOf I) mg "law" (DL.top 42) ["_law_script"]:=by
   dsimp only [L2.KOf];refine' DL.def_mk I G ?a ?l ?c ?k ?b
   (case a=>k_is);(case l=>k_is);(case c=>k_is);(case k=>k_is)
   (case b=>intro _ _ _ _ _ _ us J;obtain⟨_,rfl⟩:=DL.len1 J;rfl)
  have AR:DL.ArrAt (L2.KOf I) mg (DL.inCls (DL.top 17) 0) (DL.inCls (DL.top 18) 0) (DL.inCls (DL.top 19) 0):=by
   dsimp only [L2.KOf];refine' DL.arr_mk I G ?nR ?nL ?iR ?iL ?mR ?mL ?uI ?uR ?uL ?vI ?vR ?vL ?w1 ?w2 ?w3 ?z1 ?z2 ?z3 ?bR ?bL ?gI ?gR ?gL
   (case nR=>k_is)
   (case nL=>k_is)
   (case iR=>k_is)
   (case iL=>k_is)
   (case mR=>k_is)
   (case mL=>k_is)
   (case uI=>k_is)
   (case uR=>k_is)
   (case uL=>k_is)
   (case vI=>k_is)
   (case vR=>k_is)
   (case vL=>k_is)
   (case w1=>k_is)
   (case w2=>k_is)
   (case w3=>k_is)
   (case z1=>k_is)
   (case z2=>k_is)
   (case z3=>k_is)
   (case bR=>kernel_rfl)
   (case bL=>kernel_rfl)
   (case gI=>intro _ _ _ _ _ _ us J;obtain⟨_,_,_,rfl⟩:=DL.len3 J;rfl)
   (case gR=>intro _ _ _ _ _ _ us J;obtain⟨_,_,rfl⟩:=DL.len2 J;rfl)
   (case gL=>intro _ _ _ _ _ _ us J;obtain⟨_,_,rfl⟩:=DL.len2 J;rfl)
  have bw:DL.DefAt (L2.KOf I) mg "arrow_by" (DL.top 20) ["p","way","table"]:=by
   dsimp only [L2.KOf];refine' DL.def_mk I G ?a ?l ?c ?k ?b
   (case a=>k_is);(case l=>k_is);(case c=>k_is);(case k=>k_is)
   (case b=>intro _ _ _ _ _ _ us J;obtain⟨_,_,_,rfl⟩:=DL.len3 J;rfl)
  obtain⟨f,fd,Fu,hb,hm⟩:=bu.ex;have e0:=ai.symm.trans hm;cases e0;refine⟨fd,λs u=> .of_eq (hb [u] rfl),λbase kb nb=>?_⟩;obtain⟨CR,CL,fI,fR,fL,dI,dR,dL,q1,q2,q3,q4,q5,q6,q7,q8,q9,c7,c8,c9,ca,cb⟩:=AR.ex;obtain⟨cc,cd,aa,ce,cf⟩:=bw.ex;have cg:DL.FnBy (zgh).prog w (L2.KOf I) mg base 3 "arrow_by" CR CL:=⟨cc,cd,DL.ok_by aa q3 q4 (DL.ok_init q9 q5) (DL.ok_init q9 q6) c9 q1 q2,cf,aa.kp,.all ce⟩;have a4:DL.FnD (zgh).prog w (L2.KOf I) mg base 1 "_law_cell" 2 DL.F_law_cell:=DL.ok_law_cell aq U ap O;have ab:DL.FnD (zgh).prog w (L2.KOf I) mg base 1 "_law_ends" 2 DL.F_law_ends_k22:=DL.ok_law_ends_k22 ar;have ch:DL.FnD (zgh).prog w (L2.KOf I) mg base 2 "_law_row" 4 DL.F_law_row_k22:=DL.ok_law_row_k22 as ab a1 Z;have ci:DL.FnD (zgh).prog w (L2.KOf I) mg base 2 "_law_rows" 5 DL.F_law_rows_k22:=DL.ok_law_rows_k22 au a4 a7 O;have cj:DL.FnD (zgh).prog w (L2.KOf I) mg base 3 "_law_drawn" 5 DL.F_law_drawn_k22:=DL.ok_law_drawn_k22 av ch ab a4 ci a1 U O;have ck:DL.FnD (zgh).prog w (L2.KOf I) mg base 1 "stretches_of" 1 DL.F_stretches_of:=DL.ok_stretches_of aw O;have a5:DL.FnD (zgh).prog w (L2.KOf I) mg base 1 "rests" 2 DL.F_rests:=DL.ok_rests ax Z;have cl:DL.FnD (zgh).prog w (L2.KOf I) mg base 1 "inverse" 2 DL.F_inverse:=DL.ok_inverse ay O;have cm:DL.FnD (zgh).prog w (L2.KOf I) mg base 2 "cleared" 4 DL.F_cleared:=DL.ok_cleared az a5 a0;have a6:DL.FnD (zgh).prog w (L2.KOf I) mg base 3 "base_of" 3 DL.F_base_of:=DL.ok_base_of b0 a5 cl cm O;have cn:DL.FnD (zgh).prog w (L2.KOf I) mg base 2 "led" 3 DL.F_led:=DL.ok_led b9 a5 a8 a0;have ac:DL.FnD (zgh).prog w (L2.KOf I) mg base 4 "led_on" 3 DL.F_led_on:=DL.ok_led_on ba a6 cn;have ad:DL.FnD (zgh).prog w (L2.KOf I) mg base 1 "behind_noughts" 2 DL.F_behind_noughts:=DL.ok_behind_noughts bb ak;have co:DL.FnD (zgh).prog w (L2.KOf I) mg base 1 "turned_over" 1 DL.F_turned_over:=DL.ok_turned_over bc O Z;have ae:DL.FnD (zgh).prog w (L2.KOf I) mg base 1 "same_table" 1 DL.F_same_table:=DL.ok_same_table bd O Z;have af:DL.FnD (zgh).prog w (L2.KOf I) mg base 4 "led_into" 3 DL.F_led_into:=DL.ok_led_into be ad a6 co ae a0;have cp:DL.FnD (zgh).prog w (L2.KOf I) mg base 1 "tables_joined" 3 DL.F_tables_joined:=DL.ok_tables_joined bf Z a0;have cq:DL.FnD (zgh).prog w (L2.KOf I) mg base 1 "nought_table" 2 DL.F_nought_table:=DL.ok_nought_table bg;have cr:DL.FnD (zgh).prog w (L2.KOf I) mg base 2 "no_join" 2 DL.F_no_join:=DL.ok_no_join bh cq;have cs:DL.FnD (zgh).prog w (L2.KOf I) mg base 3 "tables_beside" 2 DL.F_tables_beside_5:=DL.ok_tables_beside_5 bi cp cr;have ct:DL.MethAt (zgh).prog w (L2.KOf I) mg base 5 CR DL.F_led_on:=⟨q5,fR,dR,q7,DL.ok_forthR c7 q5 ac,ca⟩;have cu:DL.MethAt (zgh).prog w (L2.KOf I) mg base 5 CL DL.F_led_into:=⟨q6,fL,dL,q8,DL.ok_forthL c8 q6 af,cb⟩;have cv:DL.FnD (zgh).prog w (L2.KOf I) mg base 6 "link" 3 DL.F_link:=DL.ok_link bj ac af ae cs cg ct cu;have ag:DL.FnD (zgh).prog w (L2.KOf I) mg base 7 "kept" 3 DL.F_kept:=DL.ok_kept bl cv a6 ad U;have cw:DL.FnD (zgh).prog w (L2.KOf I) mg base 1 "number_of" 3 DL.F_number_of:=DL.ok_number_of bm;have cx:DL.FnD (zgh).prog w (L2.KOf I) mg base 8 "numbers" 1 DL.F_numbers:=DL.ok_numbers bn ck ag cw am U;have cy:DL.FnD (zgh).prog w (L2.KOf I) mg base 1 "_law_ways" 2 DL.F_law_ways_k22:=DL.ok_law_ways_k22 bo O;have cz:DL.FnD (zgh).prog w (L2.KOf I) mg base 1 "_law_having" 3 DL.F_law_having:=DL.ok_law_having bp a8;have d0:DL.FnD (zgh).prog w (L2.KOf I) mg base 1 "_law_less" 4 DL.F_law_less_k22:=DL.ok_law_less_k22 bq a0;have d1:DL.FnD (zgh).prog w (L2.KOf I) mg base 2 "_law_base" 3 DL.F_law_base_k22:=DL.ok_law_base_k22 br d0 U ao O Z;have d2:DL.FnD (zgh).prog w (L2.KOf I) mg base 1 "_law_whole" 1 DL.F_law_whole:=DL.ok_law_whole bt al a7 an;exact DL.ok_law Fu a4 cj cx ag cy cz d1 d2 aj a1 U O
